/- Plain mathematics of layer 11 (tensor): the lists of windows. No program. -/
import Derived.Test.YtlbmllhjmgccaaaPlain2
namespace Go.Proofs.Ytlbmllhjmgccaaa
set_option linter.unusedVariables false
def sideB (n : Int) : Bool := decide (1 ≤ n ∧ n ≤ 64)
/-- how many windows fit beside each other -/
def outs (H k st pad : Int) : Int := (H + 2 * pad - k) / st + 1
def winArg (l : List Int) (kh kw st pad : Int) : Bool := okB l && sideB kh && sideB kw && sideB st && decide (0 ≤ pad) && decide (pad < kh) && decide (pad < kw)
/-- the error of windows over a shape -/
def winErr (l : List Int) (kh kw st pad : Int) : Int :=
  if winArg l kh kw st pad = false then 1
  else if l.length ≠ 3 ∨ l.getD 1 0 + 2 * pad < kh ∨ l.getD 2 0 + 2 * pad < kw then 7
  else if 262144 < outs (l.getD 1 0) kh st pad * outs (l.getD 2 0) kw st pad * l.getD 0 0 * kh * kw then 8 else 0
def winRow (H W st pad : Int) (kh kw C : Nat) (r n : Nat) : List (List Int) := (List.range n).map fun c => chans H W (r * st - pad) ((c : Nat) * st - pad) kh kw C
def winRows (H W st pad : Int) (kh kw C cols : Nat) (n : Nat) : List (List Int) := (List.range n).flatMap fun r => winRow H W st pad kh kw C r cols
/-- the windows -/
def wins (l : List Int) (kh kw st pad : Int) : List (List Int) :=
  winRows (l.getD 1 0) (l.getD 2 0) st pad kh.toNat kw.toNat (l.getD 0 0).toNat (outs (l.getD 2 0) kw st pad).toNat (outs (l.getD 1 0) kh st pad).toNat
def WsInv (H W st pad : Int) (kh kw C cols r c : Nat) (ws : List (List Int)) : Prop := ws = winRows H W st pad kh kw C cols r ++ winRow H W st pad kh kw C r c
theorem wsInv_zero (H W st pad : Int) (kh kw C cols : Nat) : WsInv H W st pad kh kw C cols 0 0 [] := by simp [WsInv, winRows, winRow]
theorem wsInv_c {H W st pad : Int} {kh kw C cols r c : Nat} {ws : List (List Int)} (h : WsInv H W st pad kh kw C cols r c ws) : WsInv H W st pad kh kw C cols r (c + 1) (ws ++ [chans H W (r * st - pad) ((c : Nat) * st - pad) kh kw C]) := by
  unfold WsInv at *; rw [h]; simp [winRow, List.range_succ]
theorem wsInv_r {H W st pad : Int} {kh kw C cols r : Nat} {ws : List (List Int)} (h : WsInv H W st pad kh kw C cols r cols ws) : WsInv H W st pad kh kw C cols (r + 1) 0 ws := by
  unfold WsInv at *; rw [h]; simp [winRows, winRow, List.range_succ]
theorem wsInv_end {H W st pad : Int} {kh kw C cols r : Nat} {ws : List (List Int)} (h : WsInv H W st pad kh kw C cols r 0 ws) : ws = winRows H W st pad kh kw C cols r := by
  unfold WsInv at *; rw [h]; simp [winRow]
theorem len_winRow (H W st pad : Int) (kh kw C : Nat) (r n : Nat) : (winRow H W st pad kh kw C r n).length = n := by simp [winRow]
theorem len_flat2 {α : Type} (f : Nat → List α) (m : Nat) (h : ∀ i, (f i).length = m) (n : Nat) : ((List.range n).flatMap f).length = n * m := len_flat f m h n
theorem len_winRows (H W st pad : Int) (kh kw C cols n : Nat) : (winRows H W st pad kh kw C cols n).length = n * cols := len_flat2 _ _ (fun _ => len_winRow ..) n
theorem wsInv_len {H W st pad : Int} {kh kw C cols r c : Nat} {ws : List (List Int)} (h : WsInv H W st pad kh kw C cols r c ws) (hr : r ≤ 16600) (hc : c ≤ 16600) (hcols : cols ≤ 16600) : ws.length ≤ 275576600 := by
  unfold WsInv at h; rw [h, List.length_append, len_winRows, len_winRow]
  have := Nat.mul_le_mul hr hcols
  omega
theorem outs_bd {H k st pad : Int} (h1 : 1 ≤ H) (h2 : H ≤ 16384) (hk : 1 ≤ k) (hk2 : k ≤ 64) (hs : 1 ≤ st) (hp : 0 ≤ pad) (hp2 : pad < k) (hf : k ≤ H + 2 * pad) : 1 ≤ outs H k st pad ∧ outs H k st pad ≤ 16600 := by
  unfold outs
  have a := Int.ediv_nonneg (show 0 ≤ H + 2 * pad - k by omega) (show 0 ≤ st by omega)
  have b := Int.ediv_le_self st (show 0 ≤ H + 2 * pad - k by omega)
  omega
theorem five_bd {R S C kh kw : Int} (r1 : 1 ≤ R) (r2 : R ≤ 16600) (s1 : 1 ≤ S) (s2 : S ≤ 16600) (c1 : 1 ≤ C) (c2 : C ≤ 16384) (h1 : 1 ≤ kh) (h2 : kh ≤ 64) (w1 : 1 ≤ kw) (w2 : kw ≤ 64) :
    (1 ≤ R * S ∧ R * S ≤ 275560000) ∧ (1 ≤ R * S * C ∧ R * S * C ≤ 4514775040000) ∧ (1 ≤ R * S * C * kh ∧ R * S * C * kh ≤ 288945602560000) ∧ (1 ≤ R * S * C * kh * kw ∧ R * S * C * kh * kw ≤ 18492518563840000) := by
  have a1 := Int.mul_le_mul r1 s1 (by omega) (by omega)
  have a2 := Int.mul_le_mul r2 s2 (by omega) (by omega)
  have b1 := Int.mul_le_mul (show 1 ≤ R * S by omega) c1 (by omega) (by omega)
  have b2 := Int.mul_le_mul (show R * S ≤ 275560000 by omega) c2 (by omega) (by omega)
  have d1 := Int.mul_le_mul (show 1 ≤ R * S * C by omega) h1 (by omega) (by omega)
  have d2 := Int.mul_le_mul (show R * S * C ≤ 4514775040000 by omega) h2 (by omega) (by omega)
  have e1 := Int.mul_le_mul (show 1 ≤ R * S * C * kh by omega) w1 (by omega) (by omega)
  have e2 := Int.mul_le_mul (show R * S * C * kh ≤ 288945602560000 by omega) w2 (by omega) (by omega)
  omega
/-- the reasons why an argument is wrong, in the order of the tests -/
theorem winArg_cases {l : List Int} {kh kw st pad : Int} (h : winArg l kh kw st pad = false) :
    okB l = false ∨ (okB l = true ∧ sideB kh = false) ∨ (okB l = true ∧ sideB kh = true ∧ sideB kw = false) ∨ (okB l = true ∧ sideB kh = true ∧ sideB kw = true ∧ sideB st = false) ∨
    (okB l = true ∧ sideB kh = true ∧ sideB kw = true ∧ sideB st = true ∧ pad < 0) ∨ (okB l = true ∧ sideB kh = true ∧ sideB kw = true ∧ sideB st = true ∧ 0 ≤ pad ∧ kh ≤ pad) ∨
    (okB l = true ∧ sideB kh = true ∧ sideB kw = true ∧ sideB st = true ∧ 0 ≤ pad ∧ pad < kh ∧ kw ≤ pad) := by
  unfold winArg at h
  cases h1 : okB l <;> cases h2 : sideB kh <;> cases h3 : sideB kw <;> cases h4 : sideB st <;> simp [h1, h2, h3, h4] at h ⊢
  omega
theorem winArg_true {l : List Int} {kh kw st pad : Int} (h : winArg l kh kw st pad = true) : okB l = true ∧ sideB kh = true ∧ sideB kw = true ∧ sideB st = true ∧ 0 ≤ pad ∧ pad < kh ∧ pad < kw := by
  unfold winArg at h; simp at h; simp only [h, and_self]
theorem side_bd {n : Int} (h : sideB n = true) : 1 ≤ n ∧ n ≤ 64 := by simpa [sideB] using h
theorem three {l : List Int} (h : l.length = 3) : ∃ a b c, l = [a, b, c] := by
  match l, h with
  | [a, b, c], _ => exact ⟨a, b, c, rfl⟩

/-- what Windows answers: the windows, how many beside and below each other, the error -/
def winRes (l : List Int) (kh kw st pad : Int) : List (List Int) × Int × Int × Int :=
  if winErr l kh kw st pad = 0 then (wins l kh kw st pad, outs (l.getD 1 0) kh st pad, outs (l.getD 2 0) kw st pad, 0) else ([], 0, 0, winErr l kh kw st pad)
theorem winErr_ok {C H W kh kw st pad : Nat} (hb : winArg [(C : Int), H, W] kh kw st pad = true) (hs1 : kh ≤ H + 2 * pad) (hs2 : kw ≤ W + 2 * pad) :
    winErr [(C : Int), H, W] kh kw st pad = if 262144 < outs H kh st pad * outs W kw st pad * C * kh * kw then 8 else 0 := by
  unfold winErr; rw [if_neg (by rw [hb]; simp), if_neg (by simp; omega)]; rfl
end Go.Proofs.Ytlbmllhjmgccaaa
