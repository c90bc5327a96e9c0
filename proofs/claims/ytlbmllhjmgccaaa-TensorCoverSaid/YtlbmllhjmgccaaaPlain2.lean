/- Plain mathematics of layer 11 (tensor): windows. No program. -/
import Derived.Test.YtlbmllhjmgccaaaPlain
namespace Go.Proofs.Ytlbmllhjmgccaaa
/-- the index of an element of a window, -1 in the padding -/
def elemv (H W ch y x : Int) : Int := if 0 ≤ y ∧ y < H ∧ 0 ≤ x ∧ x < W then (ch * H + y) * W + x else -1
def rowJ (H W : Int) (ch : Nat) (y x : Int) (n : Nat) : List Int := (List.range n).map fun j => elemv H W ch y (x + (j : Nat))
def rowsI (H W : Int) (ch : Nat) (y x : Int) (kw n : Nat) : List Int := (List.range n).flatMap fun i => rowJ H W ch (y + (i : Nat)) x kw
def chans (H W : Int) (y x : Int) (kh kw n : Nat) : List Int := (List.range n).flatMap fun ch => rowsI H W ch y x kw kh
def WinInv (H W y x : Int) (kh kw ch i j : Nat) (xs : List Int) : Prop := xs = chans H W y x kh kw ch ++ rowsI H W ch y x kw i ++ rowJ H W ch (y + i) x j
theorem winInv_zero (H W y x : Int) (kh kw : Nat) : WinInv H W y x kh kw 0 0 0 [] := by simp [WinInv, chans, rowsI, rowJ]
theorem winInv_j {H W y x : Int} {kh kw ch i j : Nat} {xs : List Int} (h : WinInv H W y x kh kw ch i j xs) : WinInv H W y x kh kw ch i (j + 1) (xs ++ [elemv H W ch (y + i) (x + j)]) := by
  unfold WinInv at *; rw [h]; simp [rowJ, List.range_succ]
theorem winInv_i {H W y x : Int} {kh kw ch i : Nat} {xs : List Int} (h : WinInv H W y x kh kw ch i kw xs) : WinInv H W y x kh kw ch (i + 1) 0 xs := by
  unfold WinInv at *; rw [h]; simp [rowsI, List.range_succ, rowJ]
theorem winInv_ch {H W y x : Int} {kh kw ch : Nat} {xs : List Int} (h : WinInv H W y x kh kw ch kh 0 xs) : WinInv H W y x kh kw (ch + 1) 0 0 xs := by
  unfold WinInv at *; rw [h]; simp [chans, List.range_succ, rowJ, rowsI]
theorem winInv_end {H W y x : Int} {kh kw ch : Nat} {xs : List Int} (h : WinInv H W y x kh kw ch 0 0 xs) : xs = chans H W y x kh kw ch := by
  unfold WinInv at *; rw [h]; simp [rowJ, rowsI]
theorem len_flat {α : Type} (f : Nat → List α) (m : Nat) (h : ∀ i, (f i).length = m) (n : Nat) : ((List.range n).flatMap f).length = n * m := by
  induction n with
  | zero => simp
  | succ n ih => rw [List.range_succ, List.flatMap_append, List.length_append, ih]; simp [h, Nat.succ_mul]
theorem len_rowJ (H W : Int) (ch : Nat) (y x : Int) (n : Nat) : (rowJ H W ch y x n).length = n := by simp [rowJ]
theorem len_rowsI (H W : Int) (ch : Nat) (y x : Int) (kw n : Nat) : (rowsI H W ch y x kw n).length = n * kw := len_flat _ _ (fun _ => len_rowJ ..) n
theorem len_chans (H W : Int) (y x : Int) (kh kw n : Nat) : (chans H W y x kh kw n).length = n * (kh * kw) := len_flat _ _ (fun _ => len_rowsI ..) n
theorem winInv_len {H W y x : Int} {kh kw ch i j : Nat} {xs : List Int} (h : WinInv H W y x kh kw ch i j xs) (hc : ch ≤ 16384) (hi : i ≤ 64) (hj : j ≤ 64) (hkh : kh ≤ 64) (hkw : kw ≤ 64) : xs.length ≤ 134217728 := by
  unfold WinInv at h; rw [h]
  simp only [List.length_append, len_chans, len_rowsI, len_rowJ]
  have h1 := Nat.mul_le_mul hkh hkw
  have h2 := Nat.mul_le_mul hc h1
  have h3 := Nat.mul_le_mul hi hkw
  omega
theorem elemv_in {H W ch y x : Int} (h1 : 0 ≤ y) (h2 : y < H) (h3 : 0 ≤ x) (h4 : x < W) : elemv H W ch y x = (ch * H + y) * W + x := by unfold elemv; rw [if_pos ⟨h1, h2, h3, h4⟩]
theorem elemv_out {H W ch y x : Int} (h : y < 0 ∨ H ≤ y ∨ x < 0 ∨ W ≤ x) : elemv H W ch y x = -1 := by unfold elemv; rw [if_neg (by omega)]
theorem elem_bd {H W ch y x : Int} (hc0 : 0 ≤ ch) (hc : ch ≤ 16384) (hH : H ≤ 16384) (hW : W ≤ 16384) (h1 : 0 ≤ y) (h2 : y < H) (h3 : 0 ≤ x) (h4 : x < W) :
    0 ≤ ch * H ∧ ch * H ≤ 268435456 ∧ 0 ≤ (ch * H + y) * W ∧ (ch * H + y) * W ≤ 4398314962944 := by
  have a := Int.mul_nonneg hc0 (show (0:Int) ≤ H by omega)
  have b := Int.mul_le_mul hc hH (by omega) (by omega)
  have c := Int.mul_nonneg (show (0:Int) ≤ ch * H + y by omega) (show (0:Int) ≤ W by omega)
  have d := Int.mul_le_mul (show ch * H + y ≤ 268451840 by omega) hW (by omega) (by omega)
  omega
theorem elemv_i64 {H W ch y x : Int} (hc0 : 0 ≤ ch) (hc : ch ≤ 16384) (hH : H ≤ 16384) (hW : W ≤ 16384) : -1 ≤ elemv H W ch y x ∧ elemv H W ch y x ≤ 4398314979328 := by
  by_cases h : 0 ≤ y ∧ y < H ∧ 0 ≤ x ∧ x < W
  · rw [elemv_in h.1 h.2.1 h.2.2.1 h.2.2.2]
    have := elem_bd hc0 hc hH hW h.1 h.2.1 h.2.2.1 h.2.2.2
    omega
  · rw [elemv_out (by omega)]; omega
end Go.Proofs.Ytlbmllhjmgccaaa
