/- Walks of layer 11: window of a kernel. -/
import Derived.Test.YtlbmllhjmgccaaaW6
import Derived.Deep.Onto
namespace Go.Proofs.Ytlbmllhjmgccaaa
open Go.RowKit
set_option linter.unusedVariables false
theorem mul_bd3 {C kh kw : Nat} (hC : C ≤ 16384) (hkh : kh ≤ 64) (hkw : kw ≤ 64) : (0 : Int) ≤ (C : Int) * (kh : Int) ∧ (C : Int) * (kh : Int) ≤ 1048576 ∧ (0 : Int) ≤ (C : Int) * (kh : Int) * (kw : Int) ∧ (C : Int) * (kh : Int) * (kw : Int) ≤ 67108864 := by
  have h1 := Nat.mul_le_mul hC hkh
  have h2 := Nat.mul_le_mul h1 hkw
  rw [← Int.natCast_mul, ← Int.natCast_mul]
  omega
theorem one_new {w : World} {v : Value} {T : TypeId} {B : Nat} (hB : B = w.heap.size) : ∀ j u, ([v] : List Value)[j]? = some u → (w.alloc (.cells #[v] T)).cell? ((⟨B, 0, none⟩ : Addr).add j) = some u := by
  intro j u hj
  subst hB
  match j, hj with
  | 0, hj => simp at hj; subst hj; simp [Addr.add]
theorem one_cell {k : IntKind} {x : Int} : ∀ u ∈ ([.int k x] : List Value), u.oneCell' = true := by
  intro u hu; simp at hu; subst hu; rfl

/-- the struct's cells -/
structure KCells (w : World) (B : Nat) (C H W kh kw st pad : Int) : Prop where
  c0 : w.cell? ⟨B, 0, none⟩ = some (.int .i64 C)
  c1 : w.cell? ⟨B, 1, none⟩ = some (.int .i64 H)
  c2 : w.cell? ⟨B, 2, none⟩ = some (.int .i64 W)
  c3 : w.cell? ⟨B, 3, none⟩ = some (.int .i64 kh)
  c4 : w.cell? ⟨B, 4, none⟩ = some (.int .i64 kw)
  c5 : w.cell? ⟨B, 5, none⟩ = some (.int .i64 st)
  c6 : w.cell? ⟨B, 6, none⟩ = some (.int .i64 pad)
theorem KCells.below {w w' : World} {B B' : Nat} {C H W kh kw st pad : Int} (h : KCells w B C H W kh kw st pad) (hb : Below B' w w') (hB : B < B') : KCells w' B C H W kh kw st pad :=
  ⟨(hb.cell hB).trans h.c0, (hb.cell hB).trans h.c1, (hb.cell hB).trans h.c2, (hb.cell hB).trans h.c3, (hb.cell hB).trans h.c4, (hb.cell hB).trans h.c5, (hb.cell hB).trans h.c6⟩
theorem KCells.new (w : World) (C H W kh kw st pad : Int) (T : TypeId) : KCells (w.alloc (.cells #[.int .i64 C, .int .i64 H, .int .i64 W, .int .i64 kh, .int .i64 kw, .int .i64 st, .int .i64 pad] T)) w.heap.size C H W kh kw st pad := by
  constructor <;> simp [World.cell?_alloc_new]


/-- what window leaves -/
def WinPost (base : Nat) (H W y x : Int) (kh kw C : Nat) (w : World) (e : Ending) (w' : World) : Prop :=
  ∃ v xs, e = Ending.returned v ∧ xs = chans H W y x kh kw C ∧ w'.ownsRow base 3 1 v xs.length (xs.map (Value.int .i64)) ∧ Below w.heap.size w w'

set_option maxHeartbeats 1600000 in
theorem window_c (C kh kw : Nat) (H W st pad y x : Int) (w : World) (hC : C ≤ 16384) (hkh : kh ≤ 64) (hkw : kw ≤ 64) (hH : H ≤ 16384) (hW : W ≤ 16384)
    (hy : -100 ≤ y) (hy2 : y ≤ 10000000) (hx : -100 ≤ x) (hx2 : x ≤ 10000000) :
    Calls Try.prog 28 #[.agg #[.int .i64 C, .int .i64 H, .int .i64 W, .int .i64 kh, .int .i64 kw, .int .i64 st, .int .i64 pad], .int .i64 y, .int .i64 x] w (WinPost (w.heap.size + 1) H W y x kh kw C w) := by
  obtain ⟨i0, hi, hz0, hz1, hz2⟩ := info_parts Try.info3
  have hm := mul_bd3 hC hkh hkw
  obtain ⟨n, hn⟩ : ∃ n : Nat, (C : Int) * (kh : Int) * (kw : Int) = (n : Int) := ⟨C * kh * kw, by simp⟩
  have hn2 : n ≤ 67108864 := by omega
  have HN := Lib.hid hn
  clear hn
  have hk0 := KCells.new w C H W kh kw st pad 45
  go_enter Try.func28, Try.ntmps28
  go_wp2_with (at_make; refine wpList_make_own _ rfl _ _ 22 rfl (w.heap.size + 1) 3 i0 (.int .i64 0) 1 Try.underlying22 hi hz0 hz1 _ _ _ n rfl rfl HN.out ?b2 ?b3 ?b4 ?_)
  case b2 => rw [hz2]; omega
  case b3 => unfold maxLen; omega
  case b4 => simp
  intro w0 hown0 hgrow0
  have hb0 : Below (w.heap.size + 1) (w.alloc (.cells #[.int .i64 C, .int .i64 H, .int .i64 W, .int .i64 kh, .int .i64 kw, .int .i64 st, .int .i64 pad] 45)) w0 := (Below.refl _ _).grown hgrow0 (by simp) (fun k h => by cases h)
  have hk1 := hk0.below hb0 (by omega)
  have hbw : Below w.heap.size w w0 := ((Below.refl _ _).alloc (Nat.le_refl _) _).trans (hb0.mono (by omega))
  have hsz0 : w.heap.size + 1 ≤ w0.heap.size := by have := hb0.size; simpa using this
  clear hb0 hk0 hgrow0
  have hk2 := hk1
  obtain ⟨k0, k1, k2, k3, k4, k5, k6⟩ := hk1
  go_wp2
  clear k0 k1 k2 k3 k4 k5 k6
  go_loopw [22, 7] (fun s v wr => ∃ (ch : Nat) (xs : List Int), ch ≤ C ∧ s = .int .i64 ch ∧ WinInv H W y x kh kw ch 0 0 xs ∧ wr.ownsRow (w.heap.size + 1) 3 1 v xs.length (xs.map (Value.int .i64)) ∧ Below (w.heap.size + 1) w0 wr) (fun s _ _ => C - (intOf s).toNat)
  case atStart => exact ⟨0, [], by omega, rfl, winInv_zero .., hown0, Below.refl _ _⟩
  case round =>
    obtain ⟨ch, xs, hch, rfl, hinv, hown, hbel⟩ := hrel
    by_cases hlt : ch < C
    · obtain ⟨k0, k1, k2, k3, k4, k5, k6⟩ := hk2.below hbel (by omega)
      go_wp2
      clear k0 k1 k2 k3 k4 k5 k6
      obtain ⟨wo, rfl⟩ : ∃ wo : World, wo = wr := ⟨_, rfl⟩
      go_loopw [27, 7] (fun s v wr => ∃ (i : Nat) (xs : List Int), i ≤ kh ∧ s = .int .i64 i ∧ WinInv H W y x kh kw ch i 0 xs ∧ wr.ownsRow (w.heap.size + 1) 3 1 v xs.length (xs.map (Value.int .i64)) ∧ Below (w.heap.size + 1) w0 wr) (fun s _ _ => kh - (intOf s).toNat)
      case atStart => exact ⟨0, xs, by omega, rfl, hinv, hown, hbel⟩
      case round =>
        clear hown hbel hinv
        obtain ⟨i, xs, hi', rfl, hinv, hown, hbel⟩ := hrel
        by_cases hlt2 : i < kh
        · obtain ⟨k0, k1, k2, k3, k4, k5, k6⟩ := hk2.below hbel (by omega)
          go_wp2
          clear k0 k1 k2 k3 k4 k5 k6
          obtain ⟨wo2, rfl⟩ : ∃ wo2 : World, wo2 = wr := ⟨_, rfl⟩
          go_loopw [32, 7] (fun s v wr => ∃ (j : Nat) (xs : List Int), j ≤ kw ∧ s = .int .i64 j ∧ WinInv H W y x kh kw ch i j xs ∧ wr.ownsRow (w.heap.size + 1) 3 1 v xs.length (xs.map (Value.int .i64)) ∧ Below (w.heap.size + 1) w0 wr) (fun s _ _ => kw - (intOf s).toNat)
          case atStart => exact ⟨0, xs, by omega, rfl, hinv, hown, hbel⟩
          case round =>
            clear hown hbel hinv
            obtain ⟨j, xs, hj, rfl, hinv, hown, hbel⟩ := hrel
            by_cases hlt3 : j < kw
            · have hlen := winInv_len hinv (by omega) (by omega) (by omega) hkh hkw
              have hsz := hbel.size
              obtain ⟨k0, k1, k2, k3, k4, k5, k6⟩ := hk2.below hbel (by omega)
              go_wp2_with (first | (go_at_call 29; refine (kindex_c _ _ _ _ _ _ _ _ _ _ _ (by omega) (by omega) hH hW).mono ?_; rintro e w' ⟨rfl, rfl⟩) | (at_builtin; refine wpList_append_own _ rfl _ _ 22 rfl (w.heap.size + 1) 3 i0 (.int .i64 0) 1 8 Try.underlying22 hi hz0 hz1 hz2 rfl (by decide) _ _ _ rfl ((hown.alloc _).alloc _) ⟨wr.heap.size + 1, 0, none⟩ 1 1 [.int .i64 (elemv H W ch (y + i) (x + j))] rfl rfl ?c1 ?c2 ?c3 ?c4 ?c5 ?_))
              case c1 => exact one_new (by simp)
              case c2 => exact one_cell
              case c3 => unfold maxLen; omega
              case c4 => omega
              case c5 => simp; omega
              intro v' w1 hown' hgrow _
              have hown2 : w1.ownsRow (w.heap.size + 1) 3 1 v' (xs ++ [elemv H W ch (y + i) (x + j)]).length ((xs ++ [elemv H W ch (y + i) (x + j)]).map (Value.int .i64)) := by simpa using hown'
              have hbel2 : Below (w.heap.size + 1) w0 w1 := ((hbel.alloc (by omega) _).alloc (by simp; omega) _).grown hgrow (by simp; omega) (fun k hk => by have := hown.lt k hk; omega)
              have hinv2 := winInv_j hinv
              clear hown' hgrow k0 k1 k2 k3 k4 k5 k6 hown hbel hinv
              go_wp2
              go_roundw
              case rel => exact ⟨j + 1, _, by omega, by go_num, hinv2, hown2, hbel2⟩
              case measure => simp [intOf]; omega
            · have hjk : j = kw := by omega
              subst hjk
              have hinv2 := winInv_i hinv
              go_wp2
              go_roundw
              case rel => exact ⟨i + 1, xs, by omega, by go_num, hinv2, hown, hbel⟩
              case measure => simp [intOf]; omega
        · have hik : i = kh := by omega
          subst hik
          have hinv2 := winInv_ch hinv
          go_wp2
          go_roundw
          case rel => exact ⟨ch + 1, xs, by omega, by go_num, hinv2, hown, hbel⟩
          case measure => simp [intOf]; omega
    · have hck : ch = C := by omega
      subst hck
      have hfin := Lib.hid (winInv_end hinv)
      go_wp2
      go_ret
      exact ⟨_, xs, rfl, hfin.out, hown, hbw.trans (hbel.mono (by omega))⟩
end Go.Proofs.Ytlbmllhjmgccaaa
