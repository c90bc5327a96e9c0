/- Walks of layer 11: awake. -/
import Derived.Test.YtlbmllhjmgccaaaW10
namespace Go.Proofs.Ytlbmllhjmgccaaa
open Go.RowKit
set_option linter.unusedVariables false
theorem Sl.new2 (w : World) (x y : Int) (hx : -100 ≤ x ∧ x ≤ 100) (hy : -100 ≤ y ∧ y ≤ 100) : Sl (w.alloc (.cells #[.int .i64 x, .int .i64 y] 3)) (some ⟨w.heap.size, 0, none⟩) 2 [x, y] := by
  refine ⟨rfl, by omega, ?_, .inr ⟨_, _, rfl, ?_⟩⟩
  · intro n hn; simp at hn; omega
  · intro i hi
    match i, hi with
    | 0, _ => simp
    | 1, _ => simp
theorem Sl.new3 (w : World) (x y z : Int) (hx : -9223372036854775808 ≤ x ∧ x ≤ 9223372036854775807) (hy : -9223372036854775808 ≤ y ∧ y ≤ 9223372036854775807) (hz : -9223372036854775808 ≤ z ∧ z ≤ 9223372036854775807) : Sl (w.alloc (.cells #[.int .i64 x, .int .i64 y, .int .i64 z] 3)) (some ⟨w.heap.size, 0, none⟩) 3 [x, y, z] := by
  refine ⟨rfl, by omega, ?_, .inr ⟨_, _, rfl, ?_⟩⟩
  · intro n hn; simp at hn; omega
  · intro i hi
    match i, hi with
    | 0, _ => simp
    | 1, _ => simp
    | 2, _ => simp
theorem Sl.new4 (w : World) (x y z t : Int) (hx : -100 ≤ x ∧ x ≤ 100) (hy : -100 ≤ y ∧ y ≤ 100) (hz : -100 ≤ z ∧ z ≤ 100) (ht : -100 ≤ t ∧ t ≤ 100) : Sl (w.alloc (.cells #[.int .i64 x, .int .i64 y, .int .i64 z, .int .i64 t] 3)) (some ⟨w.heap.size, 0, none⟩) 4 [x, y, z, t] := by
  refine ⟨rfl, by omega, ?_, .inr ⟨_, _, rfl, ?_⟩⟩
  · intro n hn; simp at hn; omega
  · intro i hi
    match i, hi with
    | 0, _ => simp
    | 1, _ => simp
    | 2, _ => simp
    | 3, _ => simp
theorem Sl.alloc {w : World} {a : Option Addr} {len : Nat} {l : List Int} (h : Sl w a len l) (o : Obj) : Sl (w.alloc o) a len l := h.below ((Below.refl _ _).alloc (Nat.le_refl _) _)
/-- a slice that the call owns reads as its list -/
theorem Sl.ofOwns {w : World} {base : Nat} {v : Value} {xs : List Int} (h : w.ownsRow base 3 1 v xs.length (xs.map (Value.int .i64))) (hm : xs.length ≤ 9223372036854775807)
    (hb : ∀ n ∈ xs, -9223372036854775808 ≤ n ∧ n ≤ 9223372036854775807) : ∃ a c, v = .slice a xs.length c ∧ Sl w a xs.length xs := by
  rcases h.2 with ⟨rfl, h0⟩ | ⟨g, cap, cur, rfl, _⟩
  · exact ⟨_, _, by rw [h0], rfl, hm, hb, .inl h0⟩
  · exact ⟨_, _, rfl, Sl.owns h hm hb⟩
theorem ix_awake : ixv [2, 3] [1, 2] = (5, 0) := by decide
theorem wins_awake : winRes [1, 2, 2] 2 2 1 1 = (wins [1, 2, 2] 2 2 1 1, 3, 3, 0) ∧ (wins [1, 2, 2] 2 2 1 1).length = 9 ∧ (wins [1, 2, 2] 2 2 1 1)[0]? = some [-1, -1, -1, 0] ∧ (wins [1, 2, 2] 2 2 1 1)[4]? = some [0, 1, 2, 3] := by
  decide

set_option maxHeartbeats 1600000 in
theorem awake_c (w : World) : Calls Try.prog 11 #[] w fun e w' => e = .returned (.bool true) ∧ Below w.heap.size w w' := by
  have HI := Lib.hid ix_awake
  obtain ⟨hw1, hw2, hw3, hw4⟩ := wins_awake
  have HW1 := Lib.hid hw1
  have HW2 := Lib.hid hw2
  clear hw1 hw2
  go_enter Try.func11, Try.ntmps11
  go_wp2_with fail
  refine (index_c _ _ _ _ _ _ [2, 3] [1, 2] _ ((Sl.new2 w 2 3 (by omega) (by omega)).alloc _) (by simpa using Sl.new2 (w.alloc (.cells #[.int .i64 2, .int .i64 3] 3)) 1 2 (by omega) (by omega))).mono ?_
  rintro e w' ⟨rfl, rfl⟩
  rw [HI.out]
  go_wp2_with fail
  refine (windows_c _ _ _ [1, 2, 2] 2 2 1 1 _ (by simpa using Sl.new3 ((w.alloc (.cells #[.int .i64 2, .int .i64 3] 3)).alloc (.cells #[.int .i64 1, .int .i64 2] 3)) 1 2 2 (by omega) (by omega) (by omega))).mono ?_
  rintro e w1 ⟨v, vs, rfl, hown, hvs, hb⟩
  rw [HW1.out] at hvs ⊢
  have hl : vs.length = 9 := by rw [hvs.1]; exact HW2.out
  obtain ⟨v0, hv0⟩ : ∃ v0, vs[0]? = some v0 := ⟨vs[0], by simp [hl]⟩
  obtain ⟨v4, hv4⟩ : ∃ v4, vs[4]? = some v4 := ⟨vs[4], by simp [hl]⟩
  have o0 := hvs.2 0 v0 _ hv0 hw3
  have o4 := hvs.2 4 v4 _ hv4 hw4
  obtain ⟨a0, cap0, rfl, s0⟩ := Sl.ofOwns o0 (by simp) (by intro n hn; simp at hn; omega)
  obtain ⟨a4, cap4, rfl, s4⟩ := Sl.ofOwns o4 (by simp) (by intro n hn; simp at hn; omega)
  rw [hl] at hown
  obtain ⟨g, cap, rfl⟩ : ∃ g cap, v = .slice (some ⟨g, 0, none⟩) 9 cap := by
    rcases hown.2 with ⟨_, h⟩ | ⟨g, cap, cur, h, _⟩
    · omega
    · exact ⟨g, cap, h⟩
  have q0 := hown.cellAt 0 (by omega)
  have q4 := hown.cellAt 4 (by omega)
  rw [hv0] at q0
  rw [hv4] at q4
  have hw : Below w.heap.size w w1 := ((((Below.refl _ _).alloc (Nat.le_refl _) _).alloc (by simp) _).alloc (by simp; omega) _).trans (hb.mono (by simp; omega))
  have hglt : g < w1.heap.size := World.block_lt_of_cell? w1 _ q0
  have HL := Lib.hid hl
  clear hv0 hv4 hl o0 o4 hown hb hw3 hw4
  have HV := Lib.hid hvs; clear hvs
  have S0 := Lib.hid s0; clear s0
  have S4 := Lib.hid s4; clear s4
  simp only [List.length_cons, List.length_nil, Nat.zero_add, Nat.reduceAdd] at q0 q4 S0 S4
  go_wp2_with fail
  refine (ints_c _ _ _ _ _ _ [-1, -1, -1, 0] [-1, -1, -1, 0] _ (S0.out.alloc _) (Sl.new4 _ _ _ _ _ (by omega) (by omega) (by omega) (by omega))).mono ?_
  rintro e w2 ⟨rfl, n2, rfl⟩
  rw [show eqB [-1, -1, -1, 0] [-1, -1, -1, 0] = true by decide]
  go_wp2_with fail
  refine (ints_c _ _ _ _ _ _ [0, 1, 2, 3] [0, 1, 2, 3] _ (((S4.out.alloc _).alloc _).drewN _) (by simpa using ((Sl.new4 (w1.alloc (.cells #[.int .i64 (-1), .int .i64 (-1), .int .i64 (-1), .int .i64 0] 3)) 0 1 2 3 (by omega) (by omega) (by omega) (by omega)).drewN _))).mono ?_
  rintro e w3 ⟨rfl, n3, rfl⟩
  rw [show eqB [0, 1, 2, 3] [0, 1, 2, 3] = true by decide]
  go_wp2_with fail
  go_ret
  refine ⟨ret_bool rfl, ?_⟩
  exact ((hw.alloc (hw.size) _).alloc (by simp; have := hw.size; omega) _).trans ⟨rfl, rfl, rfl, Nat.le_refl _, fun _ _ => rfl⟩
end Go.Proofs.Ytlbmllhjmgccaaa
