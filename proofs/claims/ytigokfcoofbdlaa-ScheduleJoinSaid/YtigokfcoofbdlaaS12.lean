/- The examples of the document; the reference's Order where it rejects. -/
import Derived.Test.YtigokfcoofbdlaaS11
namespace Go.Proofs.Ytigokfcoofbdlaa
open Go.RowKit
set_option linter.unusedVariables false

set_option maxHeartbeats 2000000 in
set_option maxRecDepth 100000 in
theorem refOrder_neg (a0 : Option Addr) (n c0 : Nat) (L : List Int) (a1 : Option Addr) (n1 c1 : Nat) (most : Int) (w : World) (h0 : SlI w a0 n c0 L) (hbad : most < 0 ∨ ∃ i, i < n ∧ L.getD i 0 < 1) :
    Calls Try.prog 12 #[.slice a0 n c0, .slice a1 n1 c1, .int .i64 most] w fun e w' => e = .returned (.tuple #[.slice none 0 0, .int .i64 1]) ∧ w = w' := by
  have H0 := Lib.hid h0
  have hcap : n ≤ 9223372036854775807 := by have := h0.2.1; have := h0.2.2.1; omega
  clear h0
  have HB := Lib.hid hbad; clear hbad
  go_enter Try.func12, Try.ntmps12
  go_wp2
  go_loopw [8] (fun s wr => ∃ i : Nat, i ≤ n ∧ s = .int .i64 i ∧ w = wr ∧ Hid (∀ k, k < i → 1 ≤ L.getD k 0)) (fun s _ => n - (intOf s).toNat)
  case atStart => exact ⟨0, by omega, rfl, rfl, Lib.hid (fun k hk => absurd hk (Nat.not_lt_zero k))⟩
  case round =>
    obtain ⟨i, hi2, rfl, rfl, hno⟩ := hrel
    by_cases hlt : i < n
    · obtain ⟨p0, o0, rfl, hc0⟩ := H0.out.at (by omega)
      have k0 := hc0 i hlt
      clear hc0
      obtain ⟨x, hx⟩ : ∃ y, L.getD i 0 = y := ⟨_, rfl⟩
      rw [hx] at k0
      have HX := Lib.hid hx
      clear hx
      by_cases hx1 : x < 1
      · go_wp2
        refine bodyPost_ret (results_tmp2 rfl _ _ _) rfl ?_
        exact ⟨rfl, rfl⟩
      · go_wp2
        go_roundw
        case rel => exact ⟨i + 1, by omega, by go_num, trivial, Lib.hid (fun k hk => by
          rcases Nat.lt_or_ge k i with h | h
          · exact hno.out k h
          · have : k = i := by omega
            rw [this, HX.out]; omega)⟩
        case measure => simp [intOf]; omega
    · have hm : most < 0 := by
        rcases HB.out with h | ⟨i', h1, h2⟩
        · exact h
        · have := hno.out i' (by omega); omega
      go_wp2
      refine bodyPost_ret (results_tmp2 rfl _ _ _) rfl ?_
      exact ⟨rfl, rfl⟩
theorem cells_new (w : World) (cs : List Value) (t : TypeId) (i : Nat) : (w.alloc (.cells cs.toArray t)).cell? ⟨w.heap.size, i, none⟩ = cs[i]? := by
  rw [cell_of_row _ w.heap.size i cs.toArray t (0, 0) (heap_alloc_new w _)]; simp
theorem SlI.made (w : World) (l : List Int) (hl : l.length ≤ 1000) : SlI (w.alloc (.cells (ivals l).toArray 3)) (some ⟨w.heap.size, 0, none⟩) l.length l.length l :=
  ⟨rfl, Nat.le_refl _, by omega, .inr ⟨_, _, rfl, by simp, fun i hi => by rw [Nat.zero_add, cells_new, iv_at hi]⟩⟩
theorem SlS.made (w : World) (S : List Nat) (hl : S.length ≤ 1000) : SlS (w.alloc (.cells (S.map fun x : Nat => Value.int .u8 (x : Int)).toArray 5)) (some ⟨w.heap.size, 0, none⟩) S.length S.length S :=
  ⟨rfl, Nat.le_refl _, by omega, .inr ⟨_, _, rfl, by simp, fun i hi => by rw [Nat.zero_add, cells_new]; simp [hi]⟩⟩
theorem SlS.nil (w : World) (ad : Option Addr) (cap : Nat) (hc : cap ≤ 9223372036854775807) : SlS w ad 0 cap [] := ⟨rfl, Nat.zero_le _, hc, .inl rfl⟩
theorem ord_ex1 : ord [] 10 5 [2, 1, 2] (-1) [] = ([0, 1, 2, 0, 2], 0) := by decide
theorem ord_ex2 : ord [2, 2, 0] 10 5 [2, 1, 2] (-1) [] = ([2, 2, 0, 1, 0], 0) := by decide
theorem pos212 : ∀ i, i < 3 → 0 < ([2, 1, 2] : List Nat).getD i 0 := by decide
theorem lt220 : ∀ i, ([2, 2, 0] : List Nat).getD i 0 < 256 := fun i => by
  match i with
  | 0 | 1 | 2 => decide
  | i + 3 => simp
set_option maxHeartbeats 4000000 in
set_option maxRecDepth 100000 in
theorem awake_c (w : World) : Calls Try.prog 9 #[] w fun e w' => e = .returned (.bool true) ∧ Below w.heap.size w w' := by
  have q1 := Lib.hid ord_ex1
  have q2 := Lib.hid ord_ex2
  go_enter Try.func9, Try.ntmps9
  go_wp2_with fail
  have s1 : Hid (SlI (w.alloc (.cells #[.int .i64 2, .int .i64 1, .int .i64 2] 3)) (some ⟨w.heap.size, 0, none⟩) 3 3 (ints [2, 1, 2])) := Lib.hid (SlI.made w [2, 1, 2] (by decide))
  refine (order_c (some ⟨w.heap.size, 0, none⟩) 3 3 [2, 1, 2] none 0 0 [] 10 _ s1.out (fun h => by cases h) rfl pos212 (by decide) (by decide) (SlS.nil _ _ _ (by decide)) (fun i => by simp) (by decide)).mono ?_
  rintro e w1 ⟨v1, rfl, ho, hb⟩
  rw [show ([2, 1, 2] : List Nat).sum = 5 from rfl, ord_ex1] at ho ⊢
  have O1 := Lib.hid ho
  have B1 : Hid (Below w.heap.size w w1) := Lib.hid (((Below.refl _ _).alloc (Nat.le_refl _) _).trans (hb.mono (by simp)))
  clear ho hb s1
  obtain ⟨a1, c1, rfl⟩ := O1.out.slice
  go_wp2_with fail
  have s2 : Hid (SlI ((w1.alloc (.cells #[.int .i64 2, .int .i64 1, .int .i64 2] 3)).alloc (.cells #[.int .u8 2, .int .u8 2, .int .u8 0] 5)) (some ⟨w1.heap.size, 0, none⟩) 3 3 (ints [2, 1, 2])) := Lib.hid ((SlI.made w1 [2, 1, 2] (by decide)).below ((Below.refl _ _).alloc (Nat.le_refl _) _))
  have s3 : Hid (SlS ((w1.alloc (.cells #[.int .i64 2, .int .i64 1, .int .i64 2] 3)).alloc (.cells #[.int .u8 2, .int .u8 2, .int .u8 0] 5)) (some ⟨w1.heap.size + 1, 0, none⟩) 3 3 [2, 2, 0]) := Lib.hid (by
    have := SlS.made (w1.alloc (.cells #[.int .i64 2, .int .i64 1, .int .i64 2] 3)) [2, 2, 0] (by decide)
    rwa [World.size_alloc] at this)
  refine (order_c (some ⟨w1.heap.size, 0, none⟩) 3 3 [2, 1, 2] (some ⟨w1.heap.size + 1, 0, none⟩) 3 3 [2, 2, 0] 10 _ s2.out (fun h => by cases h) rfl pos212 (by decide) (by decide) s3.out lt220 (by decide)).mono ?_
  rintro e w2 ⟨v2, rfl, ho, hb⟩
  rw [show ([2, 1, 2] : List Nat).sum = 5 from rfl, ord_ex2] at ho ⊢
  have hb1 : Below w1.heap.size w1 w2 := ((Below.refl _ _).alloc (Nat.le_refl _) _).trans (((Below.refl _ _).alloc (by simp) _).trans (hb.mono (by simp; omega)))
  obtain ⟨a2, c2, rfl⟩ := ho.slice
  have T1 : Hid (SlI w2 a1 5 c1 [0, 1, 2, 0, 2]) := Lib.hid ((O1.out.sl rfl).below hb1)
  have T2 : Hid (SlI w2 a2 5 c2 [2, 2, 0, 1, 0]) := Lib.hid (ho.sl rfl)
  have B2 : Hid (Below w.heap.size w w2) := Lib.hid (B1.out.trans (hb1.mono B1.out.size))
  clear ho hb hb1 s2 s3 O1 B1
  go_wp2_with fail
  have U1 : Hid (SlI (w2.alloc (.cells #[.int .i64 0, .int .i64 1, .int .i64 2, .int .i64 0, .int .i64 2] 3)) a1 5 c1 [0, 1, 2, 0, 2]) := Lib.hid (T1.out.below ((Below.refl _ _).alloc (Nat.le_refl _) _))
  refine (same_c a1 5 c1 [0, 1, 2, 0, 2] (some ⟨w2.heap.size, 0, none⟩) 5 5 [0, 1, 2, 0, 2] _ U1.out (SlI.made w2 [0, 1, 2, 0, 2] (by decide))).mono ?_
  rintro e w3 ⟨rfl, hb3⟩
  rw [show decide (([0, 1, 2, 0, 2] : List Int) = [0, 1, 2, 0, 2]) = true from by decide]
  have hb4 : Below w2.heap.size w2 w3 := ((Below.refl _ _).alloc (Nat.le_refl _) _).trans (hb3.mono (by simp))
  have T3 : Hid (SlI w3 a2 5 c2 [2, 2, 0, 1, 0]) := Lib.hid (T2.out.below hb4)
  have B3 : Hid (Below w.heap.size w w3) := Lib.hid (B2.out.trans (hb4.mono B2.out.size))
  clear hb3 hb4 U1 T1 T2 B2
  go_wp2_with fail
  have U1 : Hid (SlI (w3.alloc (.cells #[.int .i64 2, .int .i64 2, .int .i64 0, .int .i64 1, .int .i64 0] 3)) a2 5 c2 [2, 2, 0, 1, 0]) := Lib.hid (T3.out.below ((Below.refl _ _).alloc (Nat.le_refl _) _))
  refine (same_c a2 5 c2 [2, 2, 0, 1, 0] (some ⟨w3.heap.size, 0, none⟩) 5 5 [2, 2, 0, 1, 0] _ U1.out (SlI.made w3 [2, 2, 0, 1, 0] (by decide))).mono ?_
  rintro e w4 ⟨rfl, hb3⟩
  rw [show decide (([2, 2, 0, 1, 0] : List Int) = [2, 2, 0, 1, 0]) = true from by decide]
  have B4 : Hid (Below w.heap.size w w4) := Lib.hid (B3.out.trans (((Below.refl _ _).alloc (Nat.le_refl _) _).trans (hb3.mono (by simp)) |>.mono B3.out.size))
  clear hb3
  go_wp2
  refine bodyPost_ret (results_tmp rfl _ _ _) rfl ?_
  exact ⟨rfl, B4.out⟩

end Go.Proofs.Ytigokfcoofbdlaa
