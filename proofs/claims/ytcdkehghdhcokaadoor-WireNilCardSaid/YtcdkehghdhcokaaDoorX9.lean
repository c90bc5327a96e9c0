/- The reference's reader: New, fail, Left, Done. -/
import Derived.Test.YtcdkehghdhcokaaDoorX7
namespace Go.Proofs.YtcdkehghdhcokaaDoor.wr
open Go.RowKit
set_option linter.unusedVariables false

set_option linter.unusedSimpArgs false
set_option maxHeartbeats 4000000 in
set_option maxRecDepth 100000 in
theorem rfail_g (R : Nat) (L : List Int) (w : World) (h : St 65 w R (some L)) :
    Calls Tryd.prog 45 #[.pointer (some ⟨R, 0, none⟩)] w fun e w' => e = .returned (.int .i64 5) ∧ St 65 w' R none ∧ w.grownBy w' (some R) := by
  obtain ⟨a, c, h1, h2, h3⟩ := h
  have H1 := Lib.hid h1
  have k0 := cell_of_row w R 0 _ 65 (0, 0) h1
  have k1 := cell_of_row w R 1 _ 65 (0, 0) h1
  have f0 := frozen_of_row w R 0 _ 65 h1
  have f1 := frozen_of_row w R 1 _ 65 h1
  clear h1
  go_enter Tryd.func45, Tryd.ntmps45
  go_wp2
  refine bodyPost_ret (results_tmp rfl _ _ _) rfl ?_
  refine ⟨rfl, ?_, ?_⟩
  · show _ = _
    rw [heap_setCell_same _ R 1 _ 65 _ (heap_setCell_same w R 0 _ 65 _ H1.out)]
    rfl
  · exact grown_trans (grown_set w R 0 _) (grown_set _ R 1 _)
set_option maxHeartbeats 4000000 in
set_option maxRecDepth 100000 in
/-- fail of a reader that failed -/
theorem rfail_b (R : Nat) (w : World) (h : St 65 w R none) :
    Calls Tryd.prog 45 #[.pointer (some ⟨R, 0, none⟩)] w fun e w' => e = .returned (.int .i64 5) ∧ St 65 w' R none ∧ w.grownBy w' (some R) := by
  have H1 := Lib.hid h
  have k0 := cell_of_row w R 0 _ 65 (0, 0) h
  have k1 := cell_of_row w R 1 _ 65 (0, 0) h
  have f0 := frozen_of_row w R 0 _ 65 h
  have f1 := frozen_of_row w R 1 _ 65 h
  change w.cell? ⟨R, 0, none⟩ = some (.slice none 0 0) at k0
  change w.cell? ⟨R, 1, none⟩ = some (.bool true) at k1
  clear h
  go_enter Tryd.func45, Tryd.ntmps45
  go_wp2
  refine bodyPost_ret (results_tmp rfl _ _ _) rfl ?_
  refine ⟨rfl, ?_, ?_⟩
  · first
      | exact H1.out
      | (show _ = _
         rw [heap_setCell_same _ R 1 _ 65 _ (heap_setCell_same w R 0 _ 65 _ H1.out)]
         rfl)
  · first
      | exact grown_refl _ _
      | exact grown_trans (grown_set w R 0 _) (grown_set _ R 1 _)
theorem rfail_s (R : Nat) (s : Option (List Int)) (w : World) (h : St 65 w R s) :
    Calls Tryd.prog 45 #[.pointer (some ⟨R, 0, none⟩)] w fun e w' => e = .returned (.int .i64 5) ∧ St 65 w' R none ∧ w.grownBy w' (some R) := by
  cases s with
  | none => exact rfail_b R w h
  | some L => exact rfail_g R L w h
set_option maxHeartbeats 4000000 in
set_option maxRecDepth 100000 in
theorem rleft_g (R : Nat) (s : Option (List Int)) (w : World) (h : St 65 w R s) :
    Calls Tryd.prog 12 #[.pointer (some ⟨R, 0, none⟩)] w fun e w' => e = .returned (.int .i64 (lft s : Nat)) ∧ w' = w := by
  cases s with
  | some L =>
    obtain ⟨a, c, h1, h2, h3⟩ := h
    have k0 := cell_of_row w R 0 _ 65 (0, 0) h1
    unfold lft
    obtain ⟨n, hn⟩ : ∃ n, L.length = n := ⟨_, rfl⟩
    simp only [hn] at k0 ⊢
    change w.cell? ⟨R, 0, none⟩ = some (.slice a n c) at k0
    clear h1 h2 h3
    go_enter Tryd.func12, Tryd.ntmps12
    go_wp2
    refine bodyPost_ret (results_tmp rfl _ _ _) rfl ?_
    exact ⟨rfl, rfl⟩
  | none =>
    have k0 := cell_of_row w R 0 _ 65 (0, 0) h
    change w.cell? ⟨R, 0, none⟩ = some (.slice none 0 0) at k0
    clear h
    go_enter Tryd.func12, Tryd.ntmps12
    go_wp2
    refine bodyPost_ret (results_tmp rfl _ _ _) rfl ?_
    exact ⟨rfl, rfl⟩
set_option maxHeartbeats 4000000 in
set_option maxRecDepth 100000 in
theorem rdone_g (R : Nat) (s : Option (List Int)) (w : World) (h : St 65 w R s) :
    Calls Tryd.prog 14 #[.pointer (some ⟨R, 0, none⟩)] w fun e w' => e = .returned (.int .i64 (dn s)) ∧ w' = w := by
  cases s with
  | some L =>
    obtain ⟨a, c, h1, h2, h3⟩ := h
    have k0 := cell_of_row w R 0 _ 65 (0, 0) h1
    have k1 := cell_of_row w R 1 _ 65 (0, 0) h1
    unfold dn
    obtain ⟨n, hn⟩ : ∃ n, L.length = n := ⟨_, rfl⟩
    simp only [hn] at k0 ⊢
    change w.cell? ⟨R, 0, none⟩ = some (.slice a n c) at k0
    change w.cell? ⟨R, 1, none⟩ = some (.bool false) at k1
    clear h1 h2 h3
    by_cases h0 : n = 0
    · subst h0
      go_enter Tryd.func14, Tryd.ntmps14
      go_wp2
      refine bodyPost_ret (results_tmp rfl _ _ _) rfl ?_
      exact ⟨rfl, rfl⟩
    · rw [if_neg h0]
      have hp : (0 : Int) < (n : Int) := by omega
      go_enter Tryd.func14, Tryd.ntmps14
      go_wp2
      refine bodyPost_ret (results_tmp rfl _ _ _) rfl ?_
      exact ⟨rfl, rfl⟩
  | none =>
    have k1 := cell_of_row w R 1 _ 65 (0, 0) h
    change w.cell? ⟨R, 1, none⟩ = some (.bool true) at k1
    clear h
    go_enter Tryd.func14, Tryd.ntmps14
    go_wp2
    refine bodyPost_ret (results_tmp rfl _ _ _) rfl ?_
    exact ⟨rfl, rfl⟩
/-- what New answers -/
def Made (t : Nat) (L : List Int) (w : World) (e : Ending) (w' : World) : Prop := ∃ R, e = .returned (.pointer (some ⟨R, 0, none⟩)) ∧ w.heap.size ≤ R ∧ R < w'.heap.size ∧ St t w' R (some L) ∧ Below w.heap.size w w'
theorem made_g (a : Option Addr) (n c : Nat) (L : List Int) (w : World) (hs : SlB w a n c L) (hn : n ≤ 8000) : Calls Tryd.prog 8 #[.slice a n c] w (Made 63 L w) := new_c a n c L w hs hn
set_option maxHeartbeats 4000000 in
set_option maxRecDepth 100000 in
theorem rmade_g (a : Option Addr) (n c : Nat) (L : List Int) (w : World) (hs : SlB w a n c L) (hn : n ≤ 8000) : Calls Tryd.prog 9 #[.slice a n c] w (Made 65 L w) := by
  have SA := Lib.hid (hs.below (Below.newBlock (.cells #[] 5)))
  have HLN : Hid (L.length = n) := Lib.hid hs.1
  have OH := Lib.hid (OwnB.made (w := w) (Nat.le_refl _) [] (by simp))
  clear hs
  go_enter Tryd.func9, Tryd.ntmps9
  go_wp2_with (at_builtin; refine wpList_append_bs rfl (.tmp 3) (.tmp 4) 22 22 rfl Tryd.underlying22 w.heap.size _ [] rfl OH.out _ n L rfl (SA.out.asSrc Tryd.underlying22) HLN.out (by simp; omega) (by simp) ?_; intro v1 w1 hO1 hB1; rw [List.nil_append] at hO1; have O1 := Lib.hid hO1; have B1 := Lib.hid ((Below.newBlock (w := w) (.cells #[] 5)).trans hB1); clear hO1 hB1 OH SA; obtain ⟨a1, c1, rfl⟩ := O1.out.slice; have S1 := Lib.hid (O1.out.sl rfl); clear O1)
  refine bodyPost_ret (results_tmp rfl _ _ _) rfl ?_
  refine ⟨w1.heap.size, rfl, B1.out.size, by simp, ⟨a1, c1, heap_alloc_new w1 _, S1.out.below (Below.newBlock _), fun b off e h0 => ?_⟩, B1.out.alloc B1.out.size _⟩
  obtain ⟨b', off', e', hlt, _⟩ := S1.out.at h0
  rw [e] at e'
  injection e' with e'; injection e' with e1 e2
  omega

end Go.Proofs.YtcdkehghdhcokaaDoor.wr
