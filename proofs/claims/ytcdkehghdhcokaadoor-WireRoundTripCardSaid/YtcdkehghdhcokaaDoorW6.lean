/- New; reading from a reader. -/
import Derived.Test.YtcdkehghdhcokaaDoorWA
namespace Go.Proofs.YtcdkehghdhcokaaDoor.wr
open Go.RowKit
set_option linter.unusedVariables false

set_option maxHeartbeats 4000000 in
set_option maxRecDepth 100000 in
theorem clone_c (a : Option Addr) (n c : Nat) (L : List Int) (w : World) (hs : SlB w a n c L) (hn : n ≤ 8000) :
    Calls Tryd.prog 27 #[.slice a n c] w fun e w' => Gives w L e w' := by
  have HS := Lib.hid hs
  have HLN : Hid (L.length = n) := Lib.hid hs.1
  clear hs
  have qT : ∀ (w : World) (a : Option Addr) (n c n' c' : Nat), (binOp .eql 22 (.slice a n c) (.slice none n' c')).run Tryd.prog w = .ok (.bool a.isNone) w := fun w a n c n' c' => Lib.run_eql_slice_nil w _ _ a n c n' c' Tryd.underlying22
  cases a with
  | none =>
    obtain ⟨rfl, rfl⟩ := HS.out.2.2.2.1 rfl
    obtain rfl : L = [] := List.eq_nil_of_length_eq_zero HLN.out
    go_enter Tryd.func27, Tryd.ntmps27
    go_wp2
    refine bodyPost_ret (results_tmp rfl _ _ _) rfl ?_
    exact ⟨_, rfl, OwnB.nil _ _, Below.refl _ _⟩
  | some y =>
    have OH := Lib.hid (OwnB.made (w := w) (Nat.le_refl _) [] (by simp))
    have SA := Lib.hid (HS.out.below (Below.newBlock (.cells #[] 5)))
    go_enter Tryd.func27, Tryd.ntmps27
    go_wp2_with (at_builtin; refine wpList_append_bs rfl (.tmp 5) (.tmp 6) 22 22 rfl Tryd.underlying22 w.heap.size _ [] rfl OH.out _ n L rfl (SA.out.asSrc Tryd.underlying22) HLN.out (by simp; omega) (by simp) ?_; intro v1 w1 hO1 hB1; rw [List.nil_append] at hO1; have O1 := Lib.hid hO1; have B1 := Lib.hid ((Below.newBlock (w := w) (.cells #[] 5)).trans hB1); clear hO1 hB1 OH SA)
    refine bodyPost_ret (results_tmp rfl _ _ _) rfl ?_
    exact ⟨_, rfl, O1.out, B1.out⟩
/-- a reader at block R that has L before it -/
def Rr (w : World) (R : Nat) (L : List Int) : Prop := ∃ a c, w.heap[R]? = some (.cells #[.slice a L.length c, .bool false] 63 (0, 0)) ∧ SlB w a L.length c L ∧ ∀ b off, a = some ⟨b, off, none⟩ → 0 < L.length → b ≠ R
/-- a reader that failed -/
def RrBad (w : World) (R : Nat) : Prop := w.heap[R]? = some (.cells #[.slice none 0 0, .bool true] 63 (0, 0))
set_option maxHeartbeats 4000000 in
set_option maxRecDepth 100000 in
theorem new_c (a : Option Addr) (n c : Nat) (L : List Int) (w : World) (hs : SlB w a n c L) (hn : n ≤ 8000) :
    Calls Tryd.prog 8 #[.slice a n c] w fun e w' => ∃ R, e = .returned (.pointer (some ⟨R, 0, none⟩)) ∧ w.heap.size ≤ R ∧ R < w'.heap.size ∧ Rr w' R L ∧ Below w.heap.size w w' := by
  have HC := Lib.hid (clone_c a n c L w hs hn)
  clear hs
  go_enter Tryd.func8, Tryd.ntmps8
  go_wp2_with fail
  refine HC.out.mono ?_
  rintro e w1 ⟨v, rfl, hO, hb⟩
  obtain ⟨a1, c1, rfl⟩ := hO.slice
  have S1 := Lib.hid (hO.sl rfl)
  have B1 := Lib.hid hb
  clear hO hb HC
  go_wp2
  refine bodyPost_ret (results_tmp rfl _ _ _) rfl ?_
  refine ⟨w1.heap.size, rfl, B1.out.size, by simp, ⟨a1, c1, heap_alloc_new w1 _, S1.out.below (Below.newBlock _), fun b off e h0 => ?_⟩, B1.out.alloc B1.out.size _⟩
  obtain ⟨b', off', e', hlt, _⟩ := S1.out.at h0
  rw [e] at e'
  injection e' with e'; injection e' with e1 e2
  omega
set_option maxHeartbeats 4000000 in
set_option maxRecDepth 100000 in
theorem fail_c (R : Nat) (L : List Int) (w : World) (h : Rr w R L) :
    Calls Tryd.prog 40 #[.pointer (some ⟨R, 0, none⟩)] w fun e w' => e = .returned (.int .i64 5) ∧ RrBad w' R ∧ w.grownBy w' (some R) := by
  obtain ⟨a, c, h1, h2, h3⟩ := h
  have lt := Lib.hid (Array.getElem?_eq_some_iff.1 h1).1
  have H1 := Lib.hid h1
  have k0 := cell_of_row w R 0 _ 63 (0, 0) h1
  have k1 := cell_of_row w R 1 _ 63 (0, 0) h1
  have f0 := frozen_of_row w R 0 _ 63 h1
  have f1 := frozen_of_row w R 1 _ 63 h1
  clear h1
  go_enter Tryd.func40, Tryd.ntmps40
  go_wp2
  refine bodyPost_ret (results_tmp rfl _ _ _) rfl ?_
  refine ⟨rfl, ?_, ?_⟩
  · unfold RrBad
    rw [heap_setCell_same _ R 0 _ 63 _ (heap_setCell_same w R 1 _ 63 _ H1.out)]
    rfl
  · exact ⟨rfl, rfl, rfl, by simp, fun k hk hne => (heap_setCell_other _ _ k _ (fun e => hne (by rw [e]))).trans (heap_setCell_other _ _ k _ (fun e => hne (by rw [e])))⟩

end Go.Proofs.YtcdkehghdhcokaaDoor.wr
