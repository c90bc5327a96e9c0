/- Carried over from another seat by program (portn.py). -/
import Derived.Test.YtnalmjbgkedcoaaDoorR5
import Derived.Test.YtnalmjbgkedcoaaDoorIJ
namespace Go.Proofs.YtnalmjbgkedcoaaDoor
open Go.RowKit
set_option linter.unusedVariables false
theorem QBox.other3 {g g' : Nat} {u0 u1 u2 : Value} {w : World} (h : QBox g' u0 u1 u2 w) (hne : g ≠ g') (u v x : Value) : QBox g' u0 u1 u2 (((w.setCell ⟨g, 0, none⟩ u).setCell ⟨g, 1, none⟩ v).setCell ⟨g, 2, none⟩ x) := by
  have e : ∀ j, (((w.setCell ⟨g, 0, none⟩ u).setCell ⟨g, 1, none⟩ v).setCell ⟨g, 2, none⟩ x).cell? ⟨g', j, none⟩ = w.cell? ⟨g', j, none⟩ := fun j => by
    rw [World.cell?_setCell_other _ _ _ _ (by simp), World.cell?_setCell_other _ _ _ _ (by simp), World.cell?_setCell_other _ _ _ _ (by simp)]
  have f : ∀ j, (((w.setCell ⟨g, 0, none⟩ u).setCell ⟨g, 1, none⟩ v).setCell ⟨g, 2, none⟩ x).frozen? ⟨g', j, none⟩ = w.frozen? ⟨g', j, none⟩ := fun j => by simp
  exact ⟨(e 0).trans h.c0, (e 1).trans h.c1, (e 2).trans h.c2, (f 0).trans h.f0, (f 1).trans h.f1, (f 2).trans h.f2, fun i y => by rw [e i]; exact h.no i y⟩
theorem op1 (w : World) (s : Bool) (a : Option Addr) (n c : Nat) (a' : Option Addr) (n' c' : Nat) :
    Hid (QBox w.heap.size (.bool s) (.slice a n c) (.slice a' n' c') ((w.alloc (.cells #[.bool s, .slice a n c, .slice a' n' c'] 25)).alloc (.cells #[.bool false, .slice none 0 0, .slice none 0 0] 25))) ∧ Hid (QBox (w.heap.size + 1) (.bool false) (.slice none 0 0) (.slice none 0 0) ((w.alloc (.cells #[.bool s, .slice a n c, .slice a' n' c'] 25)).alloc (.cells #[.bool false, .slice none 0 0, .slice none 0 0] 25))) ∧ Hid (Keep w ((w.alloc (.cells #[.bool s, .slice a n c, .slice a' n' c'] 25)).alloc (.cells #[.bool false, .slice none 0 0, .slice none 0 0] 25))) :=
  ⟨Lib.hid ((QBox.new w s a n c a' n' c').keep ((Keep.refl _).alloc _)), Lib.hid ((QBox.new (w.alloc _) false none 0 0 none 0 0).at (sz1 _ _)), Lib.hid (((Keep.refl w).alloc _).alloc _)⟩
theorem Ra.form {w : World} {v : Value} {q : Rat} {k : Nat} (h : Ra w v q k) : ∃ s a n c a' n' c' N D, v = .agg #[.bool s, .slice a n c, .slice a' n' c'] ∧ Nm w (.slice a n c) N k ∧ Nm w (.slice a' n' c') D k ∧ rv s N D = q := by
  obtain ⟨s, n, d, x, y, h1, h2, h3, h4⟩ := h
  obtain ⟨a, len, cap, l, rfl, _⟩ := h2.form3
  obtain ⟨a', len', cap', l', rfl, _⟩ := h3.form3
  exact ⟨s, a, len, cap, a', len', cap', n, d, h1, h2, h3, h4⟩
theorem Nm.alive {w : World} {v : Value} {n k : Nat} (h : Nm w v n k) : True := trivial
end Go.Proofs.YtnalmjbgkedcoaaDoor
