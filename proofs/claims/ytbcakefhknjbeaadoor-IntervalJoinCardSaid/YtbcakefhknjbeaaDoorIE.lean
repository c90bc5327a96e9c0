/- Carried over from another seat by program (portn.py). -/
import Derived.Test.YtbcakefhknjbeaaDoorIC
import Derived.Deep.RegionHeld3
namespace Go.Proofs.YtbcakefhknjbeaaDoor
open Go.RowKit
set_option linter.unusedVariables false
theorem RBox.other {g g' : Nat} {u0 u1 : Value} {w : World} (h : RBox g' u0 u1 w) (hne : g ≠ g') (i j : Nat) (u v : Value) : RBox g' u0 u1 ((w.setCell ⟨g, i, none⟩ u).setCell ⟨g, j, none⟩ v) := by
  refine ⟨?_, ?_, ?_, ?_, fun k x => ?_⟩
  · rw [World.cell?_setCell_other _ _ _ _ (by simp <;> omega), World.cell?_setCell_other _ _ _ _ (by simp <;> omega)]; exact h.c0
  · rw [World.cell?_setCell_other _ _ _ _ (by simp <;> omega), World.cell?_setCell_other _ _ _ _ (by simp <;> omega)]; exact h.c1
  · simpa using h.f0
  · simpa using h.f1
  · rw [World.cell?_setCell_other _ _ _ _ (by simp <;> omega), World.cell?_setCell_other _ _ _ _ (by simp <;> omega)]; exact h.no k x
/-- the order of two integers -/
def zC (x y : Int) : Int := if x < y then -1 else if x = y then 0 else 1
theorem bcell {W w1 : World} (hb : Below W.heap.size W w1) : ∀ b o v, W.cell? ⟨b, o, none⟩ = some v → w1.cell? ⟨b, o, none⟩ = some v :=
  fun b o v h => (hb.cell (World.block_lt_of_cell? W _ h)).trans h
theorem Keep.drew {w w' : World} (h : Keep w w') : Keep w w'.drew := Below.trans h ⟨rfl, rfl, rfl, Nat.le_refl _, fun _ _ => rfl⟩
theorem sgn_facts (z : Int) : (sgn z = -1 ∧ z < 0) ∨ (sgn z = 0 ∧ z = 0) ∨ (sgn z = 1 ∧ 0 < z) := by
  unfold sgn; split
  · exact .inl ⟨rfl, by omega⟩
  · split
    · exact .inr (.inl ⟨rfl, by omega⟩)
    · exact .inr (.inr ⟨rfl, by omega⟩)
end Go.Proofs.YtbcakefhknjbeaaDoor
