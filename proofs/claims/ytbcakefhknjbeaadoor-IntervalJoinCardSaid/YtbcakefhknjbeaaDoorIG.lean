/- Carried over from another seat by program (portn.py). -/
import Derived.Test.YtbcakefhknjbeaaDoorIE
namespace Go.Proofs.YtbcakefhknjbeaaDoor
open Go.RowKit
set_option linter.unusedVariables false
/-- a value that reads as the integer z, in at most k limbs -/
def Iz (w : World) (v : Value) (z : Int) (k : Nat) : Prop := ∃ s n, iv s n = z ∧ Im w v s n k
theorem Iz.keep {w w' : World} {v : Value} {z : Int} {k : Nat} (h : Iz w v z k) (hk : Keep w w') : Iz w' v z k := by
  obtain ⟨s, n, h1, h2⟩ := h
  exact ⟨s, n, h1, h2.keep hk⟩
theorem RBox.set {g : Nat} {u0 u1 : Value} {w : World} (h : RBox g u0 u1 w) (b : Bool) (a : Option Addr) (n c : Nat) : RBox g (.bool b) (.slice a n c) ((w.setCell ⟨g, 0, none⟩ (.bool b)).setCell ⟨g, 1, none⟩ (.slice a n c)) := by
  have c1 : (w.setCell ⟨g, 0, none⟩ (.bool b)).cell? ⟨g, 1, none⟩ = some u1 := by rw [World.cell?_setCell_other _ _ _ _ (by simp)]; exact h.c1
  refine ⟨?_, World.cell?_setCell_same _ _ _ c1, by simpa using h.f0, by simpa using h.f1, fun i x => ?_⟩
  · rw [World.cell?_setCell_other _ _ _ _ (by simp)]; exact World.cell?_setCell_same _ _ _ h.c0
  · by_cases h1 : i = 1
    · subst h1; rw [World.cell?_setCell_same _ _ _ c1]; simp
    · rw [World.cell?_setCell_other _ _ _ _ (by simp <;> omega)]
      by_cases h0 : i = 0
      · subst h0; rw [World.cell?_setCell_same _ _ _ h.c0]; simp
      · rw [World.cell?_setCell_other _ _ _ _ (by simp <;> omega)]; exact h.no i x
end Go.Proofs.YtbcakefhknjbeaaDoor
