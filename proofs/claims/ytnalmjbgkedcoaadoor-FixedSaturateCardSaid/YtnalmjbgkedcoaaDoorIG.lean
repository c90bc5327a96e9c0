/- Carried over from another seat by program (portn.py). -/
import Derived.Test.YtnalmjbgkedcoaaDoorIE
namespace Go.Proofs.YtnalmjbgkedcoaaDoor
open Go.RowKit
set_option linter.unusedVariables false
/-- a value that reads as the integer z, in at most k limbs -/
def Iz (w : World) (v : Value) (z : Int) (k : Nat) : Prop := ∃ s n, iv s n = z ∧ Im w v s n k
theorem Iz.keep {w w' : World} {v : Value} {z : Int} {k : Nat} (h : Iz w v z k) (hk : Keep w w') : Iz w' v z k := by
  obtain ⟨s, n, h1, h2⟩ := h
  exact ⟨s, n, h1, h2.keep hk⟩
theorem Ci.iz {w : World} {v : Value} {z : Int} {k : Nat} (h : Ci w v z) (hk : z.natAbs < BB ^ k) : Iz w v z k := ⟨_, _, iv_abs z, h.im hk⟩
theorem sign_z {w : World} {v : Value} {z : Int} {k : Nat} (h : Iz w v z k) (hk : k ≤ 1048576) : Calls Tryd.prog 52 #[v] w (VPost (sgn z) w) := by
  obtain ⟨s, n, rfl, h2⟩ := h; exact isign_c h2 hk
theorem rsign_z {w : World} {v : Value} {z : Int} {k : Nat} (h : Iz w v z k) (hk : k ≤ 1048576) : Calls Tryd.prog 58 #[v] w (VPost (sgn z) w) := by
  obtain ⟨s, n, rfl, h2⟩ := h; exact risign_c h2 hk
theorem dm_z {w : World} {v u : Value} {z y : Int} {k k' : Nat} (h : Iz w v z k) (h' : Iz w u y k') (hk : k ≤ 1048574) (hk' : k' ≤ 1048574) : Calls Tryd.prog 48 #[v, u] w (ZPost (zQ z y) (zR z y) (zE y) w) := by
  obtain ⟨s, n, rfl, h2⟩ := h; obtain ⟨s', n', rfl, h2'⟩ := h'; exact idivmod_c h2 h2' hk hk'
theorem RBox.set {g : Nat} {u0 u1 : Value} {w : World} (h : RBox g u0 u1 w) (b : Bool) (a : Option Addr) (n c : Nat) : RBox g (.bool b) (.slice a n c) ((w.setCell ⟨g, 0, none⟩ (.bool b)).setCell ⟨g, 1, none⟩ (.slice a n c)) := by
  have c1 : (w.setCell ⟨g, 0, none⟩ (.bool b)).cell? ⟨g, 1, none⟩ = some u1 := by rw [World.cell?_setCell_other _ _ _ _ (by simp)]; exact h.c1
  refine ⟨?_, World.cell?_setCell_same _ _ _ c1, by simpa using h.f0, by simpa using h.f1, fun i x => ?_⟩
  · rw [World.cell?_setCell_other _ _ _ _ (by simp)]; exact World.cell?_setCell_same _ _ _ h.c0
  · by_cases h1 : i = 1
    · subst h1; rw [World.cell?_setCell_same _ _ _ c1]; simp
    · rw [World.cell?_setCell_other _ _ _ _ (by simp <;> omega)]
      by_cases h0 : i = 0
      · subst h0; rw [World.cell?_setCell_same _ _ _ h.c0]; simp
      · rw [World.cell?_setCell_other _ _ _ _ (by simp <;> omega)]; exact h.no i x
/-- two results, put into two new blocks -/
def prW (w : World) (b : Bool) (a : Option Addr) (n c : Nat) (b' : Bool) (a' : Option Addr) (n' c' : Nat) : World :=
  (w.alloc (.cells #[.bool b, .slice a n c] 51)).alloc (.cells #[.bool b', .slice a' n' c'] 51)
theorem pr_new (w : World) (b : Bool) (a : Option Addr) (n c : Nat) (b' : Bool) (a' : Option Addr) (n' c' : Nat) :
    RBox w.heap.size (.bool b) (.slice a n c) (prW w b a n c b' a' n' c') ∧ RBox (w.heap.size + 1) (.bool b') (.slice a' n' c') (prW w b a n c b' a' n' c') ∧ Keep w (prW w b a n c b' a' n' c') := by
  exact ⟨(RBox.new w b a n c).keep ((Keep.refl _).alloc _), (RBox.new (w.alloc _) b' a' n' c').at (sz1 _ _), ((Keep.refl w).alloc _).alloc _⟩
end Go.Proofs.YtnalmjbgkedcoaaDoor
