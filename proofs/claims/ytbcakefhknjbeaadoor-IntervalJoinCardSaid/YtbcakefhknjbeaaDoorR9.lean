/- Carried over from another seat by program (portn.py). -/
import Derived.Test.YtbcakefhknjbeaaDoorR8
import Derived.Deep.DeepCutAuto
namespace Go.Proofs.YtbcakefhknjbeaaDoor
open Go.RowKit
set_option linter.unusedVariables false
theorem RBox.other3 {g g' : Nat} {u0 u1 : Value} {w : World} (h : RBox g' u0 u1 w) (hne : g ≠ g') (u v x : Value) : RBox g' u0 u1 (((w.setCell ⟨g, 0, none⟩ u).setCell ⟨g, 1, none⟩ v).setCell ⟨g, 2, none⟩ x) := by
  have e : ∀ j, (((w.setCell ⟨g, 0, none⟩ u).setCell ⟨g, 1, none⟩ v).setCell ⟨g, 2, none⟩ x).cell? ⟨g', j, none⟩ = w.cell? ⟨g', j, none⟩ := fun j => by
    rw [World.cell?_setCell_other _ _ _ _ (by simp), World.cell?_setCell_other _ _ _ _ (by simp), World.cell?_setCell_other _ _ _ _ (by simp)]
  have f : ∀ j, (((w.setCell ⟨g, 0, none⟩ u).setCell ⟨g, 1, none⟩ v).setCell ⟨g, 2, none⟩ x).frozen? ⟨g', j, none⟩ = w.frozen? ⟨g', j, none⟩ := fun j => by simp
  exact ⟨(e 0).trans h.c0, (e 1).trans h.c1, (f 0).trans h.f0, (f 1).trans h.f1, fun i y => by rw [e i]; exact h.no i y⟩
theorem dn_lt' {d k : Nat} (h : d < BB ^ k) (hk : 1 ≤ k) : dn d < BB ^ k := by
  have := one_lt_BB hk
  unfold dn; split <;> omega
theorem iv_add_abs (s t : Bool) {n m k : Nat} (h : n < BB ^ k) (h' : m < BB ^ k) : (iv s n + iv t m).natAbs < BB ^ (k + 1) := by
  refine Nat.lt_of_le_of_lt (Int.natAbs_add_le _ _) ?_
  rw [iv_natAbs, iv_natAbs]
  exact lt_add_pow h h'
/-- a pointer to a new block that holds an integer -/
def PBox (w0 : World) (lo : Nat) (s : Bool) (n : Nat) (v : Value) (wx : World) : Prop := ∃ g a len cap, v = .pointer (some ⟨g, 0, none⟩) ∧ lo ≤ g ∧ RBox g (.bool s) (.slice a len cap) wx ∧ Cn wx (.slice a len cap) n ∧ Keep w0 wx
theorem Ci.cn {w : World} {a : Option Addr} {n c : Nat} {b : Bool} {z : Int} (h : Ci w (.agg #[.bool b, .slice a n c]) z) : Cn w (.slice a n c) z.natAbs := by
  obtain ⟨m, e, h⟩ := h
  cases e
  exact h
end Go.Proofs.YtbcakefhknjbeaaDoor
