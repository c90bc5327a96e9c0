/- The mathematics of intervals. -/
import Derived.Test.YtbcakefhknjbeaaDoorR0
namespace Go.Proofs.YtbcakefhknjbeaaDoor
open Go.RowKit
set_option linter.unusedVariables false
def rmin (p q : Rat) : Rat := if p ≤ q then p else q
def rmax (p q : Rat) : Rat := if q ≤ p then p else q
theorem rmin_facts (p q : Rat) : (p ≤ q ∧ rmin p q = p) ∨ (q < p ∧ rmin p q = q) := by
  unfold rmin; split
  · exact .inl ⟨‹_›, rfl⟩
  · exact .inr ⟨Rat.not_le.1 ‹_›, rfl⟩
theorem rmax_facts (p q : Rat) : (q ≤ p ∧ rmax p q = p) ∨ (p < q ∧ rmax p q = q) := by
  unfold rmax; split
  · exact .inl ⟨‹_›, rfl⟩
  · exact .inr ⟨Rat.not_le.1 ‹_›, rfl⟩
theorem min4_eq (a b c d : Rat) : rmin (rmin (rmin (rmin a a) b) c) d = rmin (rmin a c) (rmin b d) := by
  have := rmin_facts a a; have := rmin_facts (rmin a a) b; have := rmin_facts (rmin (rmin a a) b) c; have := rmin_facts (rmin (rmin (rmin a a) b) c) d
  have := rmin_facts a c; have := rmin_facts b d; have := rmin_facts (rmin a c) (rmin b d)
  grind
theorem max4_eq (a b c d : Rat) : rmax (rmax (rmax (rmax a a) b) c) d = rmax (rmax a c) (rmax b d) := by
  have := rmax_facts a a; have := rmax_facts (rmax a a) b; have := rmax_facts (rmax (rmax a a) b) c; have := rmax_facts (rmax (rmax (rmax a a) b) c) d
  have := rmax_facts a c; have := rmax_facts b d; have := rmax_facts (rmax a c) (rmax b d)
  grind
def m4 (a b c d : Rat) : Rat := rmin (rmin a c) (rmin b d)
def x4 (a b c d : Rat) : Rat := rmax (rmax a c) (rmax b d)
theorem m4_one (a b c d : Rat) : m4 a b c d = a ∨ m4 a b c d = b ∨ m4 a b c d = c ∨ m4 a b c d = d := by
  unfold m4
  have := rmin_facts a c; have := rmin_facts b d; have := rmin_facts (rmin a c) (rmin b d)
  grind
theorem x4_one (a b c d : Rat) : x4 a b c d = a ∨ x4 a b c d = b ∨ x4 a b c d = c ∨ x4 a b c d = d := by
  unfold x4
  have := rmax_facts a c; have := rmax_facts b d; have := rmax_facts (rmax a c) (rmax b d)
  grind
theorem rC_le {p q : Rat} : rC p q ≤ 0 ↔ p ≤ q := by unfold rC; grind
theorem ge_rC {p q : Rat} : 0 ≤ rC p q ↔ q ≤ p := by unfold rC; grind
theorem rmin_def (p q : Rat) : (if rC p q ≤ 0 then p else q) = rmin p q := by unfold rmin; simp only [rC_le]
theorem rmax_def (p q : Rat) : (if 0 ≤ rC p q then p else q) = rmax p q := by unfold rmax; simp only [ge_rC]
end Go.Proofs.YtbcakefhknjbeaaDoor
