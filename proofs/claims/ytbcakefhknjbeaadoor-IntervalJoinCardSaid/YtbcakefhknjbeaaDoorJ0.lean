/- The mathematics of intervals. -/
import Derived.Test.YtbcakefhknjbeaaDoorR0
namespace Go.Proofs.YtbcakefhknjbeaaDoor
open Go.RowKit
set_option linter.unusedVariables false
def rmin (p q : Rat) : Rat := if p ≤ q then p else q
def rmax (p q : Rat) : Rat := if q ≤ p then p else q
theorem rmin_facts (p q : Rat) : (p ≤ q ∧ rmin p q = p) ∨ (q < p ∧ rmin p q = q) := by
  unfold rmin; split
  · exact .inl ⟨‹_›, rfl⟩
  · exact .inr ⟨Rat.not_le.1 ‹_›, rfl⟩
theorem rmax_facts (p q : Rat) : (q ≤ p ∧ rmax p q = p) ∨ (p < q ∧ rmax p q = q) := by
  unfold rmax; split
  · exact .inl ⟨‹_›, rfl⟩
  · exact .inr ⟨Rat.not_le.1 ‹_›, rfl⟩
theorem min4_eq (a b c d : Rat) : rmin (rmin (rmin (rmin a a) b) c) d = rmin (rmin a c) (rmin b d) := by
  have := rmin_facts a a; have := rmin_facts (rmin a a) b; have := rmin_facts (rmin (rmin a a) b) c; have := rmin_facts (rmin (rmin (rmin a a) b) c) d
  have := rmin_facts a c; have := rmin_facts b d; have := rmin_facts (rmin a c) (rmin b d)
  grind
theorem max4_eq (a b c d : Rat) : rmax (rmax (rmax (rmax a a) b) c) d = rmax (rmax a c) (rmax b d) := by
  have := rmax_facts a a; have := rmax_facts (rmax a a) b; have := rmax_facts (rmax (rmax a a) b) c; have := rmax_facts (rmax (rmax (rmax a a) b) c) d
  have := rmax_facts a c; have := rmax_facts b d; have := rmax_facts (rmax a c) (rmax b d)
  grind
theorem mul_le_pos {x y c : Rat} (h : x ≤ y) (hc : 0 ≤ c) : x * c ≤ y * c := Rat.mul_le_mul_of_nonneg_right h hc
theorem mul_le_neg {x y c : Rat} (h : x ≤ y) (hc : c ≤ 0) : y * c ≤ x * c := by
  have := mul_le_pos (c := -c) h (by grind)
  grind
theorem bet_r {l h x y : Rat} (h1 : l ≤ x) (h2 : x ≤ h) : rmin (l * y) (h * y) ≤ x * y ∧ x * y ≤ rmax (l * y) (h * y) := by
  have := rmin_facts (l * y) (h * y); have := rmax_facts (l * y) (h * y)
  by_cases hy : 0 ≤ y
  · have := mul_le_pos h1 hy; have := mul_le_pos h2 hy
    grind
  · have := mul_le_neg h1 (c := y) (by grind); have := mul_le_neg h2 (c := y) (by grind)
    grind
def m4 (a b c d : Rat) : Rat := rmin (rmin a c) (rmin b d)
def x4 (a b c d : Rat) : Rat := rmax (rmax a c) (rmax b d)
theorem m4_le (a b c d : Rat) : m4 a b c d ≤ a ∧ m4 a b c d ≤ b ∧ m4 a b c d ≤ c ∧ m4 a b c d ≤ d := by
  unfold m4
  have := rmin_facts a c; have := rmin_facts b d; have := rmin_facts (rmin a c) (rmin b d)
  grind
theorem x4_ge (a b c d : Rat) : a ≤ x4 a b c d ∧ b ≤ x4 a b c d ∧ c ≤ x4 a b c d ∧ d ≤ x4 a b c d := by
  unfold x4
  have := rmax_facts a c; have := rmax_facts b d; have := rmax_facts (rmax a c) (rmax b d)
  grind
/-- the product of two points lies between -/
theorem mul_bet {l h x m g y : Rat} (h1 : l ≤ x) (h2 : x ≤ h) (h3 : m ≤ y) (h4 : y ≤ g) : m4 (l * m) (l * g) (h * m) (h * g) ≤ x * y ∧ x * y ≤ x4 (l * m) (l * g) (h * m) (h * g) := by
  have e1 := bet_r (y := y) h1 h2
  have f1 := bet_r (y := l) h3 h4
  have f2 := bet_r (y := h) h3 h4
  obtain ⟨a1, a2, a3, a4⟩ := m4_le (l * m) (l * g) (h * m) (h * g)
  obtain ⟨b1, b2, b3, b4⟩ := x4_ge (l * m) (l * g) (h * m) (h * g)
  have := rmin_facts (l * y) (h * y); have := rmax_facts (l * y) (h * y)
  have := rmin_facts (m * l) (g * l); have := rmax_facts (m * l) (g * l)
  have := rmin_facts (m * h) (g * h); have := rmax_facts (m * h) (g * h)
  rw [Rat.mul_comm y l, Rat.mul_comm m l, Rat.mul_comm g l] at *
  rw [Rat.mul_comm y h, Rat.mul_comm m h, Rat.mul_comm g h] at *
  generalize m4 (l * m) (l * g) (h * m) (h * g) = A at *
  generalize x4 (l * m) (l * g) (h * m) (h * g) = B at *
  generalize l * y = ly at *
  generalize h * y = hy at *
  generalize l * m = lm at *
  generalize l * g = lg at *
  generalize h * m = hm at *
  generalize h * g = hg at *
  generalize x * y = xy at *
  constructor <;> grind
theorem at_bet {l h p : Rat} (hl : l ≤ h) (h0 : 0 ≤ p) (h1 : p ≤ 1) : l ≤ l + p * (h - l) ∧ l + p * (h - l) ≤ h := by
  have a := mul_le_pos (x := 0) (y := p) (c := h - l) h0 (by grind)
  have b := mul_le_pos (x := p) (y := 1) (c := h - l) h1 (by grind)
  grind
theorem part_bet {n : Int} (h0 : 0 ≤ n) (h1 : n ≤ 255) : 0 ≤ (n : Rat) / ((255 : Int) : Rat) ∧ (n : Rat) / ((255 : Int) : Rat) ≤ 1 := by
  have e : (n : Rat) / ((255 : Int) : Rat) * 255 = n := by grind
  have a : ((0 : Int) : Rat) ≤ (n : Rat) := Rat.intCast_le_intCast.2 h0
  have b : (n : Rat) ≤ ((255 : Int) : Rat) := Rat.intCast_le_intCast.2 h1
  generalize (n : Rat) / ((255 : Int) : Rat) = q at *
  constructor <;> grind
theorem rC_le {p q : Rat} : rC p q ≤ 0 ↔ p ≤ q := by unfold rC; grind
theorem ge_rC {p q : Rat} : 0 ≤ rC p q ↔ q ≤ p := by unfold rC; grind
theorem rmin_def (p q : Rat) : (if rC p q ≤ 0 then p else q) = rmin p q := by unfold rmin; simp only [rC_le]
theorem rmax_def (p q : Rat) : (if 0 ≤ rC p q then p else q) = rmax p q := by unfold rmax; simp only [ge_rC]
end Go.Proofs.YtbcakefhknjbeaaDoor
