/- One limb of a quotient, from the leading limbs (Knuth's algorithm D). -/
import Derived.Test.YtgoiechhhnhgaaaDoorPlain5
namespace Go.Proofs.YtgoiechhhnhgaaaDoor
set_option linter.unusedVariables false
/-- the two leading limbs of a divisor, the three of a part; p is the weight of the lower ones -/
structure Lead (U V p u2 u1 u0 v1 v0 : Nat) : Prop where
  hp : 0 < p
  hu2 : u2 < BB
  hu1 : u1 < BB
  hu0 : u0 < BB
  hv1 : v1 < BB
  hv0 : v0 < BB
  hv : 0 < v1
  ulo : ((u2 * BB + u1) * BB + u0) * p ≤ U
  uhi : U < ((u2 * BB + u1) * BB + u0 + 1) * p
  vlo : (v1 * BB + v0) * p ≤ V
  vhi : V < (v1 * BB + v0 + 1) * p
  lt : U < V * BB
/-- an estimate that is not too small -/
structure Est (U V u2 u1 v1 g r : Nat) : Prop where
  top : u2 * BB + u1 = g * v1 + r
  ge : U / V ≤ g
theorem Lead.vpos {U V p u2 u1 u0 v1 v0 : Nat} (h : Lead U V p u2 u1 u0 v1 v0) : 0 < V := by
  have h1 := h.vlo
  have h2 : 1 * 1 ≤ (v1 * BB + v0) * p := Nat.mul_le_mul (by have := Nat.mul_pos h.hv BB_pos; omega) h.hp
  omega
theorem Est.start {U V p u2 u1 u0 v1 v0 : Nat} (h : Lead U V p u2 u1 u0 v1 v0) : Est U V u2 u1 v1 ((u2 * BB + u1) / v1) ((u2 * BB + u1) % v1) := by
  have hv := h.hv
  refine ⟨(Nat.div_add_mod' _ _).symm, ?_⟩
  rw [Nat.le_div_iff_mul_le hv]
  have h1 : U / V * V ≤ U := Nat.div_mul_le_self U V
  generalize U / V = Q at *
  have h2 := h.uhi
  have h3 : Q * ((v1 * BB + v0) * p) ≤ Q * V := Nat.mul_le_mul_left _ h.vlo
  have h4 : Q * (v1 * BB + v0) * p < ((u2 * BB + u1) * BB + u0 + 1) * p := by rw [Nat.mul_assoc]; omega
  have h5 := Nat.lt_of_mul_lt_mul_right h4
  have h6 : Q * v1 * BB ≤ Q * (v1 * BB + v0) := by rw [Nat.mul_add, Nat.mul_assoc]; omega
  have h7 := h.hu0
  have h8 : Q * v1 * BB < (u2 * BB + u1 + 1) * BB := by
    rw [Nat.add_mul (u2 * BB + u1)]; omega
  have := Nat.lt_of_mul_lt_mul_right h8
  omega
theorem Lead.q_lt {U V p u2 u1 u0 v1 v0 : Nat} (h : Lead U V p u2 u1 u0 v1 v0) : U / V < BB := by
  rw [Nat.div_lt_iff_lt_mul h.vpos, Nat.mul_comm]; exact h.lt
theorem Est.step {U V p u2 u1 u0 v1 v0 g r : Nat} (h : Lead U V p u2 u1 u0 v1 v0) (e : Est U V u2 u1 v1 g r) (hc : BB ≤ g ∨ r * BB + u0 < g * v0) : 0 < g ∧ Est U V u2 u1 v1 (g - 1) (r + v1) := by
  have hq := h.q_lt
  have hge := e.ge
  have hg : 0 < g := by
    rcases hc with hc | hc
    · have := BB_pos; omega
    · rcases Nat.eq_zero_or_pos g with h0 | h0
      · subst h0; rw [Nat.zero_mul] at hc; omega
      · exact h0
  obtain ⟨k, rfl⟩ : ∃ k, g = k + 1 := ⟨g - 1, by omega⟩
  refine ⟨hg, ?_, ?_⟩
  · rw [e.top, Nat.add_sub_cancel, Nat.add_mul]; omega
  · rw [Nat.add_sub_cancel]
    rcases hc with hc | hc
    · omega
    · have h1 : U < (k + 1) * V := by
        have h2 := h.uhi
        have h3 : (k + 1) * ((v1 * BB + v0) * p) ≤ (k + 1) * V := Nat.mul_le_mul_left _ h.vlo
        have h4 : (u2 * BB + u1) * BB + u0 + 1 ≤ (k + 1) * (v1 * BB + v0) := by
          rw [e.top, Nat.mul_add, Nat.add_mul, ← Nat.mul_assoc]; omega
        have h5 := Nat.mul_le_mul_right p h4
        rw [Nat.mul_assoc (k + 1)] at h5
        omega
      have := (Nat.div_lt_iff_lt_mul h.vpos).2 h1
      omega
theorem Lead.u2_le {U V p u2 u1 u0 v1 v0 : Nat} (h : Lead U V p u2 u1 u0 v1 v0) : u2 ≤ v1 := by
  have h1 := h.ulo
  have h2 := h.lt
  have h3 := h.vhi
  have h4 : (v1 * BB + v0 + 1) * p ≤ (v1 + 1) * BB * p := Nat.mul_le_mul_right _ (by have := h.hv0; rw [Nat.add_mul]; omega)
  have h5 : u2 * BB * BB * p ≤ ((u2 * BB + u1) * BB + u0) * p := Nat.mul_le_mul_right _ (by rw [Nat.add_mul]; omega)
  have h6 : V * BB ≤ (v1 + 1) * BB * p * BB := Nat.mul_le_mul_right _ (by omega)
  have h7 : u2 * (BB * BB * p) < (v1 + 1) * (BB * BB * p) := by
    have e1 : u2 * (BB * BB * p) = u2 * BB * BB * p := by rw [← Nat.mul_assoc, ← Nat.mul_assoc]
    have e2 : (v1 + 1) * (BB * BB * p) = (v1 + 1) * BB * p * BB := by
      rw [Nat.mul_right_comm ((v1 + 1) * BB), ← Nat.mul_assoc, ← Nat.mul_assoc]
    rw [e1, e2]; omega
  have := Nat.lt_of_mul_lt_mul_right h7
  omega
/-- where the remainder has passed the base, the estimate is a limb -/
theorem Est.broke {U V p u2 u1 u0 v1 v0 g r : Nat} (h : Lead U V p u2 u1 u0 v1 v0) (e : Est U V u2 u1 v1 g r) (hr : BB ≤ r) : g < BB ∧ g * v0 ≤ r * BB + u0 := by
  have h1 := h.u2_le
  have h2 := e.top
  have h3 := h.hu1
  have hg : g < BB := by
    rcases Nat.lt_or_ge g BB with h4 | h4
    · exact h4
    · have h5 : BB * v1 ≤ g * v1 := Nat.mul_le_mul_right _ h4
      have h6 : u2 * BB ≤ v1 * BB := Nat.mul_le_mul_right _ h1
      rw [Nat.mul_comm v1] at h6
      omega
  refine ⟨hg, ?_⟩
  have h7 : g * v0 ≤ BB * BB := Nat.mul_le_mul (by omega) (by have := h.hv0; omega)
  have h8 : BB * BB ≤ r * BB := Nat.mul_le_mul_right _ hr
  omega
/-- the estimate is too great by one at most -/
theorem Est.close {U V p u2 u1 u0 v1 v0 g r : Nat} (h : Lead U V p u2 u1 u0 v1 v0) (e : Est U V u2 u1 v1 g r) (hg : g < BB) (hc : g * v0 ≤ r * BB + u0) : g ≤ U / V + 1 := by
  have h1 : g * (v1 * BB + v0) ≤ (u2 * BB + u1) * BB + u0 := by
    rw [e.top, Nat.mul_add, Nat.add_mul, ← Nat.mul_assoc]; omega
  have h2 := Nat.mul_le_mul_right p h1
  have h3 := h.ulo
  have h4 : g * V ≤ g * ((v1 * BB + v0 + 1) * p) := Nat.mul_le_mul_left _ (Nat.le_of_lt h.vhi)
  have h5 : g * ((v1 * BB + v0 + 1) * p) = g * (v1 * BB + v0) * p + g * p := by
    rw [Nat.add_mul (v1 * BB + v0), Nat.one_mul, Nat.mul_add, Nat.mul_assoc]
  have h6 : g * p < BB * p := Nat.mul_lt_mul_of_pos_right hg h.hp
  have h7 : BB * p ≤ V := by
    have : BB * p ≤ (v1 * BB + v0) * p := Nat.mul_le_mul_right _ (by have := Nat.mul_le_mul_right BB h.hv; omega)
    have := h.vlo
    omega
  have h8 : g * V < U + V := by omega
  have hd := Nat.div_add_mod U V
  have hm := Nat.mod_lt U h.vpos
  generalize U / V = Q at *
  generalize U % V = R at *
  rcases Nat.lt_or_ge (Q + 1) g with h9 | h9
  · have h10 : (Q + 2) * V ≤ g * V := Nat.mul_le_mul_right _ h9
    rw [Nat.add_mul, Nat.mul_comm Q] at h10
    omega
  · exact h9
end Go.Proofs.YtgoiechhhnhgaaaDoor
