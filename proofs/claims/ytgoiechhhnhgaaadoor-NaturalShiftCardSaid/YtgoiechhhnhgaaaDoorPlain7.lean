/- Long division, limb by limb. -/
import Derived.Test.YtgoiechhhnhgaaaDoorE3
namespace Go.Proofs.YtgoiechhhnhgaaaDoor
set_option linter.unusedVariables false
/-- the limbs from k on of the quotient Q are there; L holds what is left; V is the divisor, of n limbs -/
structure LdInv (A V n : Nat) (L Q : List Nat) (k : Nat) : Prop where
  lt : nv (L.drop k) < V
  sum : A = nv (L.take k) + BB ^ k * (V * nv (Q.drop k) + nv (L.drop k))
theorem LdInv.start {A V n k : Nat} {L Q : List Nat} (hA : nv L = A) (hk : k ≤ L.length) (hQ : Q.length = k) (hlt : A < BB ^ k * V) : LdInv A V n L Q k := by
  have h1 := nv_take_drop L hk
  refine ⟨?_, ?_⟩
  · have h2 : BB ^ k * nv (L.drop k) < BB ^ k * V := by omega
    exact Nat.lt_of_mul_lt_mul_left h2
  · rw [List.drop_of_length_le (by omega : Q.length ≤ k)]
    simp only [nv, Nat.mul_zero, Nat.zero_add]
    omega
/-- the part that the next step divides -/
theorem LdInv.part {A V n : Nat} {L Q : List Nat} {k : Nat} (h : LdInv A V n L Q (k + 1)) (hV : V ≤ BB ^ n) (hl : Lim L) (hk : k + n + 1 ≤ L.length) :
    nv ((L.drop k).take (n + 1)) = nv (L.drop k) ∧ nv (L.drop k) < V * BB := by
  have h1 := nv_drop_step (l := L) (k := k) (by omega)
  have h2 := hl.at k
  have h3 := h.lt
  have h4 : BB * (nv (L.drop (k + 1)) + 1) ≤ BB * V := Nat.mul_le_mul_left _ h3
  rw [Nat.mul_add] at h4
  have h5 : nv (L.drop k) < V * BB := by rw [Nat.mul_comm V]; omega
  refine ⟨nv_take_all (l := L) ?_, h5⟩
  have h6 : V * BB ≤ BB ^ n * BB := Nat.mul_le_mul_right _ hV
  rw [Nat.pow_succ]
  exact Nat.lt_of_lt_of_le h5 h6
theorem LdInv.step {A V n : Nat} {L Q M : List Nat} {k : Nat} (h : LdInv A V n L Q (k + 1)) (hV : V ≤ BB ^ n) (hV0 : 0 < V) (hl : Lim L) (hm : Lim M) (hk : k + n + 1 ≤ L.length) (hQ : k < Q.length) (hM : M.length = n + 1)
    (hv : nv M = nv ((L.drop k).take (n + 1)) % V) :
    LdInv A V n (L.take k ++ M ++ L.drop (k + (n + 1))) (Q.set k (nv ((L.drop k).take (n + 1)) / V)) k := by
  obtain ⟨hp, hlt⟩ := h.part hV hl hk
  rw [hp] at hv ⊢
  have h0 : (L.take k).length = k := by simp; omega
  have ht : (L.take k ++ M ++ L.drop (k + (n + 1))).take k = L.take k := by
    rw [List.append_assoc, List.take_append_of_le_length (by omega), List.take_of_length_le (by omega)]
  have hd : nv ((L.take k ++ M ++ L.drop (k + (n + 1))).drop k) = nv M := by
    rw [List.append_assoc, List.drop_append_of_le_length (by omega), List.drop_of_length_le (by omega), List.nil_append, nv_append, hM]
    have h2 := nv_take_drop (L.drop k) (i := n + 1) (by simp; omega)
    rw [hp, List.drop_drop] at h2
    have h3 : BB ^ (n + 1) * nv (L.drop (k + (n + 1))) = 0 := by omega
    rw [h3, Nat.add_zero]
  refine ⟨by rw [hd, hv]; exact Nat.mod_lt _ hV0, ?_⟩
  rw [ht, hd, hv, nv_drop_step (l := Q.set k _) (by rw [List.length_set]; exact hQ), getD_set_same hQ, List.drop_set_of_lt (by omega)]
  have h4 := h.sum
  have h5 := nv_drop_step (l := L) (k := k) (by omega)
  have h6 := Nat.div_add_mod (nv (L.drop k)) V
  rw [nv_take_succ, Nat.pow_succ] at h4
  generalize nv (L.drop k) / V = d at *
  generalize nv (L.drop k) % V = r at *
  have e1 : V * (d + BB * nv (Q.drop (k + 1))) + r = nv (L.drop k) + BB * (V * nv (Q.drop (k + 1))) := by
    rw [Nat.mul_add, Nat.mul_left_comm V BB]; omega
  rw [e1, h5, h4, Nat.mul_assoc (BB ^ k), Nat.mul_add (BB ^ k), Nat.mul_add (BB ^ k), Nat.mul_add BB, Nat.mul_add (BB ^ k)]
  omega
theorem LdInv.done {A V n : Nat} {L Q : List Nat} (h : LdInv A V n L Q 0) : nv Q = A / V ∧ nv L = A % V := by
  have h1 := h.sum
  have h2 := h.lt
  simp only [List.drop_zero, List.take_zero, Nat.pow_zero, Nat.one_mul, nv, Nat.zero_add] at h1 h2
  have hV : 0 < V := by omega
  rw [h1, Nat.mul_add_div hV, Nat.div_eq_of_lt h2, Nat.mul_add_mod, Nat.mod_eq_of_lt h2]
  simp
end Go.Proofs.YtgoiechhhnhgaaaDoor
