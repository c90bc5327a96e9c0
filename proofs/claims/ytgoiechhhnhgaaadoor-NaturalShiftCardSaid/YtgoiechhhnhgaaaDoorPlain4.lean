/- Shifting limbs. -/
import Derived.Test.YtgoiechhhnhgaaaDoorB2
namespace Go.Proofs.YtgoiechhhnhgaaaDoor
set_option linter.unusedVariables false
theorem nv_set {L : List Nat} {i y : Nat} (h : i < L.length) : nv (L.set i y) + BB ^ i * L.getD i 0 = nv L + BB ^ i * y := by
  rw [nv_take_drop (L.set i y) (i := i) (by rw [List.length_set]; omega), take_set, nv_take_drop L (i := i) (by omega)]
  have e1 : (L.set i y).drop i = y :: L.drop (i + 1) := by
    rw [List.drop_eq_getElem_cons (by rw [List.length_set]; omega), List.drop_set_of_lt (by omega)]
    simp
  have e2 : L.drop i = L.getD i 0 :: L.drop (i + 1) := by
    rw [List.drop_eq_getElem_cons h]
    simp [List.getD_eq_getElem?_getD, h]
  rw [e1, e2, nv, nv, Nat.mul_add, Nat.mul_add]
  omega
theorem or_low {r c y : Nat} (hr : r < 32) (hc : c < 2 ^ r) : c ||| (y * 2 ^ r % 4294967296) = c + y * 2 ^ r % 4294967296 ∧ c + y * 2 ^ r % 4294967296 < 4294967296 := by
  have hd : 2 ^ r ∣ 4294967296 := by
    rw [show (4294967296 : Nat) = 2 ^ 32 from by decide]; exact Nat.pow_dvd_pow 2 (by omega)
  have h0 : y * 2 ^ r % 4294967296 % 2 ^ r = 0 := by rw [Nat.mod_mod_of_dvd _ hd, Nat.mul_mod_left]
  have h1 := nat_join r _ c h0 hc
  have hc2 : c < 2 ^ 32 := Nat.lt_of_lt_of_le hc (Nat.pow_le_pow_right (by decide) (by omega))
  have h2 : y * 2 ^ r % 4294967296 ||| c < 2 ^ 32 := Nat.or_lt_two_pow (Nat.mod_lt _ (by decide)) hc2
  rw [Nat.or_comm]
  omega
/-- the lowest j limbs are shifted -/
structure ShlInv (x L : List Nat) (q P j : Nat) : Prop where
  zero : ∀ i, j + q < i → L.getD i 0 = 0
  top : L.getD (j + q) 0 < P
  sum : nv L = BB ^ q * (P * nv (x.take j))
theorem ShlInv.step {x L : List Nat} {q P j c y : Nat} (h : ShlInv x L q P j) (hn : j + q + 1 < L.length) (hc : L.getD (j + q) 0 = c) (hy : x.getD j 0 = y) (hyl : y < BB) (hP : 0 < P) :
    ShlInv x ((L.set (j + q) (c + y * P % BB)).set (j + q + 1) (y * P / BB)) q P (j + 1) := by
  have a1 := nv_set (L := L) (i := j + q) (y := c + y * P % BB) (by omega)
  have a2 := nv_set (L := L.set (j + q) (c + y * P % BB)) (i := j + q + 1) (y := y * P / BB) (by rw [List.length_set]; omega)
  rw [getD_set_ne (by omega), h.zero _ (by omega)] at a2
  rw [hc] at a1
  have hm := Nat.mod_add_div (y * P) BB
  have hsum := h.sum
  refine ⟨fun i hi => ?_, ?_, ?_⟩
  · rw [getD_set_ne (by omega), getD_set_ne (by omega)]; exact h.zero i (by omega)
  · rw [show j + 1 + q = j + q + 1 from by omega, getD_set_same (by rw [List.length_set]; omega), Nat.div_lt_iff_lt_mul BB_pos, Nat.mul_comm P]
    exact Nat.mul_lt_mul_of_pos_right hyl hP
  · rw [nv_take_succ, hy, Nat.mul_add P, Nat.mul_add (BB ^ q), ← hsum]
    have e1 : BB ^ (j + q + 1) * (y * P / BB) = BB ^ (j + q) * (BB * (y * P / BB)) := by rw [Nat.pow_succ, Nat.mul_assoc]
    have e2 : BB ^ q * (P * (BB ^ j * y)) = BB ^ (j + q) * (y * P) := by
      rw [Nat.add_comm j q, Nat.pow_add, Nat.mul_assoc, Nat.mul_left_comm P, Nat.mul_comm P y]
    rw [e2]
    have e3 : BB ^ (j + q) * (y * P) = BB ^ (j + q) * (y * P % BB) + BB ^ (j + q) * (BB * (y * P / BB)) := by rw [← Nat.mul_add, hm]
    rw [Nat.mul_add] at a1
    rw [e1] at a2
    omega
end Go.Proofs.YtgoiechhhnhgaaaDoor
