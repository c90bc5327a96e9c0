/- Carried over from another seat by program (portn.py). -/
import Derived.Test.YtnalmjbgkedcoaaDoorNpl
import Derived.Lib.BitFns
namespace Go.Proofs.YtnalmjbgkedcoaaDoor
set_option linter.unusedVariables false
/-- the number of bits -/
def bl (n : Nat) : Nat := if n = 0 then 0 else n.log2 + 1
theorem bl_zero : bl 0 = 0 := rfl
theorem bl_of {n k : Nat} (h1 : 2 ^ k ≤ n) (h2 : n < 2 ^ (k + 1)) : bl n = k + 1 := by
  have hn : n ≠ 0 := by have := Nat.two_pow_pos k; omega
  have a := (Nat.le_log2 hn).2 h1
  have b := (Nat.log2_lt hn).2 h2
  simp [bl, hn]; omega
theorem bl_spec {n : Nat} (hn : n ≠ 0) : ∃ k, bl n = k + 1 ∧ 2 ^ k ≤ n ∧ n < 2 ^ (k + 1) := by
  refine ⟨n.log2, by simp [bl, hn], (Nat.le_log2 hn).1 (Nat.le_refl _), (Nat.log2_lt hn).1 (Nat.lt_succ_self _)⟩
theorem bl_half {n : Nat} (hn : n ≠ 0) : bl n = bl (n / 2) + 1 := by
  obtain ⟨k, h1, h2, h3⟩ := bl_spec hn
  rw [h1]
  cases k with
  | zero =>
    have : n / 2 = 0 := by simp at h3; omega
    rw [this]; rfl
  | succ k =>
    rw [bl_of (k := k) (n := n / 2) (by rw [Nat.pow_succ] at h2; omega) (by rw [Nat.pow_succ 2 (k + 1)] at h3; omega)]
theorem bl_lib : ∀ {x : Nat}, x < 18446744073709551616 → Lib.bitLen x = bl x := by
  intro x
  induction x using Nat.strongRecOn with
  | _ x ih =>
    intro hx
    by_cases h0 : x = 0
    · subst h0; rfl
    · rw [bl_half h0, Lib.bitLen_half x h0 hx, ih (x / 2) (by omega) (by omega)]; omega
theorem bl_le {x k : Nat} (h : x < 2 ^ k) : bl x ≤ k := by
  by_cases h0 : x = 0
  · subst h0; simp [bl_zero]
  · obtain ⟨j, h1, h2, h3⟩ := bl_spec h0
    rw [h1]
    have : j < k := (Nat.pow_lt_pow_iff_right (by decide)).1 (Nat.lt_of_le_of_lt h2 h)
    omega
theorem lt_bl (x : Nat) : x < 2 ^ bl x := by
  by_cases h0 : x = 0
  · subst h0; simp [bl_zero]
  · obtain ⟨j, h1, h2, h3⟩ := bl_spec h0
    rw [h1]; exact h3
theorem BB_pow (k : Nat) : BB ^ k = 2 ^ (32 * k) := by
  rw [BB_eq, show (4294967296 : Nat) = 2 ^ 32 from by decide, ← Nat.pow_mul]
theorem take_all_but {l : List Nat} {k : Nat} (h : l.length = k + 1) : l = l.take k ++ [l.getD k 0] := by
  have e : l.take (k + 1) = l.take k ++ [l.getD k 0] := by rw [List.take_add_one]; simp [List.getD_eq_getElem?_getD, h]
  rw [← e, List.take_of_length_le (by omega)]
theorem nv_top {l : List Nat} {k : Nat} (h : l.length = k + 1) : nv l = nv (l.take k) + BB ^ k * l.getD k 0 := by
  conv => lhs; rw [take_all_but h]
  rw [nv_append, List.length_take, h, Nat.min_eq_left (by omega)]
  simp [nv]
theorem bl_top {l : List Nat} {k : Nat} (hl : Lim l) (h : l.length = k + 1) (h0 : l.getD k 0 ≠ 0) : bl (nv l) = 32 * k + bl (l.getD k 0) := by
  obtain ⟨j, h1, h2, h3⟩ := bl_spec h0
  have ht := nv_lt (hl.take k)
  rw [List.length_take, h, Nat.min_eq_left (by omega)] at ht
  have hn := nv_top h
  generalize nv l = n at *
  generalize nv (l.take k) = r at *
  generalize l.getD k 0 = t at *
  rw [BB_pow] at hn ht
  rw [h1, ← Nat.add_assoc]
  apply bl_of
  · rw [hn, Nat.pow_add]
    have := Nat.mul_le_mul_left (2 ^ (32 * k)) h2
    omega
  · rw [hn, Nat.add_assoc, Nat.pow_add 2 (32 * k)]
    have := Nat.mul_le_mul_left (2 ^ (32 * k)) (show t + 1 ≤ 2 ^ (j + 1) from h3)
    rw [Nat.mul_add] at this
    omega
theorem bl_dig {n k : Nat} (h : (dig n).length = k + 1) : bl n = 32 * k + bl ((dig n).getD k 0) := by
  have hn : n ≠ 0 := by rintro rfl; rw [dig_zero] at h; simp at h
  have := dig_top hn
  rw [h, Nat.add_sub_cancel] at this
  have := bl_top (dig_lim n) h this
  rwa [nv_dig] at this
end Go.Proofs.YtnalmjbgkedcoaaDoor
