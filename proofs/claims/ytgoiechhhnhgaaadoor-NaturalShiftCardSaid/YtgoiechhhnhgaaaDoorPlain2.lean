/- Comparing numbers by their limbs. -/
import Derived.Test.YtgoiechhhnhgaaaDoorPlain
namespace Go.Proofs.YtgoiechhhnhgaaaDoor
set_option linter.unusedVariables false
theorem nv_split (l : List Nat) : nv l = l.getD 0 0 + BB * nv l.tail := by
  cases l with
  | nil => simp [nv]
  | cons x r => simp [nv]
theorem getD_tail (l : List Nat) (j : Nat) : l.tail.getD j 0 = l.getD (j + 1) 0 := by
  cases l <;> simp
theorem nv_ext (a : List Nat) : ∀ b : List Nat, (∀ j, a.getD j 0 = b.getD j 0) → nv a = nv b := by
  induction a with
  | nil =>
    intro b h
    induction b with
    | nil => rfl
    | cons x r ih =>
      have h0 := h 0
      have := ih (fun j => by have := h (j + 1); simpa using this)
      simp at h0
      simp [nv, ← this, ← h0]
  | cons x r ih =>
    intro b h
    rw [nv_split b]
    have h0 := h 0
    have := ih b.tail (fun j => by rw [getD_tail, ← h (j + 1)]; simp)
    simp at h0
    simp [nv, this, ← h0]
theorem Lim.tail' {l : List Nat} (h : Lim l) : Lim l.tail := fun x hx => h x (List.mem_of_mem_tail hx)
theorem nv_lt_at (i : Nat) : ∀ {a b : List Nat}, Lim a → Lim b → (∀ j, i < j → a.getD j 0 = b.getD j 0) → a.getD i 0 < b.getD i 0 → nv a < nv b := by
  induction i with
  | zero =>
    intro a b ha hb h hlt
    have := nv_ext a.tail b.tail (fun j => by rw [getD_tail, getD_tail, h (j + 1) (by omega)])
    rw [nv_split a, nv_split b, this]
    omega
  | succ i ih =>
    intro a b ha hb h hlt
    have h1 := ih ha.tail' hb.tail' (fun j hj => by rw [getD_tail, getD_tail, h (j + 1) (by omega)]) (by rw [getD_tail, getD_tail]; exact hlt)
    have h2 := ha.at 0
    rw [nv_split a, nv_split b]
    have : BB * (nv a.tail + 1) ≤ BB * nv b.tail := Nat.mul_le_mul_left _ h1
    rw [Nat.mul_add] at this
    omega
theorem nv_ge {l : List Nat} (hc : l ≠ []) (h : l.getD (l.length - 1) 0 ≠ 0) : BB ^ (l.length - 1) ≤ nv l := by
  induction l with
  | nil => exact absurd rfl hc
  | cons x r ih =>
    cases r with
    | nil => simp [nv] at h ⊢; omega
    | cons y s =>
      have := ih (by simp) (by simpa using h)
      simp only [List.length_cons, Nat.add_sub_cancel] at this ⊢
      rw [nv, Nat.pow_succ, Nat.mul_comm]
      have : BB * BB ^ s.length ≤ BB * nv (y :: s) := Nat.mul_le_mul_left _ this
      omega
theorem dig_top {n : Nat} (h : n ≠ 0) : (dig n).getD ((dig n).length - 1) 0 ≠ 0 := by
  induction n using Nat.strongRecOn with
  | _ n ih =>
    rw [dig_pos h]
    by_cases h2 : n / BB = 0
    · rw [h2, dig_zero]
      simp
      rw [Nat.div_eq_zero_iff] at h2
      have := BB_pos
      rw [Nat.mod_eq_of_lt (by omega)]
      exact h
    · have := ih (n / BB) (Nat.div_lt_self (by omega) (by decide)) h2
      have hl : (dig (n / BB)).length ≠ 0 := by rw [dig_pos h2]; simp
      obtain ⟨m, hm⟩ : ∃ m, (dig (n / BB)).length = m + 1 := ⟨_, (Nat.succ_pred_eq_of_ne_zero hl).symm⟩
      rw [hm] at this
      simp only [List.length_cons, hm, Nat.add_sub_cancel] at this ⊢
      simpa using this
theorem dig_nil_iff {n : Nat} : dig n = [] ↔ n = 0 := by
  constructor
  · intro h; have := nv_dig n; rw [h] at this; simpa [nv] using this.symm
  · rintro rfl; exact dig_zero
theorem dig_len_lt {a b : Nat} (h : (dig a).length < (dig b).length) : a < b := by
  have hb : b ≠ 0 := by rintro rfl; rw [dig_zero] at h; simp at h
  have h1 := nv_lt (dig_lim a)
  rw [nv_dig] at h1
  have h2 := nv_ge (l := dig b) (by intro h; exact hb (dig_nil_iff.1 h)) (dig_top hb)
  rw [nv_dig] at h2
  have : BB ^ (dig a).length ≤ BB ^ ((dig b).length - 1) := Nat.pow_le_pow_right BB_pos (by omega)
  omega
theorem dig_len_le {a b : Nat} (h : a ≤ b) : (dig a).length ≤ (dig b).length := by
  rcases Nat.lt_or_ge (dig b).length (dig a).length with h1 | h1
  · have := dig_len_lt h1; omega
  · exact h1
theorem dig_len_of {n k : Nat} (h : n < BB ^ k) : (dig n).length ≤ k := by
  by_cases hn : n = 0
  · subst hn; rw [dig_zero]; simp
  · have h2 := nv_ge (l := dig n) (by intro h; exact hn (dig_nil_iff.1 h)) (dig_top hn)
    rw [nv_dig] at h2
    rcases Nat.lt_or_ge k (dig n).length with h3 | h3
    · have : BB ^ k ≤ BB ^ ((dig n).length - 1) := Nat.pow_le_pow_right BB_pos (by omega)
      omega
    · exact h3
/-- how two numbers compare -/
def cmpv (a b : Nat) : Int := if a < b then -1 else if b < a then 1 else 0
theorem cmpv_lt {a b : Nat} (h : a < b) : cmpv a b = -1 := by simp [cmpv, h]
theorem cmpv_gt {a b : Nat} (h : b < a) : cmpv a b = 1 := by simp [cmpv, h]; omega
theorem cmpv_eq {a b : Nat} (h : a = b) : cmpv a b = 0 := by simp [cmpv, h]
theorem getD_over {l : List Nat} {j : Nat} (h : l.length ≤ j) : l.getD j 0 = 0 := by
  simp [List.getD_eq_getElem?_getD, List.getElem?_eq_none h]
theorem list_ext_getD {a b : List Nat} (hl : a.length = b.length) (h : ∀ j, j < a.length → a.getD j 0 = b.getD j 0) : a = b := by
  apply List.ext_getElem hl
  intro i h1 h2
  have := h i h1
  simpa [List.getD_eq_getElem?_getD, h1, h2] using this
end Go.Proofs.YtgoiechhhnhgaaaDoor
