/- Carried over from another seat by program (portn.py). -/
import Derived.Lib.Hide
namespace Go.Proofs.YtnalmjbgkedcoaaDoor
set_option linter.unusedVariables false
/-- the base, behind a name -/
def BB : Nat := 4294967296
theorem BB_eq : BB = 4294967296 := rfl
theorem BB_pos : 0 < BB := by decide
/-- the number that limbs are -/
def nv : List Nat → Nat
  | [] => 0
  | x :: r => x + BB * nv r
/-- the canonical limbs of a number -/
def dig (n : Nat) : List Nat := if h : n = 0 then [] else (n % BB) :: dig (n / BB)
termination_by n
decreasing_by exact Nat.div_lt_self (Nat.pos_of_ne_zero h) (by decide)
theorem dig_zero : dig 0 = [] := by rw [dig]; simp
theorem dig_pos {n : Nat} (h : n ≠ 0) : dig n = (n % BB) :: dig (n / BB) := by rw [dig]; simp [h]
theorem nv_dig (n : Nat) : nv (dig n) = n := by
  induction n using Nat.strongRecOn with
  | _ n ih =>
    by_cases h : n = 0
    · subst h; rw [dig_zero]; rfl
    · rw [dig_pos h, nv, ih _ (Nat.div_lt_self (Nat.pos_of_ne_zero h) (by decide))]
      exact Nat.mod_add_div n BB
def Lim (l : List Nat) : Prop := ∀ x ∈ l, x < BB
theorem dig_lim (n : Nat) : Lim (dig n) := by
  induction n using Nat.strongRecOn with
  | _ n ih =>
    by_cases h : n = 0
    · subst h; rw [dig_zero]; intro x hx; simp at hx
    · rw [dig_pos h]; intro x hx
      rcases List.mem_cons.1 hx with rfl | hx
      · exact Nat.mod_lt _ BB_pos
      · exact ih _ (Nat.div_lt_self (Nat.pos_of_ne_zero h) (by decide)) x hx
theorem Lim.nil : Lim [] := by intro x hx; simp at hx
theorem Lim.cons {x : Nat} {l : List Nat} (h : x < BB) (hl : Lim l) : Lim (x :: l) := by
  intro y hy; rcases List.mem_cons.1 hy with rfl | hy
  · exact h
  · exact hl y hy
theorem Lim.tail {x : Nat} {l : List Nat} (h : Lim (x :: l)) : Lim l := fun y hy => h y (List.mem_cons_of_mem _ hy)
theorem Lim.head {x : Nat} {l : List Nat} (h : Lim (x :: l)) : x < BB := h x (List.mem_cons_self ..)
theorem Lim.append {a b : List Nat} (h : Lim a) (h' : Lim b) : Lim (a ++ b) := by
  intro x hx; rcases List.mem_append.1 hx with hx | hx
  · exact h x hx
  · exact h' x hx
theorem Lim.take {a : List Nat} (h : Lim a) (k : Nat) : Lim (a.take k) := fun x hx => h x (List.mem_of_mem_take hx)
theorem Lim.drop {a : List Nat} (h : Lim a) (k : Nat) : Lim (a.drop k) := fun x hx => h x (List.mem_of_mem_drop hx)
theorem Lim.at {l : List Nat} (h : Lim l) (k : Nat) : l.getD k 0 < BB := by
  by_cases hk : k < l.length
  · rw [List.getD_eq_getElem?_getD, List.getElem?_eq_getElem hk]; exact h _ (List.getElem_mem hk)
  · rw [List.getD_eq_getElem?_getD, List.getElem?_eq_none (by omega)]; exact BB_pos
theorem nv_append (a b : List Nat) : nv (a ++ b) = nv a + BB ^ a.length * nv b := by
  induction a with
  | nil => simp [nv]
  | cons x r ih => simp only [List.cons_append, nv, ih, List.length_cons, Nat.pow_succ]; rw [Nat.mul_add, ← Nat.mul_assoc, Nat.mul_comm BB (BB ^ _), Nat.add_assoc]
theorem nv_lt {l : List Nat} (h : Lim l) : nv l < BB ^ l.length := by
  induction l with
  | nil => simp [nv]
  | cons x r ih =>
    have h1 := ih h.tail
    have h2 := h.head
    simp only [nv, List.length_cons, Nat.pow_succ]
    have h3 : BB * (nv r + 1) ≤ BB ^ r.length * BB := by rw [Nat.mul_comm (BB ^ _)]; exact Nat.mul_le_mul_left BB h1
    rw [Nat.mul_add] at h3; omega
/-- what is left when the limbs 0 at the end are cut -/
def tr (l : List Nat) : List Nat := dig (nv l)
/-- canonical: the last limb is not 0 -/
def canB (l : List Nat) : Bool := l.length == 0 || l.getD (l.length - 1) 0 != 0
theorem dig_of {l : List Nat} (h : Lim l) (hc : l = [] ∨ l.getD (l.length - 1) 0 ≠ 0) : dig (nv l) = l := by
  induction l with
  | nil => rw [nv, dig_zero]
  | cons x r ih =>
    have hx := h.head
    rcases hc with hc | hc
    · simp at hc
    have hr : r = [] ∨ r.getD (r.length - 1) 0 ≠ 0 := by
      cases r with
      | nil => exact .inl rfl
      | cons y s =>
        right
        simp only [List.length_cons, Nat.add_sub_cancel] at hc ⊢
        simpa using hc
    have ih := ih h.tail hr
    have hne : nv (x :: r) ≠ 0 := by
      intro h0
      simp only [nv] at h0
      have h1 : x = 0 := by omega
      have h2 : nv r = 0 := by
        rcases Nat.eq_zero_or_pos (nv r) with h | h
        · exact h
        · have := Nat.mul_pos BB_pos h; omega
      rw [h2, dig_zero] at ih
      rw [← ih, h1] at hc
      simp at hc
    rw [dig_pos hne]
    have e1 : nv (x :: r) % BB = x := by simp only [nv]; rw [Nat.add_mul_mod_self_left]; exact Nat.mod_eq_of_lt hx
    have e2 : nv (x :: r) / BB = nv r := by
      simp only [nv]; rw [Nat.add_mul_div_left _ _ BB_pos, Nat.div_eq_of_lt hx, Nat.zero_add]
    rw [e1, e2, ih]
theorem nv_zero_end {l : List Nat} (h : l.getLast? = some 0) : nv l.dropLast = nv l := by
  obtain ⟨ys, rfl⟩ : ∃ ys, l = ys ++ [0] := by
    rcases List.eq_nil_or_concat l with rfl | ⟨ys, y, rfl⟩
    · simp at h
    · simp at h; subst h; exact ⟨ys, by simp⟩
  rw [List.dropLast_concat, nv_append]; simp [nv]
theorem nv_take_zero {l : List Nat} {k : Nat} (hk : k < l.length) (h0 : l.getD k 0 = 0) : nv (l.take (k + 1)) = nv (l.take k) := by
  rw [List.take_succ_eq_append_getElem hk, nv_append]
  rw [List.getD_eq_getElem?_getD, List.getElem?_eq_getElem hk] at h0
  simp at h0
  rw [h0]; simp [nv]
theorem dig_take {l : List Nat} (h : Lim l) {k : Nat} (hk : k ≤ l.length) (hv : nv (l.take k) = nv l) (hc : k = 0 ∨ l.getD (k - 1) 0 ≠ 0) : l.take k = dig (nv l) := by
  rw [← hv]
  refine (dig_of (h.take k) ?_).symm
  rcases hc with rfl | hc
  · left; simp
  · by_cases h0 : k = 0
    · left; subst h0; simp
    · right
      have hlen : (l.take k).length = k := by rw [List.length_take]; omega
      rw [hlen]
      rw [List.getD_eq_getElem?_getD] at hc ⊢
      rw [List.getElem?_take_of_lt (by omega)]; exact hc
theorem dig_length_le {l : List Nat} (h : Lim l) : (dig (nv l)).length ≤ l.length := by
  generalize hn : nv l = n
  induction l generalizing n with
  | nil => subst hn; rw [nv, dig_zero]; simp
  | cons x r ih =>
    by_cases h0 : n = 0
    · subst h0; rw [dig_zero]; simp
    · rw [dig_pos h0]
      have e2 : n / BB = nv r := by
        subst hn; simp only [nv]; rw [Nat.add_mul_div_left _ _ BB_pos, Nat.div_eq_of_lt h.head, Nat.zero_add]
      rw [e2]
      simp only [List.length_cons]
      have := ih h.tail (nv r) rfl
      omega
theorem dig_inj {a b : Nat} (h : dig a = dig b) : a = b := by rw [← nv_dig a, ← nv_dig b, h]
theorem dig_prefix {l : List Nat} (h : Lim l) : l.take (dig (nv l)).length = dig (nv l) := by
  have key : ∀ k, k ≤ l.length → nv (l.take k) = nv l → ∃ j, j ≤ l.length ∧ l.take j = dig (nv l) := by
    intro k
    induction k with
    | zero => intro hk hv; exact ⟨0, hk, dig_take h hk hv (.inl rfl)⟩
    | succ k ih =>
      intro hk hv
      by_cases h0 : l.getD k 0 = 0
      · exact ih (by omega) (by rw [← nv_take_zero (by omega) h0]; exact hv)
      · exact ⟨k + 1, hk, dig_take h hk hv (.inr (by simpa using h0))⟩
  obtain ⟨j, hj, e⟩ := key l.length (Nat.le_refl _) (by rw [List.take_length])
  have hl : (dig (nv l)).length = j := by rw [← e, List.length_take]; omega
  rw [hl, e]

theorem nv_split (l : List Nat) : nv l = l.getD 0 0 + BB * nv l.tail := by
  cases l with
  | nil => simp [nv]
  | cons x r => simp [nv]
theorem getD_tail (l : List Nat) (j : Nat) : l.tail.getD j 0 = l.getD (j + 1) 0 := by
  cases l <;> simp
theorem nv_ext (a : List Nat) : ∀ b : List Nat, (∀ j, a.getD j 0 = b.getD j 0) → nv a = nv b := by
  induction a with
  | nil =>
    intro b h
    induction b with
    | nil => rfl
    | cons x r ih =>
      have h0 := h 0
      have := ih (fun j => by have := h (j + 1); simpa using this)
      simp at h0
      simp [nv, ← this, ← h0]
  | cons x r ih =>
    intro b h
    rw [nv_split b]
    have h0 := h 0
    have := ih b.tail (fun j => by rw [getD_tail, ← h (j + 1)]; simp)
    simp at h0
    simp [nv, this, ← h0]
theorem Lim.tail' {l : List Nat} (h : Lim l) : Lim l.tail := fun x hx => h x (List.mem_of_mem_tail hx)
theorem nv_lt_at (i : Nat) : ∀ {a b : List Nat}, Lim a → Lim b → (∀ j, i < j → a.getD j 0 = b.getD j 0) → a.getD i 0 < b.getD i 0 → nv a < nv b := by
  induction i with
  | zero =>
    intro a b ha hb h hlt
    have := nv_ext a.tail b.tail (fun j => by rw [getD_tail, getD_tail, h (j + 1) (by omega)])
    rw [nv_split a, nv_split b, this]
    omega
  | succ i ih =>
    intro a b ha hb h hlt
    have h1 := ih ha.tail' hb.tail' (fun j hj => by rw [getD_tail, getD_tail, h (j + 1) (by omega)]) (by rw [getD_tail, getD_tail]; exact hlt)
    have h2 := ha.at 0
    rw [nv_split a, nv_split b]
    have : BB * (nv a.tail + 1) ≤ BB * nv b.tail := Nat.mul_le_mul_left _ h1
    rw [Nat.mul_add] at this
    omega
theorem nv_ge {l : List Nat} (hc : l ≠ []) (h : l.getD (l.length - 1) 0 ≠ 0) : BB ^ (l.length - 1) ≤ nv l := by
  induction l with
  | nil => exact absurd rfl hc
  | cons x r ih =>
    cases r with
    | nil => simp [nv] at h ⊢; omega
    | cons y s =>
      have := ih (by simp) (by simpa using h)
      simp only [List.length_cons, Nat.add_sub_cancel] at this ⊢
      rw [nv, Nat.pow_succ, Nat.mul_comm]
      have : BB * BB ^ s.length ≤ BB * nv (y :: s) := Nat.mul_le_mul_left _ this
      omega
theorem dig_top {n : Nat} (h : n ≠ 0) : (dig n).getD ((dig n).length - 1) 0 ≠ 0 := by
  induction n using Nat.strongRecOn with
  | _ n ih =>
    rw [dig_pos h]
    by_cases h2 : n / BB = 0
    · rw [h2, dig_zero]
      simp
      rw [Nat.div_eq_zero_iff] at h2
      have := BB_pos
      rw [Nat.mod_eq_of_lt (by omega)]
      exact h
    · have := ih (n / BB) (Nat.div_lt_self (by omega) (by decide)) h2
      have hl : (dig (n / BB)).length ≠ 0 := by rw [dig_pos h2]; simp
      obtain ⟨m, hm⟩ : ∃ m, (dig (n / BB)).length = m + 1 := ⟨_, (Nat.succ_pred_eq_of_ne_zero hl).symm⟩
      rw [hm] at this
      simp only [List.length_cons, hm, Nat.add_sub_cancel] at this ⊢
      simpa using this
theorem dig_nil_iff {n : Nat} : dig n = [] ↔ n = 0 := by
  constructor
  · intro h; have := nv_dig n; rw [h] at this; simpa [nv] using this.symm
  · rintro rfl; exact dig_zero
theorem dig_len_lt {a b : Nat} (h : (dig a).length < (dig b).length) : a < b := by
  have hb : b ≠ 0 := by rintro rfl; rw [dig_zero] at h; simp at h
  have h1 := nv_lt (dig_lim a)
  rw [nv_dig] at h1
  have h2 := nv_ge (l := dig b) (by intro h; exact hb (dig_nil_iff.1 h)) (dig_top hb)
  rw [nv_dig] at h2
  have : BB ^ (dig a).length ≤ BB ^ ((dig b).length - 1) := Nat.pow_le_pow_right BB_pos (by omega)
  omega
theorem dig_len_le {a b : Nat} (h : a ≤ b) : (dig a).length ≤ (dig b).length := by
  rcases Nat.lt_or_ge (dig b).length (dig a).length with h1 | h1
  · have := dig_len_lt h1; omega
  · exact h1
theorem dig_len_of {n k : Nat} (h : n < BB ^ k) : (dig n).length ≤ k := by
  by_cases hn : n = 0
  · subst hn; rw [dig_zero]; simp
  · have h2 := nv_ge (l := dig n) (by intro h; exact hn (dig_nil_iff.1 h)) (dig_top hn)
    rw [nv_dig] at h2
    rcases Nat.lt_or_ge k (dig n).length with h3 | h3
    · have : BB ^ k ≤ BB ^ ((dig n).length - 1) := Nat.pow_le_pow_right BB_pos (by omega)
      omega
    · exact h3
/-- how two numbers compare -/
def cmpv (a b : Nat) : Int := if a < b then -1 else if b < a then 1 else 0
theorem cmpv_lt {a b : Nat} (h : a < b) : cmpv a b = -1 := by simp [cmpv, h]
theorem cmpv_gt {a b : Nat} (h : b < a) : cmpv a b = 1 := by simp [cmpv, h]; omega
theorem cmpv_eq {a b : Nat} (h : a = b) : cmpv a b = 0 := by simp [cmpv, h]
theorem getD_over {l : List Nat} {j : Nat} (h : l.length ≤ j) : l.getD j 0 = 0 := by
  simp [List.getD_eq_getElem?_getD, List.getElem?_eq_none h]
theorem list_ext_getD {a b : List Nat} (hl : a.length = b.length) (h : ∀ j, j < a.length → a.getD j 0 = b.getD j 0) : a = b := by
  apply List.ext_getElem hl
  intro i h1 h2
  have := h i h1
  simpa [List.getD_eq_getElem?_getD, h1, h2] using this
end Go.Proofs.YtnalmjbgkedcoaaDoor
