/- Plain mathematics: a script for every order. -/
import Derived.Test.YtigokfcoofbdlaaS19
namespace Go.Proofs.Ytigokfcoofbdlaa
open Go.RowKit
set_option linter.unusedVariables false

def cnts (ws : List Nat) : List Nat := (List.range 4).map fun j => ws.count j
def nums (c : List Nat) : List Nat := c.filter fun x => decide (0 < x)
def plc (c : List Nat) (j : Nat) : Nat := (nums (c.take j)).length
theorem cnts_len (ws : List Nat) : (cnts ws).length = 4 := by simp [cnts]
theorem cnts_at {ws : List Nat} {j : Nat} (h : j < 4) : (cnts ws).getD j 0 = ws.count j := by simp [cnts, h]
theorem cnts_snoc {ws : List Nat} {x : Nat} (hx : x < 4) : cnts (ws ++ [x]) = (cnts ws).set x (ws.count x + 1) := by
  apply List.ext_getElem (by simp [cnts])
  intro i h1 h2
  have hi : i < 4 := by simpa [cnts] using h1
  rw [List.getElem_set]
  simp only [cnts, List.getElem_map, List.getElem_range, List.count_append]
  by_cases e : x = i
  · subst e; simp
  · rw [if_neg e]; simp [e]
theorem take_snoc_getD {l : List Nat} {k : Nat} (h : k < l.length) : l.take (k + 1) = l.take k ++ [l.getD k 0] := by
  rw [List.take_succ_eq_append_getElem h]; simp [h]
theorem cnts_sum (ws : List Nat) (h : ∀ x ∈ ws, x < 4) : (cnts ws).sum = ws.length := by
  induction ws with
  | nil => rfl
  | cons x ws ih =>
    have hx := h x (by simp)
    have := ih (fun y hy => h y (by simp [hy]))
    rw [List.length_cons, ← this]
    have e4 : ∀ l : List Nat, (cnts l).sum = l.count 0 + l.count 1 + l.count 2 + l.count 3 := fun l => by
      simp [cnts, List.range_succ]
      omega
    rw [e4, e4]
    simp only [List.count_cons]
    match x, hx with
    | 0, _ | 1, _ | 2, _ | 3, _ => simp; omega
theorem nums_snoc {c : List Nat} {j : Nat} (h : j < c.length) : nums (c.take (j + 1)) = if 0 < c.getD j 0 then nums (c.take j) ++ [c.getD j 0] else nums (c.take j) := by
  rw [take_snoc_getD h]
  unfold nums
  rw [List.filter_append]
  by_cases hp : 0 < c.getD j 0
  · rw [if_pos hp, List.filter_cons_of_pos (by simpa using hp)]; rfl
  · rw [if_neg hp, List.filter_cons_of_neg (by simpa using hp)]; simp
theorem nums_split {c : List Nat} {j : Nat} (h : j < c.length) (hp : 0 < c.getD j 0) : nums c = nums (c.take j) ++ c.getD j 0 :: nums (c.drop (j + 1)) := by
  conv => lhs; rw [← List.take_append_drop (j + 1) c]
  have := nums_snoc h
  rw [if_pos hp] at this
  unfold nums at this ⊢
  rw [List.filter_append, this, List.append_assoc]; rfl
theorem nums_at {c : List Nat} {j : Nat} (h : j < c.length) (hp : 0 < c.getD j 0) : plc c j < (nums c).length ∧ (nums c).getD (plc c j) 0 = c.getD j 0 := by
  rw [nums_split h hp]
  unfold plc
  refine ⟨by simp, ?_⟩
  rw [List.getD_eq_getElem?_getD, List.getElem?_append_right (Nat.le_refl _), Nat.sub_self]; rfl
theorem plc_lt {c : List Nat} {j j' : Nat} (h : j < j') (h2 : j' ≤ c.length) (hp : 0 < c.getD j 0) : plc c j < plc c j' := by
  unfold plc
  have hm : nums (c.take (j + 1)) <+: nums (c.take j') := by
    unfold nums
    apply List.IsPrefix.filter
    exact List.take_prefix_take_left (by omega)
  have := hm.length_le
  rw [nums_snoc (by omega), if_pos hp] at this
  simp at this
  omega
theorem nums_sum (c : List Nat) : (nums c).sum = c.sum := by
  induction c with
  | nil => rfl
  | cons x c ih =>
    unfold nums at ih ⊢
    by_cases hx : 0 < x
    · rw [List.filter_cons_of_pos (by simpa using hx), List.sum_cons, List.sum_cons, ih]
    · rw [List.filter_cons_of_neg (by simpa using hx), List.sum_cons, ih]; omega
theorem nums_pos {c : List Nat} {i : Nat} (h : i < (nums c).length) : 0 < (nums c).getD i 0 := by
  have : (nums c).getD i 0 ∈ nums c := by rw [List.getD_eq_getElem?_getD, List.getElem?_eq_getElem h]; exact List.getElem_mem h
  have := (List.mem_filter.1 this).2
  simpa using this
/-- how many of a list lie below q -/
def bel (U : List Nat) (q : Nat) : Nat := (U.filter fun u => decide (u < q)).length
theorem bel_at {U : List Nat} (hs : U.Pairwise (· < ·)) {q : Nat} (h : q ∈ U) : bel U q < U.length ∧ U.getD (bel U q) 0 = q := by
  obtain ⟨A, B, rfl⟩ := List.append_of_mem h
  obtain ⟨h1, h2⟩ := sorted_split hs
  have e : ((A ++ q :: B).filter fun u => decide (u < q)) = A := by
    rw [List.filter_append, List.filter_cons_of_neg (by simp), List.filter_eq_self.2 (fun a ha => by simpa using h1 a ha), List.filter_eq_nil_iff.2 (fun b hb => by have := h2 b hb; simp; omega)]
    simp
  unfold bel
  rw [e]
  refine ⟨by simp, ?_⟩
  rw [List.getD_eq_getElem?_getD, List.getElem?_append_right (Nat.le_refl _), Nat.sub_self]; rfl
theorem bel_snoc {U : List Nat} {q t : Nat} (h : t < U.length) : bel (U.take (t + 1)) q = bel (U.take t) q + if U.getD t 0 < q then 1 else 0 := by
  rw [take_snoc_getD h]
  unfold bel
  rw [List.filter_append, List.length_append]
  by_cases hq : U.getD t 0 < q
  · rw [if_pos hq, List.filter_cons_of_pos (by simpa using hq)]; simp
  · rw [if_neg hq, List.filter_cons_of_neg (by simpa using hq)]; simp
/-- the workers' numbers in the order asked for -/
def qsl (ws : List Nat) : List Nat := ws.map (plc (cnts ws))
/-- the counts that are left ahead of step k -/
def seqL (ws : List Nat) : Nat → List Nat
  | 0 => nums (cnts ws)
  | k + 1 => dec (seqL ws k) ((qsl ws).getD k 0)
def atk (ws : List Nat) (k : Nat) : Nat := bel (unf (seqL ws k)) ((qsl ws).getD k 0)
theorem qsl_at {ws : List Nat} {k : Nat} (h : k < ws.length) : (qsl ws).getD k 0 = plc (cnts ws) (ws.getD k 0) := by
  simp [qsl, h]
theorem seq_inv (ws : List Nat) (h4 : ∀ x ∈ ws, x < 4) : ∀ k, k ≤ ws.length → (seqL ws k).length = (nums (cnts ws)).length ∧ (seqL ws k).sum + k = ws.length ∧ ∀ j, j < 4 → 0 < ws.count j → (seqL ws k).getD (plc (cnts ws) j) 0 = (ws.drop k).count j
  | 0, _ => by
    refine ⟨rfl, by show (nums (cnts ws)).sum + 0 = _; rw [nums_sum, cnts_sum ws h4]; rfl, fun j hj hp => ?_⟩
    have := (nums_at (c := cnts ws) (j := j) (by rw [cnts_len]; exact hj) (by rw [cnts_at hj]; exact hp)).2
    rw [cnts_at hj] at this
    exact this
  | k + 1, hk => by
    obtain ⟨h1, h2, h3⟩ := seq_inv ws h4 k (by omega)
    have hkl : k < ws.length := by omega
    have hm : ws.getD k 0 ∈ ws := by rw [List.getD_eq_getElem?_getD, List.getElem?_eq_getElem hkl]; exact List.getElem_mem hkl
    have hj4 := h4 _ hm
    have hpos : 0 < ws.count (ws.getD k 0) := List.count_pos_iff.2 hm
    have hd : ws.drop k = ws.getD k 0 :: ws.drop (k + 1) := by rw [List.drop_eq_getElem_cons hkl]; simp [hkl]
    have hq := h3 _ hj4 hpos
    rw [hd, List.count_cons_self] at hq
    have hlen := (nums_at (c := cnts ws) (j := ws.getD k 0) (by rw [cnts_len]; exact hj4) (by rw [cnts_at hj4]; exact hpos)).1
    have hs := sum_dec (L := seqL ws k) (i := plc (cnts ws) (ws.getD k 0)) (by rw [h1]; exact hlen) (by omega)
    show (dec (seqL ws k) ((qsl ws).getD k 0)).length = _ ∧ _
    rw [qsl_at hkl]
    refine ⟨by rw [dec_len]; exact h1, ?_, fun j hj hp => ?_⟩
    · show (dec (seqL ws k) ((qsl ws).getD k 0)).sum + (k + 1) = _
      rw [qsl_at hkl]; omega
    · show (dec (seqL ws k) ((qsl ws).getD k 0)).getD _ 0 = _
      rw [qsl_at hkl, dec_at (by rw [h1]; exact hlen)]
      have h3j := h3 j hj hp
      rw [hd, List.count_cons] at h3j
      by_cases e : j = ws.getD k 0
      · subst e; rw [if_pos rfl, hq]; rfl
      · have hne : plc (cnts ws) j ≠ plc (cnts ws) (ws.getD k 0) := by
          rcases Nat.lt_or_gt_of_ne e with h | h
          · have := plc_lt (c := cnts ws) h (by rw [cnts_len]; omega) (by rw [cnts_at hj]; exact hp); omega
          · have := plc_lt (c := cnts ws) h (by rw [cnts_len]; omega) (by rw [cnts_at hj4]; exact hpos); omega
        rw [if_neg hne, h3j]
        have : (ws.getD k 0 == j) = false := by rw [beq_eq_false_iff_ne]; exact Ne.symm e
        rw [this]; simp
theorem seq_mem (ws : List Nat) (h4 : ∀ x ∈ ws, x < 4) {k : Nat} (hk : k < ws.length) : (qsl ws).getD k 0 ∈ unf (seqL ws k) := by
  obtain ⟨h1, _, h3⟩ := seq_inv ws h4 k (by omega)
  have hm : ws.getD k 0 ∈ ws := by rw [List.getD_eq_getElem?_getD, List.getElem?_eq_getElem hk]; exact List.getElem_mem hk
  have hj4 := h4 _ hm
  have hpos : 0 < ws.count (ws.getD k 0) := List.count_pos_iff.2 hm
  have hlen := (nums_at (c := cnts ws) (j := ws.getD k 0) (by rw [cnts_len]; exact hj4) (by rw [cnts_at hj4]; exact hpos)).1
  rw [qsl_at hk]
  refine mem_unf.2 ⟨by rw [h1]; exact hlen, ?_⟩
  rw [h3 _ hj4 hpos, List.drop_eq_getElem_cons hk]
  have : ws[k] = ws.getD k 0 := by simp [hk]
  rw [this, List.count_cons_self]; omega
theorem every_ord (ws : List Nat) (h4 : ∀ x ∈ ws, x < 4) : ∀ (d k : Nat), k + d = ws.length → ∀ x, ord ((List.range ws.length).map (atk ws)) (ws.length : Nat) d (seqL ws k) x ((qsl ws).take k) = (qsl ws, 0)
  | 0, k, hk, x => by
    rw [show ((qsl ws).take k) = qsl ws from List.take_of_length_le (by simp [qsl]; omega)]; rfl
  | d + 1, k, hk, x => by
    have hkl : k < ws.length := by omega
    have hm := seq_mem ws h4 hkl
    have hb := bel_at (unf_sorted _) hm
    have htl : ((qsl ws).take k).length = k := by simp [qsl]; omega
    rw [ord_step (by intro e; rw [e] at hm; cases hm) (by rw [htl]; omega)]
    have hp : pick ((List.range ws.length).map (atk ws)) (seqL ws k) x ((qsl ws).take k) = (qsl ws).getD k 0 := by
      unfold pick
      rw [if_pos (by rw [htl]; simpa using hkl), htl]
      have : ((List.range ws.length).map (atk ws)).getD k 0 = atk ws k := by simp [hkl]
      rw [this]
      unfold atk
      rw [Nat.mod_eq_of_lt hb.1]
      exact hb.2
    rw [hp, ← take_snoc_getD (by simp [qsl]; omega)]
    exact every_ord ws h4 d (k + 1) (by omega) _
theorem atk_lt (ws : List Nat) (h4 : ∀ x ∈ ws, x < 4) {k : Nat} (hk : k < ws.length) : atk ws k < 4 := by
  have hb := (bel_at (unf_sorted _) (seq_mem ws h4 hk)).1
  have h1 := (seq_inv ws h4 k (by omega)).1
  have h2 := unf_len (seqL ws k)
  have h3 : (nums (cnts ws)).length ≤ 4 := by have := List.length_filter_le (fun x => decide (0 < x)) (cnts ws); rw [cnts_len] at this; exact this
  unfold atk
  omega

end Go.Proofs.Ytigokfcoofbdlaa
