/- Plain mathematics of layer 41: the order of the steps. -/
import Derived.Below
namespace Go.Proofs.Ytigokfcoofbdlaa
set_option linter.unusedVariables false
/-- the numbers of the workers that have steps left -/
def unf (L : List Nat) : List Nat := (List.range L.length).filter fun i => decide (0 < L.getD i 0)
/-- the first number of a list that is greater than x, or its first one -/
def aft (U : List Nat) (x : Int) : Nat := (U.find? fun y : Nat => decide (x < (y : Int))).getD (U.headD 0)
/-- whose turn it is -/
def pick (S : List Nat) (L : List Nat) (x : Int) (out : List Nat) : Nat :=
  if out.length < S.length then (unf L).getD (S.getD out.length 0 % (unf L).length) 0 else aft (unf L) x
/-- a step of worker i -/
def dec (L : List Nat) (i : Nat) : List Nat := L.set i (L.getD i 0 - 1)
/-- the order of the steps, and the error -/
def ord (S : List Nat) (most : Int) : Nat → List Nat → Int → List Nat → List Nat × Int
  | 0, _, _, out => (out, 0)
  | f + 1, L, x, out =>
    if unf L = [] then (out, 0) else if (out.length : Int) = most then (out, 8) else
      ord S most f (dec L (pick S L x out)) (pick S L x out) (out ++ [pick S L x out])
theorem mem_unf {L : List Nat} {i : Nat} : i ∈ unf L ↔ i < L.length ∧ 0 < L.getD i 0 := by
  simp [unf]
theorem unf_sorted (L : List Nat) : (unf L).Pairwise (· < ·) := by
  unfold unf
  exact List.Pairwise.filter _ (List.pairwise_lt_range)
theorem unf_len (L : List Nat) : (unf L).length ≤ L.length := by
  unfold unf
  exact Nat.le_trans (List.length_filter_le _ _) (by simp)
theorem dec_len (L : List Nat) (i : Nat) : (dec L i).length = L.length := by simp [dec]
theorem dec_at {L : List Nat} {i j : Nat} (h : i < L.length) : (dec L i).getD j 0 = if j = i then L.getD i 0 - 1 else L.getD j 0 := by
  unfold dec
  by_cases e : j = i
  · subst e; simp [h]
  · rw [if_neg e]; simp [Ne.symm e]
theorem unf_more {L : List Nat} {i : Nat} (h : i < L.length) (h2 : 1 < L.getD i 0) : unf (dec L i) = unf L := by
  unfold unf
  rw [dec_len]
  apply List.filter_congr
  intro j _
  rw [dec_at h]
  by_cases e : j = i
  · subst e; rw [if_pos rfl]; simp only [decide_eq_decide]; omega
  · rw [if_neg e]
theorem unf_last {L : List Nat} {i : Nat} (h : i < L.length) (h2 : L.getD i 0 = 1) : unf (dec L i) = (unf L).filter fun j => decide (j ≠ i) := by
  unfold unf
  rw [dec_len, List.filter_filter]
  apply List.filter_congr
  intro j _
  rw [dec_at h]
  by_cases e : j = i
  · subst e; rw [if_pos rfl, h2]; simp
  · rw [if_neg e]; simp [e]
theorem split_at {α : Type} {U : List α} {n : Nat} (h : n < U.length) : U = U.take n ++ U[n] :: U.drop (n + 1) := by
  rw [List.getElem_cons_drop]; simp
theorem sorted_split {A B : List Nat} {x : Nat} (h : (A ++ x :: B).Pairwise (· < ·)) : (∀ a ∈ A, a < x) ∧ (∀ b ∈ B, x < b) := by
  rw [List.pairwise_append] at h
  obtain ⟨_, h2, h3⟩ := h
  rw [List.pairwise_cons] at h2
  exact ⟨fun a ha => h3 a ha x (by simp), fun b hb => h2.1 b hb⟩
theorem filter_split {A B : List Nat} {x : Nat} (h : (A ++ x :: B).Pairwise (· < ·)) : ((A ++ x :: B).filter fun j => decide (j ≠ x)) = A ++ B := by
  obtain ⟨h1, h2⟩ := sorted_split h
  rw [List.filter_append, List.filter_cons_of_neg (by simp)]
  rw [List.filter_eq_self.2 (fun a ha => by have := h1 a ha; simp; omega), List.filter_eq_self.2 (fun b hb => by have := h2 b hb; simp; omega)]
theorem find_split {A B : List Nat} {x : Int} (h1 : ∀ a ∈ A, (a : Int) ≤ x) (h2 : ∀ b ∈ B, x < (b : Int)) : (A ++ B).find? (fun y : Nat => decide (x < (y : Int))) = B.head? := by
  rw [List.find?_append, List.find?_eq_none.2 (fun a ha => by have := h1 a ha; simp; omega)]
  cases B with
  | nil => simp
  | cons b B => have := h2 b (by simp); simp [this]
/-- whose turn it is behind a step of the worker at place n, who is not finished -/
theorem aft_next {U : List Nat} (hs : U.Pairwise (· < ·)) {n : Nat} (h : n < U.length) : aft U (U.getD n 0 : Nat) = U.getD (if n + 1 < U.length then n + 1 else 0) 0 := by
  have e := split_at h
  have hg : U.getD n 0 = U[n] := by simp [h]
  rw [hg]
  generalize hx : U[n] = x at *
  rw [e] at hs
  obtain ⟨h1, h2⟩ := sorted_split hs
  have hf : U.find? (fun y : Nat => decide ((x : Int) < (y : Int))) = (U.drop (n + 1)).head? := by
    rw [show U = (U.take n ++ [x]) ++ U.drop (n + 1) by rw [List.append_assoc]; exact e]
    rw [show (List.take n U ++ [x] ++ List.drop (n + 1) U).drop (n + 1) = U.drop (n + 1) by rw [List.append_assoc]; simp only [List.singleton_append]; rw [← e]]
    refine find_split (fun a ha => ?_) (fun b hb => by have := h2 b hb; omega)
    simp only [List.mem_append, List.mem_singleton] at ha
    rcases ha with ha | ha
    · have := h1 a ha; omega
    · omega
  unfold aft
  rw [hf]
  by_cases hl : n + 1 < U.length
  · rw [if_pos hl]; simp [hl, List.head?_drop]
  · rw [if_neg hl, List.drop_of_length_le (by omega)]
    simp only [List.head?_nil, Option.getD_none]
    cases U <;> simp
/-- whose turn it is behind the last step of the worker at place n -/
theorem aft_gone {U : List Nat} (hs : U.Pairwise (· < ·)) {n : Nat} (h : n < U.length) : aft (U.take n ++ U.drop (n + 1)) (U.getD n 0 : Nat) = (U.take n ++ U.drop (n + 1)).getD (if n < U.length - 1 then n else 0) 0 := by
  have e := split_at h
  have hg : U.getD n 0 = U[n] := by simp [h]
  rw [hg]
  generalize hx : U[n] = x at *
  rw [e] at hs
  obtain ⟨h1, h2⟩ := sorted_split hs
  have hf := find_split (A := U.take n) (B := U.drop (n + 1)) (x := (x : Int)) (fun a ha => by have := h1 a ha; omega) (fun b hb => by have := h2 b hb; omega)
  have ht : (U.take n).length = n := by simp; omega
  unfold aft
  rw [hf]
  by_cases hl : n < U.length - 1
  · rw [if_pos hl]
    rw [List.getD_eq_getElem?_getD, List.getElem?_append_right (by omega), ht]
    simp [List.head?_drop, show n + 1 < U.length by omega]
  · rw [if_neg hl, List.drop_of_length_le (by omega)]
    simp only [List.head?_nil, Option.getD_none, List.append_nil]
    cases U.take n <;> simp
theorem sum_dec {L : List Nat} {i : Nat} (h : i < L.length) (h2 : 0 < L.getD i 0) : (dec L i).sum + 1 = L.sum := by
  unfold dec
  induction L generalizing i with
  | nil => simp at h
  | cons x L ih =>
    cases i with
    | zero => simp at h2 ⊢; omega
    | succ i =>
      simp only [List.getD_cons_succ] at h2 ⊢
      simp only [List.set_cons_succ, List.sum_cons]
      have := ih (by simpa using h) h2
      omega
theorem pick_mem {S L : List Nat} {x : Int} {out : List Nat} (h : unf L ≠ []) : pick S L x out ∈ unf L := by
  have hl : 0 < (unf L).length := List.length_pos_iff.2 h
  unfold pick
  split
  · have := Nat.mod_lt (S.getD out.length 0) hl
    rw [List.getD_eq_getElem?_getD, List.getElem?_eq_getElem this]; simp
  · unfold aft
    cases hf : (unf L).find? (fun y : Nat => decide (x < (y : Int))) with
    | none => simp only [Option.getD_none]; cases hu : unf L with
      | nil => exact absurd hu h
      | cons a b => simp
    | some y => simp only [Option.getD_some]; exact List.mem_of_find?_eq_some hf
theorem ord_done {S : List Nat} {most : Int} {f : Nat} {L : List Nat} {x : Int} {out : List Nat} (h : unf L = []) : ord S most f L x out = (out, 0) := by
  cases f <;> simp [ord, h]
theorem ord_limit {S : List Nat} {most : Int} {f : Nat} {L : List Nat} {x : Int} {out : List Nat} (h : unf L ≠ []) (h2 : (out.length : Int) = most) : ord S most (f + 1) L x out = (out, 8) := by
  simp [ord, h, h2]
theorem ord_step {S : List Nat} {most : Int} {f : Nat} {L : List Nat} {x : Int} {out : List Nat} (h : unf L ≠ []) (h2 : (out.length : Int) ≠ most) : ord S most (f + 1) L x out = ord S most f (dec L (pick S L x out)) (pick S L x out) (out ++ [pick S L x out]) := by
  rw [ord, if_neg h, if_neg h2]
theorem sum_pos {L : List Nat} (h : unf L ≠ []) : 0 < L.sum := by
  obtain ⟨i, hi⟩ := List.exists_mem_of_ne_nil _ h
  obtain ⟨h1, h2⟩ := mem_unf.1 hi
  have := sum_dec h1 h2
  omega
theorem ord_len {S : List Nat} {most : Int} (f : Nat) : ∀ {L : List Nat} {x : Int} {out : List Nat}, (ord S most f L x out).1.length ≤ out.length + L.sum := by
  induction f with
  | zero => intro L x out; simp [ord]
  | succ f ih =>
    intro L x out
    by_cases h : unf L = []
    · rw [ord_done h]; simp
    · by_cases h2 : (out.length : Int) = most
      · rw [ord_limit h h2]; simp
      · rw [ord_step h h2]
        refine Nat.le_trans ih ?_
        obtain ⟨h3, h4⟩ := mem_unf.1 (pick_mem (S := S) (x := x) (out := out) h)
        have := sum_dec h3 h4
        simp; omega

end Go.Proofs.Ytigokfcoofbdlaa
