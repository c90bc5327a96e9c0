/- Plain mathematics of turns: which workers have made a step since. -/
import Derived.Test.YtigokfcoofbdlaaS19
namespace Go.Proofs.Ytigokfcoofbdlaa
open Go.RowKit
set_option linter.unusedVariables false

/-- what the order has made so far stays at its beginning -/
theorem ord_pre {S : List Nat} {most : Int} (f : Nat) : ∀ {L : List Nat} {x : Int} {out : List Nat}, ∃ t, (ord S most f L x out).1 = out ++ t := by
  induction f with
  | zero => intro L x out; exact ⟨[], by simp [ord]⟩
  | succ f ih =>
    intro L x out
    by_cases h : unf L = []
    · exact ⟨[], by rw [ord_done h]; simp⟩
    · by_cases h2 : (out.length : Int) = most
      · exact ⟨[], by rw [ord_limit h h2]; simp⟩
      · rw [ord_step h h2]
        obtain ⟨t, e⟩ := ih (L := dec L (pick S L x out)) (x := (pick S L x out : Nat)) (out := out ++ [pick S L x out])
        exact ⟨_, by rw [e, List.append_assoc]⟩
/-- with room for all steps every step is made -/
theorem ord_full {S : List Nat} (s : Nat) : ∀ {L : List Nat} {x : Int} {out : List Nat} {most : Int}, L.sum = s → ((out.length + s : Nat) : Int) = most → (ord S most s L x out).2 = 0 ∧ (ord S most s L x out).1.length = out.length + s := by
  induction s with
  | zero => intro L x out most _ _; simp [ord]
  | succ s ih =>
    intro L x out most hs hm
    by_cases h : unf L = []
    · exfalso
      have : ∀ i, L.getD i 0 = 0 := fun i => by
        rcases Nat.eq_zero_or_pos (L.getD i 0) with h0 | h0
        · exact h0
        · have hi : i < L.length := by
            rcases Nat.lt_or_ge i L.length with hl | hl
            · exact hl
            · rw [List.getD_eq_getElem?_getD, List.getElem?_eq_none hl] at h0; simp at h0
          have := mem_unf.2 ⟨hi, h0⟩
          rw [h] at this; cases this
      have hz : ∀ (L : List Nat), (∀ i, L.getD i 0 = 0) → L.sum = 0 := fun L => by
        induction L with
        | nil => intro _; rfl
        | cons y L ihl =>
          intro hh
          have h1 := hh 0
          have h2 := ihl (fun i => by have := hh (i + 1); simpa using this)
          simp at h1
          rw [List.sum_cons]; omega
      have := hz L this
      omega
    · rw [ord_step h (by omega)]
      obtain ⟨h1, h2⟩ := mem_unf.1 (pick_mem (S := S) (x := x) (out := out) h)
      have hd := sum_dec h1 h2
      have := ih (L := dec L (pick S L x out)) (x := (pick S L x out : Nat)) (out := out ++ [pick S L x out]) (most := most) (by omega) (by rw [List.length_append]; simp; omega)
      rw [List.length_append] at this
      exact ⟨this.1, by rw [this.2]; simp; omega⟩
theorem aft_first {U : List Nat} (hs : U.Pairwise (· < ·)) {x : Int} {p : Nat} (hp : aft U x = p) (hne : U ≠ []) :
    (x < (p : Int) → ∀ o ∈ U, x < (o : Int) → p ≤ o) ∧ ((p : Int) ≤ x → ∀ o ∈ U, (o : Int) ≤ x ∧ p ≤ o) := by
  unfold aft at hp
  cases hf : U.find? (fun y : Nat => decide (x < (y : Int))) with
  | some y =>
    rw [hf, Option.getD_some] at hp
    subst hp
    obtain ⟨hy, A, B, e, hA⟩ := List.find?_eq_some_iff_append.1 hf
    have hy' : x < (y : Int) := by simpa using hy
    refine ⟨fun _ o ho hx => ?_, fun h => by omega⟩
    rw [e] at ho hs
    obtain ⟨_, h2⟩ := sorted_split hs
    rcases List.mem_append.1 ho with h | h
    · have := hA o h; simp at this; omega
    · rcases List.mem_cons.1 h with h | h
      · omega
      · have := h2 o h; omega
  | none =>
    rw [hf, Option.getD_none] at hp
    have hall := List.find?_eq_none.1 hf
    have hle : ∀ o ∈ U, (o : Int) ≤ x := fun o ho => by have := hall o ho; simp at this; omega
    cases U with
    | nil => exact absurd rfl hne
    | cons a U =>
      have hpa : a = p := hp
      subst hpa
      rw [List.pairwise_cons] at hs
      refine ⟨fun h o ho hx => by have := hle o ho; omega, fun _ o ho => ⟨hle o ho, ?_⟩⟩
      rcases List.mem_cons.1 ho with h | h
      · omega
      · have := hs.1 o h; omega
/-- o lies behind a, at most at x, in turns -/
def cyc (a : Nat) (x : Int) (o : Nat) : Prop := ((a : Int) ≤ x ∧ a < o ∧ (o : Int) ≤ x) ∨ (x < (a : Int) ∧ (a < o ∨ (o : Int) ≤ x))
theorem cyc_self {p o : Nat} : ¬ cyc p (p : Nat) o := by unfold cyc; omega
theorem cyc_all {U : List Nat} (hs : U.Pairwise (· < ·)) {x : Int} {p : Nat} (hp : aft U x = p) {o : Nat} (ho : o ∈ U) (hne : o ≠ p) : cyc p x o := by
  obtain ⟨h1, h2⟩ := aft_first hs hp (by intro e; rw [e] at ho; cases ho)
  unfold cyc
  rcases Int.lt_or_le x (p : Int) with h | h
  · have := h1 h o ho; omega
  · have := h2 h o ho; omega
theorem cyc_step {U : List Nat} (hs : U.Pairwise (· < ·)) {x : Int} {p : Nat} (hp : aft U x = p) {a o : Nat} (ho : o ∈ U) (hne : o ≠ p) (hc : cyc a (p : Nat) o) : cyc a x o := by
  obtain ⟨h1, h2⟩ := aft_first hs hp (by intro e; rw [e] at ho; cases ho)
  unfold cyc at hc ⊢
  rcases Int.lt_or_le x (p : Int) with h | h
  · have := h1 h o ho; omega
  · have := h2 h o ho; omega

end Go.Proofs.Ytigokfcoofbdlaa
