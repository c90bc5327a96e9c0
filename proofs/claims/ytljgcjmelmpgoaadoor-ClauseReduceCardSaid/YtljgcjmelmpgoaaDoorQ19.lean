/- Clauses of literals: the mathematics of Make. -/
import Derived.Test.YtljgcjmelmpgoaaDoorQ15
namespace Go.Proofs.YtljgcjmelmpgoaaDoor
open Go.RowKit
set_option linter.unusedVariables false
theorem vldFrom_iff : ∀ {L : List Lt} {l : Int}, vldFrom l L = true ↔ (List.Pairwise (fun a b : Lt => a.1 < b.1) L ∧ ∀ x ∈ L, l < x.1 ∧ x.1 < 1024)
  | [], l => by simp [vldFrom]
  | (u, o) :: r, l => by
    have ih := vldFrom_iff (L := r) (l := u)
    simp only [vldFrom, Bool.and_eq_true, decide_eq_true_eq, ih, List.pairwise_cons, List.mem_cons, forall_eq_or_imp]
    constructor
    · rintro ⟨⟨h1, h2⟩, h3, h4⟩
      exact ⟨⟨fun a ha => (h4 a ha).1, h3⟩, ⟨h1, h2⟩, fun x hx => ⟨by have := (h4 x hx).1; omega, (h4 x hx).2⟩⟩
    · rintro ⟨⟨h1, h3⟩, ⟨h4, h5⟩, h6⟩
      exact ⟨⟨h4, h5⟩, h3, fun x hx => ⟨h1 x hx, (h6 x hx).2⟩⟩
theorem vld_iff {L : List Lt} : vld L = true ↔ (List.Pairwise (fun a b : Lt => a.1 < b.1) L ∧ ∀ x ∈ L, 0 ≤ x.1 ∧ x.1 < 1024) := by
  unfold vld
  rw [vldFrom_iff]
  constructor
  · rintro ⟨h1, h2⟩
    exact ⟨h1, fun x hx => ⟨by have := (h2 x hx).1; omega, (h2 x hx).2⟩⟩
  · rintro ⟨h1, h2⟩
    exact ⟨h1, fun x hx => ⟨by have := (h2 x hx).1; omega, (h2 x hx).2⟩⟩
/-- two ascending lists with the same members are one -/
theorem asc_ext : ∀ {A B : List Lt}, List.Pairwise (fun a b : Lt => a.1 < b.1) A → List.Pairwise (fun a b : Lt => a.1 < b.1) B → (∀ x, x ∈ A ↔ x ∈ B) → A = B
  | [], [], _, _, _ => rfl
  | [], y :: B, _, _, h => by have := (h y).2 (by simp); cases this
  | x :: A, [], _, _, h => by have := (h x).1 (by simp); cases this
  | x :: A, y :: B, hA, hB, h => by
    rw [List.pairwise_cons] at hA hB
    have hxy : x = y := by
      rcases List.mem_cons.1 ((h x).1 (by simp)) with e | e
      · exact e
      · rcases List.mem_cons.1 ((h y).2 (by simp)) with e2 | e2
        · exact e2.symm
        · have h1 := hB.1 x e
          have h2 := hA.1 y e2
          omega
    subst hxy
    have : A = B := asc_ext hA.2 hB.2 (fun z => by
      constructor
      · intro hz
        rcases List.mem_cons.1 ((h z).1 (by simp [hz])) with e | e
        · have := hA.1 z hz; subst e; omega
        · exact e
      · intro hz
        rcases List.mem_cons.1 ((h z).2 (by simp [hz])) with e | e
        · have := hB.1 z hz; subst e; omega
        · exact e)
    rw [this]
theorem mem_ins1 {x z : Lt} : ∀ {L : List Lt}, z ∈ ins1 L x ↔ z = x ∨ z ∈ L
  | [] => by simp [ins1]
  | y :: r => by
    unfold ins1
    split
    · simp
    · have ih := mem_ins1 (x := x) (z := z) (L := r)
      simp only [List.mem_cons, ih]
      constructor
      · rintro (h | h | h) <;> simp [h]
      · rintro (h | h | h) <;> simp [h]
theorem mem_ins {x z : Lt} {L : List Lt} : z ∈ ins L x ↔ z = x ∨ z ∈ L := by
  unfold ins
  split
  · rename_i h
    constructor
    · exact Or.inr
    · rintro (rfl | h2)
      · exact h
      · exact h2
  · exact mem_ins1
theorem mem_foldl_ins {z : Lt} : ∀ {L M : List Lt}, z ∈ L.foldl ins M ↔ z ∈ M ∨ z ∈ L
  | [], M => by simp
  | x :: L, M => by
    show z ∈ L.foldl ins (ins M x) ↔ _
    rw [mem_foldl_ins (L := L), mem_ins, List.mem_cons]
    constructor
    · rintro ((h | h) | h) <;> simp [h]
    · rintro (h | h | h) <;> simp [h]
theorem mem_made {z : Lt} {L : List Lt} : z ∈ made L ↔ z ∈ L := by
  unfold made; rw [mem_foldl_ins]; simp
theorem ins1_asc {x : Lt} : ∀ {L : List Lt}, List.Pairwise (fun a b : Lt => a.1 < b.1) L → (∀ y ∈ L, y.1 ≠ x.1) → List.Pairwise (fun a b : Lt => a.1 < b.1) (ins1 L x)
  | [], _, _ => by simp [ins1]
  | y :: r, h, hn => by
    rw [List.pairwise_cons] at h
    have hy := hn y (by simp)
    unfold ins1
    split
    · rename_i hlt
      rw [List.pairwise_cons]
      refine ⟨fun z hz => ?_, List.pairwise_cons.2 h⟩
      rcases List.mem_cons.1 hz with rfl | hz
      · exact hlt
      · have := h.1 z hz; omega
    · rename_i hlt
      rw [List.pairwise_cons]
      refine ⟨fun z hz => ?_, ins1_asc h.2 (fun z hz => hn z (by simp [hz]))⟩
      rcases mem_ins1.1 hz with rfl | hz
      · omega
      · exact h.1 z hz
theorem foldl_ins_asc : ∀ {L M : List Lt}, List.Pairwise (fun a b : Lt => a.1 < b.1) M → (∀ x y, (x ∈ M ∨ x ∈ L) → (y ∈ M ∨ y ∈ L) → x.1 = y.1 → x = y) → List.Pairwise (fun a b : Lt => a.1 < b.1) (L.foldl ins M)
  | [], M, h, _ => h
  | x :: L, M, h, hq => by
    show List.Pairwise _ (L.foldl ins (ins M x))
    refine foldl_ins_asc ?_ (fun a b ha hb => hq a b ?_ ?_)
    · unfold ins
      split
      · exact h
      · rename_i hm
        exact ins1_asc h (fun y hy e => hm (by rw [← hq y x (.inl hy) (.inr (by simp)) e]; exact hy))
    · rcases ha with ha | ha
      · rcases mem_ins.1 ha with rfl | ha
        · exact .inr (by simp)
        · exact .inl ha
      · exact .inr (by simp [ha])
    · rcases hb with hb | hb
      · rcases mem_ins.1 hb with rfl | hb
        · exact .inr (by simp)
        · exact .inl hb
      · exact .inr (by simp [hb])
/-- neighbours that are equal are one -/
def compact : List Lt → List Lt
  | [] => []
  | [x] => [x]
  | x :: y :: r => if x = y then compact (y :: r) else x :: compact (y :: r)
theorem mem_compact {z : Lt} : ∀ {L : List Lt}, z ∈ compact L ↔ z ∈ L
  | [] => by simp [compact]
  | [x] => by simp [compact]
  | x :: y :: r => by
    have ih := mem_compact (z := z) (L := y :: r)
    unfold compact
    split
    · rename_i h; subst h
      rw [ih]; simp
    · rw [List.mem_cons, ih, List.mem_cons (l := y :: r)]
theorem compact_asc : ∀ {L : List Lt}, List.Pairwise (fun a b : Lt => a.1 ≤ b.1) L → (∀ x ∈ L, ∀ y ∈ L, x.1 = y.1 → x = y) → List.Pairwise (fun a b : Lt => a.1 < b.1) (compact L)
  | [], _, _ => by simp [compact]
  | [x], _, _ => by simp [compact]
  | x :: y :: r, h, hq => by
    rw [List.pairwise_cons] at h
    have ih := compact_asc h.2 (fun a ha b hb => hq a (by simp [ha]) b (by simp [hb]))
    unfold compact
    split
    · exact ih
    · rename_i hne
      rw [List.pairwise_cons]
      refine ⟨fun z hz => ?_, ih⟩
      have hz' := mem_compact.1 hz
      have h1 := h.1 z hz'
      rcases Int.lt_or_eq_of_le h1 with h2 | h2
      · exact h2
      · exfalso
        have e1 := hq x (by simp) z (by simp [List.mem_cons.1 hz']) h2
        have h3 := h.1 y (by simp)
        rcases List.mem_cons.1 hz' with e | e
        · exact hne (e1.trans e)
        · have h4 := (List.pairwise_cons.1 h.2).1 z e
          exact hne (hq x (by simp) y (by simp) (by omega))
theorem asc_inj : ∀ {L : List Lt}, List.Pairwise (fun a b : Lt => a.1 < b.1) L → ∀ x ∈ L, ∀ y ∈ L, x.1 = y.1 → x = y
  | [], _, x, hx, _, _, _ => by cases hx
  | z :: L, h, x, hx, y, hy, e => by
    rw [List.pairwise_cons] at h
    rcases List.mem_cons.1 hx with rfl | hx' <;> rcases List.mem_cons.1 hy with rfl | hy'
    · rfl
    · have := h.1 y hy'; omega
    · have := h.1 x hx'; omega
    · exact asc_inj h.2 x hx' y hy' e
/-- the two clauses of literals are valid together, and then one -/
theorem make_alike {L S : List Lt} (hs : List.Pairwise (fun a b : Lt => a.1 ≤ b.1) S) (hm : ∀ x, x ∈ S ↔ x ∈ L) : vld (compact S) = vld (made L) ∧ (vld (made L) = true → compact S = made L) := by
  have key : vld (made L) = true → compact S = made L := fun h => by
    have h1 := (vld_iff.1 h).1
    have hq := asc_inj h1
    refine asc_ext (compact_asc hs (fun x hx y hy e => hq x (mem_made.2 ((hm x).1 hx)) y (mem_made.2 ((hm y).1 hy)) e)) h1 (fun x => ?_)
    rw [mem_compact, hm, mem_made]
  refine ⟨?_, key⟩
  cases hM : vld (made L) with
  | true => rw [key hM, hM]
  | false =>
    cases hC : vld (compact S) with
    | false => rfl
    | true =>
      have h1 := (vld_iff.1 hC).1
      have hq := asc_inj h1
      have hA : List.Pairwise (fun a b : Lt => a.1 < b.1) (made L) := foldl_ins_asc (M := []) (by simp) (fun x y hx hy e => by
        have hx' : x ∈ L := by rcases hx with h | h; cases h; exact h
        have hy' : y ∈ L := by rcases hy with h | h; cases h; exact h
        exact hq x (mem_compact.2 ((hm x).2 hx')) y (mem_compact.2 ((hm y).2 hy')) e)
      have he := asc_ext hA h1 (fun x => by rw [mem_made, mem_compact, hm])
      rw [he] at hM; rw [hM] at hC; cases hC

end Go.Proofs.YtljgcjmelmpgoaaDoor
