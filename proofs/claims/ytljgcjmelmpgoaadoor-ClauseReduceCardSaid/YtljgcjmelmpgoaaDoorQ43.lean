/- Reduce: the mathematics. -/
import Derived.Test.YtljgcjmelmpgoaaDoorQ42
import Derived.Test.YtljgcjmelmpgoaaDoorQ36
namespace Go.Proofs.YtljgcjmelmpgoaaDoor
open Go.RowKit
set_option linter.unusedVariables false

/-- every literal of one clause is one of another -/
def sub (d c : Cl) : Bool := decide (∀ x ∈ d.2, x ∈ c.2)
def subV (d c : Cl) : Bool := subs d.2 c.2
def okV (c : Cl) : Bool := vld c.2
def keepG (S : Cl → Cl → Bool) (pre : List Cl) (c : Cl) (r : List Cl) : Bool := pre.all (fun d => !S d c) && r.all (fun d => !(S d c && decide (d.2.length < c.2.length)))
/-- the clauses that no other one subsumes -/
def redG (S : Cl → Cl → Bool) (ok : Cl → Bool) : List Cl → List Cl → List Cl
  | _, [] => []
  | pre, c :: r => if (ok c && keepG S pre c r) = true then c :: redG S ok (pre ++ [c]) r else redG S ok (pre ++ [c]) r
def allOk (_ : Cl) : Bool := true
theorem red_alike : ∀ (L pre : List Cl), redG subV okV pre L = redG sub allOk (vlds pre) (vlds L)
  | [], pre => rfl
  | c :: r, pre => by
    have ih := red_alike r (pre ++ [c])
    have hp : vlds (pre ++ [c]) = if vld c.2 = true then vlds pre ++ [c] else vlds pre := by
      unfold vlds
      rw [List.filter_append]
      cases h : vld c.2 <;> simp [h]
    have hc : vlds (c :: r) = if vld c.2 = true then c :: vlds r else vlds r := by
      unfold vlds
      rw [List.filter_cons]
    show (if (okV c && keepG subV pre c r) = true then c :: redG subV okV (pre ++ [c]) r else redG subV okV (pre ++ [c]) r) = _
    rw [ih, hp, hc]
    by_cases hv : vld c.2 = true
    · rw [if_pos hv, if_pos hv]
      have hk : keepG subV pre c r = keepG sub (vlds pre) c (vlds r) := by
        unfold keepG vlds
        rw [List.all_filter, List.all_filter]
        have e1 : ∀ d : Cl, (!subV d c) = (!vld d.2 || !sub d c) := fun d => by
          unfold subV subs sub
          rw [hv]
          cases vld d.2 <;> simp
        have e2 : ∀ d : Cl, (!(subV d c && decide (d.2.length < c.2.length))) = (!vld d.2 || !(sub d c && decide (d.2.length < c.2.length))) := fun d => by
          unfold subV subs sub
          rw [hv]
          cases vld d.2 <;> simp
        congr 1
        · congr 1; funext d; exact e1 d
        · congr 1; funext d; exact e2 d
      show (if (okV c && keepG subV pre c r) = true then _ else _) = (if (allOk c && keepG sub (vlds pre) c (vlds r)) = true then _ else _)
      rw [show okV c = true from hv, show allOk c = true from rfl, hk]
    · rw [if_neg hv, if_neg hv]
      have : okV c = false := by unfold okV; simpa using hv
      rw [this]
      simp
theorem cdrop_at {L : List Cl} {i : Nat} (h : i < L.length) : L.drop i = L.getD i c0 :: L.drop (i + 1) := by
  rw [List.drop_eq_getElem_cons h]; simp [h]
theorem red_step {S : Cl → Cl → Bool} {ok : Cl → Bool} {V : List Cl} {i : Nat} {c : Cl} (h : i < V.length) (hc : V.getD i c0 = c) :
    redG S ok (V.take i) (V.drop i) = if (ok c && keepG S (V.take i) c (V.drop (i + 1))) = true then c :: redG S ok (V.take (i + 1)) (V.drop (i + 1)) else redG S ok (V.take (i + 1)) (V.drop (i + 1)) := by
  rw [cdrop_at h, hc, ctake_snoc h, hc]; rfl
theorem red_end {S : Cl → Cl → Bool} {ok : Cl → Bool} {V : List Cl} {i : Nat} (h : V.length ≤ i) : redG S ok (V.take i) (V.drop i) = [] := by
  rw [List.drop_of_length_le h]; unfold redG; rfl
/-- a clause makes another one superfluous -/
def Bad (S : Cl → Cl → Bool) (V : List Cl) (c : Cl) (i k : Nat) : Prop := S (V.getD k c0) c = true ∧ ((V.getD k c0).2.length < c.2.length ∨ k < i)
theorem keep_iff {S : Cl → Cl → Bool} {V : List Cl} {i : Nat} {c : Cl} (h : i < V.length) (hc : V.getD i c0 = c) : keepG S (V.take i) c (V.drop (i + 1)) = true ↔ ∀ k, k < V.length → ¬ Bad S V c i k := by
  unfold keepG
  rw [Bool.and_eq_true, List.all_eq_true, List.all_eq_true]
  have gd : ∀ k, k < V.length → ∀ y, V[k]? = some y → V.getD k c0 = y := fun k hk y hy => by rw [List.getD_eq_getElem?_getD, hy]; rfl
  constructor
  · rintro ⟨h1, h2⟩ k hk ⟨b1, b2⟩
    rcases Nat.lt_trichotomy k i with hlt | heq | hgt
    · have hm : V.getD k c0 ∈ V.take i := by
        rw [List.getD_eq_getElem?_getD, List.getElem?_eq_getElem hk, Option.getD_some]
        rw [List.mem_take_iff_getElem]
        exact ⟨k, by omega, rfl⟩
      have := h1 _ hm
      rw [b1] at this
      cases this
    · subst heq
      rw [hc] at b2
      omega
    · have hm : V.getD k c0 ∈ V.drop (i + 1) := by
        rw [List.getD_eq_getElem?_getD, List.getElem?_eq_getElem hk, Option.getD_some]
        rw [List.mem_drop_iff_getElem]
        exact ⟨k - (i + 1), by omega, by congr 1; omega⟩
      have := h2 _ hm
      rw [b1] at this
      have hl : (V.getD k c0).2.length < c.2.length := by omega
      rw [decide_eq_true hl] at this
      cases this
  · intro hb
    constructor
    · intro d hd
      obtain ⟨k, hk, e⟩ := List.mem_take_iff_getElem.1 hd
      have hkl : k < V.length := by omega
      have := hb k hkl
      have e2 : V.getD k c0 = d := by rw [List.getD_eq_getElem?_getD, List.getElem?_eq_getElem hkl, Option.getD_some]; exact e
      unfold Bad at this
      rw [e2] at this
      cases hs : S d c with
      | false => rfl
      | true => exact absurd ⟨hs, .inr (by omega)⟩ this
    · intro d hd
      obtain ⟨k, hk, e⟩ := List.mem_drop_iff_getElem.1 hd
      have hkl : i + 1 + k < V.length := by omega
      have := hb (i + 1 + k) hkl
      have e2 : V.getD (i + 1 + k) c0 = d := by rw [List.getD_eq_getElem?_getD, List.getElem?_eq_getElem hkl, Option.getD_some]; exact e
      unfold Bad at this
      rw [e2] at this
      cases hs : S d c with
      | false => rfl
      | true =>
        have hl : ¬ d.2.length < c.2.length := fun hl => this ⟨hs, .inl hl⟩
        rw [decide_eq_false hl]; rfl
theorem red_mem {S : Cl → Cl → Bool} {ok : Cl → Bool} : ∀ {L pre : List Cl} {x : Cl}, x ∈ redG S ok pre L → x ∈ L
  | [], pre, x, h => by unfold redG at h; exact h
  | c :: r, pre, x, h => by
    unfold redG at h
    split at h
    · rcases List.mem_cons.1 h with rfl | h
      · simp
      · simp [red_mem h]
    · simp [red_mem h]

end Go.Proofs.YtljgcjmelmpgoaaDoor
