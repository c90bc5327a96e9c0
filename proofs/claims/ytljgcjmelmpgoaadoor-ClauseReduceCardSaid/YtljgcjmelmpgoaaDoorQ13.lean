/- Lists of literals of one's own; insertion. -/
import Derived.Test.YtljgcjmelmpgoaaDoorQ12
namespace Go.Proofs.YtljgcjmelmpgoaaDoor
open Go.RowKit
set_option linter.unusedVariables false

theorem info30z : (Tryd.prog.info? 30).map (fun i => (i.zero, i.size, i.bytes)) = some (some (.agg #[.int .i64 0, .bool false]), 2, 16) := by kernel_rfl
/-- the cells of literals -/
def lvals (L : List Lt) : List Value := L.flatMap fun x => [.int .i64 x.1, .bool x.2]
theorem lvals_len (L : List Lt) : (lvals L).length = L.length * 2 := by
  induction L with
  | nil => rfl
  | cons x L ih =>
    show (.int .i64 x.1 :: .bool x.2 :: lvals L).length = _
    rw [List.length_cons, List.length_cons, ih, List.length_cons]; omega
theorem lvals_at : ∀ {L : List Lt} {i : Nat}, i < L.length → (lvals L)[i * 2]? = some (.int .i64 (L.getD i d0).1) ∧ (lvals L)[i * 2 + 1]? = some (.bool (L.getD i d0).2)
  | [], i, h => by cases h
  | x :: L, 0, _ => ⟨rfl, rfl⟩
  | x :: L, i + 1, h => by
    have ih := lvals_at (L := L) (i := i) (by simpa using h)
    rw [show (i + 1) * 2 = i * 2 + 1 + 1 by omega]
    show (.int .i64 x.1 :: .bool x.2 :: lvals L)[i * 2 + 1 + 1]? = _ ∧ (.int .i64 x.1 :: .bool x.2 :: lvals L)[i * 2 + 1 + 1 + 1]? = _
    rw [List.getElem?_cons_succ, List.getElem?_cons_succ, List.getElem?_cons_succ, List.getElem?_cons_succ]
    simpa using ih
theorem lvals_append (A B : List Lt) : lvals (A ++ B) = lvals A ++ lvals B := by simp [lvals]
/-- a list of literals of the call's own -/
def OwnL (w : World) (base : Nat) (v : Value) (L : List Lt) : Prop := w.ownsRow base 30 2 v L.length (lvals L)
theorem OwnL.slice {w : World} {base : Nat} {v : Value} {L : List Lt} (h : OwnL w base v L) : ∃ a c, v = .slice a L.length c := by
  rcases h.2 with ⟨rfl, h0⟩ | ⟨g, cap, cur, rfl, _⟩
  · exact ⟨_, 0, by rw [h0]⟩
  · exact ⟨_, _, rfl⟩
theorem OwnL.below {w w' : World} {base : Nat} {v : Value} {L : List Lt} (h : OwnL w base v L) (hb : Below w.heap.size w w') : OwnL w' base v L := by
  obtain ⟨h1, h2⟩ := h
  refine ⟨h1, ?_⟩
  rcases h2 with h2 | ⟨g, cap, cur, hv, hg, hh, r⟩
  · exact .inl h2
  · refine .inr ⟨g, cap, cur, hv, hg, ?_, r⟩
    rw [hb.block g (Array.getElem?_eq_some_iff.1 hh).1]; exact hh
theorem OwnL.le {w : World} {base base' : Nat} {v : Value} {L : List Lt} (h : OwnL w base v L) (hb : base' ≤ base) : OwnL w base' v L :=
  ⟨h.1, h.2.elim Or.inl (fun ⟨g, cap, cur, hv, hg, r⟩ => Or.inr ⟨g, cap, cur, hv, Nat.le_trans hb hg, r⟩)⟩
theorem OwnL.sl {w : World} {base : Nat} {a : Option Addr} {n c : Nat} {L : List Lt} (h : OwnL w base (.slice a n c) L) (hl : L.length = n) : SlL w a n c L := by
  rcases id h.2 with ⟨hv, h0⟩ | ⟨g, cap, cur, hv, hg, hh, h1, h2, _⟩
  · injection hv with e1 e2 e3
    subst e1; subst e3; subst e2
    obtain rfl : L = [] := List.eq_nil_of_length_eq_zero hl
    exact SlL.nil w none 0 (by omega)
  · injection hv with e1 e2 e3
    subst e1; subst e3
    refine ⟨hl, by omega, by unfold maxLen at h2; omega, .inr ⟨g, 0, rfl, (Array.getElem?_eq_some_iff.1 hh).1, fun i hi => ?_⟩⟩
    have hx := lvals_at (L := L) (i := i) (by omega)
    have k0 := World.ownsRow.cells h (g := g) rfl _ _ hx.1
    have k1 := World.ownsRow.cells h (g := g) rfl _ _ hx.2
    rw [Addr.add_mid] at k0 k1
    exact ⟨k0, by rw [show 0 + i * 2 + 1 = 0 + (i * 2 + 1) by omega]; exact k1⟩
theorem OwnL.push {w : World} {base n : Nat} {v : Value} {L : List Lt} {u : Int} {o : Bool} (h : w.ownsRow base 30 2 v (n + 1) (lvals L ++ [.int .i64 u, .bool o])) (hl : L.length = n) : OwnL w base v (L ++ [(u, o)]) := by
  unfold OwnL
  rw [List.length_append, hl, lvals_append]
  exact h
theorem lt_news (w : World) (u : Int) (o : Bool) : ∀ j x, [Value.int .i64 u, .bool o][j]? = some x → (w.alloc (.cells #[.int .i64 u, .bool o] 30)).cell? ((⟨w.heap.size, 0, none⟩ : Addr).add j) = some x := fun j x hx => by
  rw [Addr.add_mid, cell_of_row _ w.heap.size (0 + j) _ 30 (0, 0) (heap_alloc_new w _), Nat.zero_add]
  simpa using hx
theorem lt_ones (u : Int) (o : Bool) : ∀ x ∈ [Value.int .i64 u, .bool o], x.oneCell' = true := by
  intro x hx
  simp at hx
  rcases hx with rfl | rfl <;> rfl
/-- a literal laid ahead of the first one of a greater unit -/
def ins1 : List Lt → Lt → List Lt
  | [], x => [x]
  | y :: r, x => if x.1 < y.1 then x :: y :: r else y :: ins1 r x
def ins (L : List Lt) (x : Lt) : List Lt := if x ∈ L then L else ins1 L x
theorem ins1_split {x : Lt} : ∀ {L : List Lt} {i : Nat}, i ≤ L.length → (∀ k, k < i → ¬ x.1 < (L.getD k d0).1) → ins1 L x = L.take i ++ ins1 (L.drop i) x
  | _, 0, _, _ => by simp
  | [], i + 1, h, _ => by simp at h
  | y :: L, i + 1, h, hk => by
    have h0 := hk 0 (by omega)
    have ih := ins1_split (x := x) (L := L) (i := i) (by simpa using h) (fun k hki => by have := hk (k + 1) (by omega); simpa using this)
    show (if x.1 < y.1 then x :: y :: L else y :: ins1 L x) = _
    rw [if_neg (by simpa using h0), ih]
    rfl
theorem ins1_here {x : Lt} {L : List Lt} {i : Nat} (h : i < L.length) (hx : x.1 < (L.getD i d0).1) : ins1 (L.drop i) x = x :: L.drop i := by
  rw [drop_at h]
  show (if x.1 < (L.getD i d0).1 then _ else _) = _
  rw [if_pos hx]
theorem take_snoc {L : List Lt} {i : Nat} (h : i < L.length) : L.take (i + 1) = L.take i ++ [L.getD i d0] := by
  rw [List.take_succ_eq_append_getElem h]; simp [h]

end Go.Proofs.YtljgcjmelmpgoaaDoor
