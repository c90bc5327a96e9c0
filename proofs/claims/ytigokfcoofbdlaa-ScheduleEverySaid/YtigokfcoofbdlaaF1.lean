/- A slice of slices of flags. -/
import Derived.Test.YtigokfcoofbdlaaF0
namespace Go.Proofs.Ytigokfcoofbdlaa
open Go.RowKit
set_option linter.unusedVariables false

/-- a row of flags as a value -/
def zval (n : Nat) : Option (Nat × List Bool) → Value
  | none => .slice none 0 0
  | some (b, _) => .slice (some ⟨b, 0, none⟩) n n
/-- block gs holds n slices of flags: Z says which are nil, and the blocks and flags of the others -/
structure SZ (W : World) (gs n : Nat) (Z : List (Option (Nat × List Bool))) : Prop where
  blk : W.heap[gs]? = some (.cells (Z.map (zval n)).toArray 44 (0, 0))
  len : Z.length = n
  rows : ∀ (k b : Nat) (r : List Bool), Z.getD k none = some (b, r) → W.heap[b]? = some (.cells (r.map Value.bool).toArray 4 (0, 0)) ∧ r.length = n
  inj : ∀ (j k b : Nat) (r r' : List Bool), Z.getD j none = some (b, r) → Z.getD k none = some (b, r') → j = k
theorem getD_set {α : Type} (l : List α) (k j : Nat) (v d : α) (hk : k < l.length) : (l.set k v).getD j d = if j = k then v else l.getD j d := by
  by_cases e : j = k
  · subst e; rw [if_pos rfl]; simp [hk]
  · rw [if_neg e, List.getD_eq_getElem?_getD, List.getElem?_set_ne (Ne.symm e), ← List.getD_eq_getElem?_getD]
theorem SZ.cell {W : World} {gs n k : Nat} {Z : List (Option (Nat × List Bool))} (h : SZ W gs n Z) (hk : k < n) : W.cell? ⟨gs, k, none⟩ = some (zval n (Z.getD k none)) := by
  rw [cell_of_row W gs k _ 44 (0, 0) h.blk]
  have : k < Z.length := by rw [h.len]; exact hk
  simp [this]
theorem SZ.frozen {W : World} {gs n : Nat} {Z : List (Option (Nat × List Bool))} (h : SZ W gs n Z) (k : Nat) : W.frozen? ⟨gs, k, none⟩ = false := frozen_of_row W gs k _ 44 h.blk
theorem SZ.row {W : World} {gs n k b o : Nat} {r : List Bool} {Z : List (Option (Nat × List Bool))} (h : SZ W gs n Z) (hk : Z.getD k none = some (b, r)) (ho : o < n) : W.cell? ⟨b, o, none⟩ = some (.bool (r.getD o false)) ∧ W.frozen? ⟨b, o, none⟩ = false := by
  obtain ⟨h1, h2⟩ := h.rows k b r hk
  refine ⟨?_, frozen_of_row W b o _ 4 h1⟩
  rw [cell_of_row W b o _ 4 (0, 0) h1]
  have : o < r.length := by omega
  simp [this]
theorem SZ.at_lt {W : World} {gs n k b : Nat} {r : List Bool} {Z : List (Option (Nat × List Bool))} (h : SZ W gs n Z) (hk : Z.getD k none = some (b, r)) : k < n := by
  rcases Nat.lt_or_ge k n with h1 | h1
  · exact h1
  · rw [List.getD_eq_getElem?_getD, List.getElem?_eq_none (by rw [h.len]; exact h1)] at hk; cases hk
theorem SZ.keep {W W' : World} {gs n : Nat} {Z : List (Option (Nat × List Bool))} (h : SZ W gs n Z) (hk : ∀ (k : Nat) (a : Array Value) (t : TypeId), W.heap[k]? = some (.cells a t (0, 0)) → t = 4 ∨ t = 44 → W'.heap[k]? = W.heap[k]?) : SZ W' gs n Z :=
  ⟨by rw [hk gs _ _ h.blk (.inr rfl)]; exact h.blk, h.len, fun k b r hz => ⟨by rw [hk b _ _ (h.rows k b r hz).1 (.inl rfl)]; exact (h.rows k b r hz).1, (h.rows k b r hz).2⟩, h.inj⟩
theorem SZ.mark {W : World} {gs n k b i : Nat} {r : List Bool} {Z : List (Option (Nat × List Bool))} (h : SZ W gs n Z) (hk : Z.getD k none = some (b, r)) (hi : i < n) : SZ (W.setCell ⟨b, i, none⟩ (.bool true)) gs n (Z.set k (some (b, r.set i true))) := by
  obtain ⟨h1, h2⟩ := h.rows k b r hk
  have hkn := h.at_lt hk
  have hkz : k < Z.length := by rw [h.len]; exact hkn
  have hgb : gs ≠ b := fun e => by rw [← e] at h1; have := cells_type h1 h.blk; cases this
  refine ⟨?_, by rw [List.length_set]; exact h.len, fun k' b' r' hz => ?_, fun j k' b' r1 r2 hj hk' => ?_⟩
  · rw [Below.heap_setCell _ _ _ _ hgb, h.blk]
    congr 3
    have e1 : zval n (some (b, r.set i true)) = zval n (some (b, r)) := rfl
    rw [List.map_set, e1, ← hk]
    apply List.ext_getElem (by simp)
    intro m h3 h4
    rw [List.getElem_set]
    split
    · rename_i e; subst e; simp [hkz]
    · rfl
  · rw [getD_set _ _ _ _ _ hkz] at hz
    by_cases e : k' = k
    · rw [if_pos e] at hz
      cases hz
      refine ⟨?_, by rw [List.length_set]; exact h2⟩
      rw [heap_setCell_same W b i _ 4 _ h1]
      congr 2
      simp [List.map_set]
    · rw [if_neg e] at hz
      have hb : b' ≠ b := fun e2 => by subst e2; exact e (h.inj k' k _ _ _ hz hk)
      rw [Below.heap_setCell _ _ _ _ hb]
      exact h.rows k' b' r' hz
  · rw [getD_set _ _ _ _ _ hkz] at hj hk'
    by_cases e1 : j = k <;> by_cases e2 : k' = k
    · rw [e1, e2]
    · rw [if_pos e1] at hj; rw [if_neg e2] at hk'; cases hj
      exact absurd (h.inj k' k _ _ _ hk' hk) e2
    · rw [if_neg e1] at hj; rw [if_pos e2] at hk'; cases hk'
      exact absurd (h.inj j k _ _ _ hj hk) e1
    · rw [if_neg e1] at hj; rw [if_neg e2] at hk'
      exact h.inj j k' b' _ _ hj hk'
theorem bools_made (n : Nat) : madeCells #[.bool false] n = ((List.replicate n false).map Value.bool).toArray := by
  apply Array.ext
  · simp [madeCells]
  · intro i h1 h2; simp [madeCells, Nat.mod_one]
theorem nils_made (n : Nat) : madeCells #[.slice none 0 0] n = ((List.replicate n (none : Option (Nat × List Bool))).map (zval n)).toArray := by
  apply Array.ext
  · simp [madeCells]
  · intro i h1 h2; simp [madeCells, zval, Nat.mod_one]
theorem SZ.made (W : World) (n : Nat) : SZ (W.alloc (.cells (madeCells #[.slice none 0 0] n) 44)) W.heap.size n (List.replicate n none) := by
  refine ⟨by rw [heap_alloc_new, nils_made], by simp, fun k b r hz => ?_, fun j k b r r' hz => ?_⟩
  · rw [List.getD_eq_getElem?_getD, List.getElem?_replicate] at hz; split at hz <;> cases hz
  · rw [List.getD_eq_getElem?_getD, List.getElem?_replicate] at hz; split at hz <;> cases hz
theorem SZ.alloc {W : World} {gs n : Nat} {Z : List (Option (Nat × List Bool))} (h : SZ W gs n Z) (o : Obj) : SZ (W.alloc o) gs n Z :=
  h.keep fun k _ _ hk _ => Below.heap_alloc _ _ _ (lt_of_block hk)
theorem SZ.new {W : World} {gs n k b : Nat} {Z : List (Option (Nat × List Bool))} (h : SZ W gs n Z) (hk : k < n) (hb : b = W.heap.size) : SZ ((W.alloc (.cells (madeCells #[.bool false] n) 4)).setCell ⟨gs, k, none⟩ (.slice (some ⟨b, 0, none⟩) n n)) gs n (Z.set k (some (b, List.replicate n false))) := by
  have ha := h.alloc (.cells (madeCells #[.bool false] n) 4)
  have hn : (W.alloc (.cells (madeCells #[.bool false] n) 4)).heap[b]? = some (.cells ((List.replicate n false).map Value.bool).toArray 4 (0, 0)) := by rw [hb, heap_alloc_new, bools_made]
  have hkz : k < Z.length := by rw [h.len]; exact hk
  have hgb : b ≠ gs := by have := lt_of_block h.blk; omega
  have hold : ∀ k' b' r', Z.getD k' none = some (b', r') → b' ≠ b ∧ b' ≠ gs := fun k' b' r' hz => by
    have h1 := (h.rows k' b' r' hz).1
    refine ⟨by have := lt_of_block h1; omega, fun e => ?_⟩
    rw [e] at h1
    have := cells_type h1 h.blk
    cases this
  refine ⟨?_, by rw [List.length_set]; exact h.len, fun k' b' r' hz => ?_, fun j k' b' r1 r2 hj hk' => ?_⟩
  · rw [heap_setCell_same _ gs k _ 44 _ ha.blk]
    congr 2
    simp [List.map_set, zval]
  · rw [getD_set _ _ _ _ _ hkz] at hz
    by_cases e : k' = k
    · rw [if_pos e] at hz
      cases hz
      exact ⟨by rw [Below.heap_setCell _ _ _ _ hgb]; exact hn, by simp⟩
    · rw [if_neg e] at hz
      rw [Below.heap_setCell _ _ _ _ (hold k' b' r' hz).2]
      exact ha.rows k' b' r' hz
  · rw [getD_set _ _ _ _ _ hkz] at hj hk'
    by_cases e1 : j = k <;> by_cases e2 : k' = k
    · rw [e1, e2]
    · rw [if_pos e1] at hj; rw [if_neg e2] at hk'; cases hj
      exact absurd rfl (hold k' _ _ hk').1
    · rw [if_neg e1] at hj; rw [if_pos e2] at hk'; cases hk'
      exact absurd rfl (hold j _ _ hj).1
    · rw [if_neg e1] at hj; rw [if_neg e2] at hk'
      exact h.inj j k' b' _ _ hj hk'
theorem SZ.other {W : World} {gs n b i : Nat} {v : Value} {Z : List (Option (Nat × List Bool))} (h : SZ W gs n Z) {a : Array Value} {t : TypeId} (hb : W.heap[b]? = some (.cells a t (0, 0))) (h4 : t ≠ 4) (h44 : t ≠ 44) : SZ (W.setCell ⟨b, i, none⟩ v) gs n Z :=
  h.keep fun k a' t' hk ht => Below.heap_setCell _ _ _ _ (fun e => by
    have e' : k = b := e
    rw [e'] at hk
    have := cells_type hb hk
    rcases ht with ht | ht
    · exact h4 (this.trans ht)
    · exact h44 (this.trans ht))
/-- a list of ints of one's own, where a block of another type is written -/
theorem OwnI.apart {W : World} {base b i : Nat} {v x : Value} {l : List Int} (h : OwnI W base v l) {a : Array Value} {t : TypeId} (hb : W.heap[b]? = some (.cells a t (0, 0))) (ht : t ≠ 3) : OwnI (W.setCell ⟨b, i, none⟩ x) base v l :=
  ownsRow_setCell_other h (a := ⟨b, i, none⟩) (fun e => ht (own_type h e hb).symm) x
theorem OwnI.block {W : World} {base g n c : Nat} {l : List Int} (h : OwnI W base (.slice (some ⟨g, 0, none⟩) n c) l) : ∃ cur, W.heap[g]? = some (.cells cur 3 (0, 0)) := by
  rcases h.2 with ⟨hv, _⟩ | ⟨g', cap, cur, hv, _, hh, _⟩
  · cases hv
  · injection hv with e; cases e; exact ⟨cur, hh⟩

end Go.Proofs.Ytigokfcoofbdlaa
