/- The reference in terms of the plain order of steps; stores into a list of one's own. -/
import Derived.Test.YtigokfcoofbdlaaS4
namespace Go.Proofs.Ytigokfcoofbdlaa
open Go.RowKit
set_option linter.unusedVariables false

/-- numbers of workers as ints -/
def ints (L : List Nat) : List Int := L.map fun n : Nat => (n : Int)
theorem ints_len (L : List Nat) : (ints L).length = L.length := by simp [ints]
theorem ints_at (L : List Nat) (i : Nat) : (ints L).getD i 0 = (L.getD i 0 : Nat) := by
  unfold ints
  rw [List.getD_eq_getElem?_getD, List.getD_eq_getElem?_getD, List.getElem?_map]
  cases L[i]? <;> rfl
theorem ints_append (A B : List Nat) : ints (A ++ B) = ints A ++ ints B := by simp [ints]
theorem ints_dec {L : List Nat} {i : Nat} (h : 0 < L.getD i 0) : ints (dec L i) = (ints L).set i ((L.getD i 0 : Nat) - 1 : Int) := by
  unfold ints dec
  rw [List.map_set]
  congr 1
  omega
theorem unfp_ints (L : List Nat) : ∀ i, unfp (ints L) i = ints ((List.range i).filter fun j => decide (0 < L.getD j 0))
  | 0 => rfl
  | i + 1 => by
    rw [List.range_succ, List.filter_append, ints_append, ← unfp_ints L i]
    show (if 0 < (ints L).getD i 0 then unfp (ints L) i ++ [(i : Int)] else unfp (ints L) i) = _
    rw [ints_at]
    by_cases h : 0 < L.getD i 0
    · rw [if_pos (by omega), List.filter_cons_of_pos (by simpa using h)]; rfl
    · rw [if_neg (by omega), List.filter_cons_of_neg (by simpa using h)]; simp [ints]
theorem unfp_unf (L : List Nat) : unfp (ints L) L.length = ints (unf L) := unfp_ints L L.length
theorem aftI_ints (U : List Nat) (x : Int) : aftI (ints U) x = (aft U x : Nat) := by
  unfold aftI aft ints
  rw [List.find?_map]
  cases hf : U.find? (fun y : Nat => decide (x < (y : Int))) with
  | none =>
    have : U.find? ((fun y => decide (x < y)) ∘ fun n : Nat => (n : Int)) = none := hf
    rw [this]
    cases U <;> rfl
  | some y =>
    have : U.find? ((fun y => decide (x < y)) ∘ fun n : Nat => (n : Int)) = some y := hf
    rw [this]; rfl
/-- a number stored into a list of the call's own -/
theorem OwnI.set {w : World} {base g n c i : Nat} {l : List Int} (h : OwnI w base (.slice (some ⟨g, 0, none⟩) n c) l) (hl : l.length = n) (hi : i < n) (y : Int) :
    OwnI (w.setCell ⟨g, i, none⟩ (.int .i64 y)) base (.slice (some ⟨g, 0, none⟩) n c) (l.set i y) := by
  obtain ⟨h1, h2⟩ := h
  refine ⟨by simp, ?_⟩
  rcases h2 with ⟨hv, _⟩ | ⟨g', cap, cur, hv, hg, hh, r1, r2, r3, r4⟩
  · cases hv
  · injection hv with e1 e2 e3
    cases e1
    refine .inr ⟨g, cap, cur.setIfInBounds i (.int .i64 y), by rw [List.length_set, hl, ← e3], hg, ?_, by rw [List.length_set]; exact r1, r2, by simp [r3], ?_⟩
    · rw [heap_setCell_same w g i cur 3 _ hh]
    · rw [List.length_set, Array.toList_setIfInBounds, List.take_set, r4]
      simp [ivals, List.map_set]
theorem OwnI.other {w : World} {base g i : Nat} {v : Value} {l : List Int} (h : OwnI w base v l) (hg : g < base) (y : Value) : OwnI (w.setCell ⟨g, i, none⟩ y) base v l := by
  obtain ⟨h1, h2⟩ := h
  refine ⟨h1, ?_⟩
  rcases h2 with h2 | ⟨g', cap, cur, hv, hg', hh, r⟩
  · exact .inl h2
  · refine .inr ⟨g', cap, cur, hv, hg', ?_, r⟩
    rw [heap_setCell_other w _ g' _ (by show g' ≠ g; omega)]; exact hh
theorem OwnI.grown {w w' : World} {base : Nat} {v : Value} {l : List Int} {r : Option Nat} (h : OwnI w base v l) (hg : w.grownBy w' r) (hr : ∀ k, r = some k → v.ownBlock ≠ some k) : OwnI w' base v l := by
  obtain ⟨h1, h2⟩ := h
  refine ⟨h1, ?_⟩
  rcases h2 with h2 | ⟨g, cap, cur, hv, hg0, hh, rest⟩
  · exact .inl h2
  · refine .inr ⟨g, cap, cur, hv, hg0, ?_, rest⟩
    rw [hg.block g (Array.getElem?_eq_some_iff.1 hh).1 (fun e => hr g e.symm (by rw [hv]; rfl))]; exact hh

end Go.Proofs.Ytigokfcoofbdlaa
