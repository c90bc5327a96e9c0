/- Lists of slices of the call's own: they stay while other memory is made. -/
import Derived.Test.YtlbmllhjmgccaaaW7
namespace Go.Proofs.Ytlbmllhjmgccaaa
open Go.RowKit
set_option linter.unusedVariables false
/-- what is owned stays owned while nothing that was there is turned -/
theorem own_below {w w' : World} {base : Nat} {e : TypeId} {size : Nat} {v : Value} {n : Nat} {xs : List Value} (h : w.ownsRow base e size v n xs) (hb : Below w.heap.size w w') : w'.ownsRow base e size v n xs := by
  obtain ⟨h1, h2⟩ := h
  refine ⟨h1, ?_⟩
  rcases h2 with h2 | ⟨g, cap, cur, hv, hg, hh, r⟩
  · exact .inl h2
  · refine .inr ⟨g, cap, cur, hv, hg, ?_, r⟩
    rw [hb.block g (by have := Array.getElem?_eq_some_iff.1 hh; exact this.1)]; exact hh
/-- rows of other element types lie in other blocks -/
theorem own_apart {w : World} {base base' : Nat} {e e' : TypeId} {size size' : Nat} {v v' : Value} {n n' : Nat} {xs xs' : List Value} (h : w.ownsRow base e size v n xs) (h' : w.ownsRow base' e' size' v' n' xs') (hne : e ≠ e') : v.ownBlock = none ∨ v.ownBlock ≠ v'.ownBlock := by
  rcases h.2 with ⟨rfl, _⟩ | ⟨g, cap, cur, rfl, _, hh, _⟩
  · exact .inl rfl
  · right
    rcases h'.2 with ⟨rfl, _⟩ | ⟨g', cap', cur', rfl, _, hh', _⟩
    · simp [Value.ownBlock]
    · simp only [Value.ownBlock, ne_eq, Option.some.injEq]
      rintro rfl
      rw [hh] at hh'
      simp at hh'
      exact hne hh'.2
theorem own_oneCell {w : World} {base : Nat} {e : TypeId} {size : Nat} {v : Value} {n : Nat} {xs : List Value} (h : w.ownsRow base e size v n xs) : ∀ u ∈ [v], u.oneCell' = true := by
  intro u hu
  simp at hu; subst hu
  rcases h.2 with ⟨rfl, _⟩ | ⟨g, cap, cur, rfl, _⟩ <;> rfl

theorem own_slice {w : World} {base : Nat} {e : TypeId} {size : Nat} {v : Value} {n : Nat} {xs : List Value} (h : w.ownsRow base e size v n xs) : ∃ a c, v = .slice a n c := by
  rcases h.2 with ⟨rfl, rfl⟩ | ⟨g, cap, cur, rfl, _⟩
  · exact ⟨_, _, rfl⟩
  · exact ⟨_, _, rfl⟩

/-- a list of slices of ints, each the call's own -/
def Vals (w : World) (base : Nat) (vs : List Value) (ws : List (List Int)) : Prop :=
  vs.length = ws.length ∧ ∀ (i : Nat) (v : Value) (l : List Int), vs[i]? = some v → ws[i]? = some l → w.ownsRow base 3 1 v l.length (l.map (Value.int .i64))
theorem Vals.nil (w : World) (base : Nat) : Vals w base [] [] := ⟨rfl, by simp⟩
theorem Vals.below {w w' : World} {base : Nat} {vs : List Value} {ws : List (List Int)} (h : Vals w base vs ws) (hb : Below w.heap.size w w') : Vals w' base vs ws :=
  ⟨h.1, fun i v l h1 h2 => own_below (h.2 i v l h1 h2) hb⟩
theorem Vals.mono {w : World} {base base' : Nat} {vs : List Value} {ws : List (List Int)} (h : Vals w base vs ws) (hb : base' ≤ base) : Vals w base' vs ws :=
  ⟨h.1, fun i v l h1 h2 => (h.2 i v l h1 h2).mono hb⟩
theorem Vals.grown {w w' : World} {base base' : Nat} {vs : List Value} {ws : List (List Int)} (h : Vals w base vs ws) {v' : Value} {n' : Nat} {xs' : List Value} (ho : w.ownsRow base' 22 1 v' n' xs') (hg : w.grownBy w' v'.ownBlock) : Vals w' base vs ws :=
  ⟨h.1, fun i v l h1 h2 => (h.2 i v l h1 h2).kept hg (own_apart (h.2 i v l h1 h2) ho (by decide))⟩
theorem Vals.push {w : World} {base : Nat} {vs : List Value} {ws : List (List Int)} (h : Vals w base vs ws) {v : Value} {l : List Int} (ho : w.ownsRow base 3 1 v l.length (l.map (Value.int .i64))) : Vals w base (vs ++ [v]) (ws ++ [l]) := by
  refine ⟨by simp [h.1], fun i u m h1 h2 => ?_⟩
  by_cases hi : i < vs.length
  · rw [List.getElem?_append_left hi] at h1
    rw [List.getElem?_append_left (by rw [← h.1]; exact hi)] at h2
    exact h.2 i u m h1 h2
  · rw [List.getElem?_append_right (by omega)] at h1
    rw [List.getElem?_append_right (by rw [← h.1]; omega)] at h2
    have hi0 : i - vs.length = 0 := by
      have := List.getElem?_eq_some_iff.1 h1
      obtain ⟨h3, _⟩ := this
      simp at h3; omega
    rw [hi0] at h1
    rw [← h.1, hi0] at h2
    simp at h1 h2
    subst h1; subst h2
    exact ho

/-- what Windows leaves -/
def WsPost (l : List Int) (kh kw st pad : Int) (w : World) (e : Ending) (w' : World) : Prop :=
  ∃ v vs, e = Ending.returned (.tuple #[v, .int .i64 (winRes l kh kw st pad).2.1, .int .i64 (winRes l kh kw st pad).2.2.1, .int .i64 (winRes l kh kw st pad).2.2.2]) ∧
    w'.ownsRow w.heap.size 22 1 v vs.length vs ∧ Vals w' w.heap.size vs (winRes l kh kw st pad).1 ∧ Below w.heap.size w w'
end Go.Proofs.Ytlbmllhjmgccaaa
