/- Clone of literals. -/
import Derived.Test.YtljgcjmelmpgoaaDoorQ15
import Derived.Lib.SliceRun
namespace Go.Proofs.YtljgcjmelmpgoaaDoor
open Go.RowKit
set_option linter.unusedVariables false

theorem SlL.src {w : World} {y : Addr} {n c : Nat} {L : List Lt} (h : SlL w (some y) n c L) : ∀ j x, (lvals L)[j]? = some x → w.cell? (y.add j) = some x := fun j x hx => by
  have hj := (List.getElem?_eq_some_iff.1 hx).1
  rw [lvals_len, h.1] at hj
  obtain ⟨b, off, e, hb, hc⟩ := h.at (by omega)
  obtain rfl := Option.some.inj e
  have hi : j / 2 < n := by omega
  have hv := lvals_at (L := L) (i := j / 2) (by rw [h.1]; exact hi)
  rw [Addr.add_mid]
  rcases Nat.mod_two_eq_zero_or_one j with hm | hm
  · have ej : j = j / 2 * 2 := by omega
    rw [ej] at hx
    rw [hv.1] at hx
    rw [ej, (hc _ hi).1, hx]
  · have ej : j = j / 2 * 2 + 1 := by omega
    rw [ej] at hx
    rw [hv.2] at hx
    rw [ej, ← Nat.add_assoc, (hc _ hi).2, hx]
theorem lvals_one : ∀ (L : List Lt), ∀ x ∈ lvals L, x.oneCell' = true := by
  intro L x hx
  unfold lvals at hx
  obtain ⟨y, _, hy⟩ := List.mem_flatMap.1 hx
  exact lt_ones y.1 y.2 x hy
/-- what slices.Clone answers -/
def CloneSays (w : World) (L : List Lt) (e : Ending) (w' : World) : Prop := ∃ v, e = .returned v ∧ OwnL w' w.heap.size v L ∧ Below w.heap.size w w'
set_option maxHeartbeats 4000000 in
set_option maxRecDepth 100000 in
theorem clone_c (a : Option Addr) (n c : Nat) (L : List Lt) (w : World) (hs : SlL w a n c L) (hn : n ≤ 4000) :
    Calls Tryd.prog 32 #[.slice a n c] w fun e w' => CloneSays w L e w' := by
  obtain ⟨i0, hi0, hz0, hz1, hz2⟩ := info_parts info30z
  have HS := Lib.hid hs
  have HLN : Hid (L.length = n) := Lib.hid hs.1
  clear hs
  have qT : ∀ (w : World) (a : Option Addr) (n c n' c' : Nat), (binOp .eql 22 (.slice a n c) (.slice none n' c')).run Tryd.prog w = .ok (.bool a.isNone) w := fun w a n c n' c' => Lib.run_eql_slice_nil w _ _ a n c n' c' Tryd.underlying22
  cases a with
  | none =>
    have hn0 : n = 0 := by
      rcases HS.out.2.2.2 with h | ⟨b, off, e, _⟩
      · exact h
      · cases e
    subst hn0
    obtain rfl : L = [] := List.eq_nil_of_length_eq_zero HLN.out
    go_enter Tryd.func32, Tryd.ntmps32
    go_wp2
    refine bodyPost_ret (results_tmp rfl _ _ _) rfl ?_
    exact ⟨_, rfl, ⟨rfl, .inl ⟨rfl, rfl⟩⟩, Below.refl _ _⟩
  | some y =>
    have OH : Hid ((w.alloc (.cells #[] 30)).ownsRow w.heap.size 30 2 (.slice (some ⟨w.heap.size, 0, none⟩) 0 0) 0 []) := Lib.hid (World.ownsRow_made w #[] 0 (Nat.le_refl _) (by unfold maxLen; omega) rfl)
    have SA := Lib.hid ((HS.out.below ((Below.refl w.heap.size w).alloc (o := .cells #[] 30) (Nat.le_refl _))).src)
    have HL : Hid ((lvals L).length = n * 2) := Lib.hid (by rw [lvals_len, HLN.out])
    go_enter Tryd.func32, Tryd.ntmps32
    go_wp2_with (at_builtin; refine wpList_append_own _ rfl (.tmp 5) (.tmp 6) 22 rfl w.heap.size 30 i0 (.agg #[.int .i64 0, .bool false]) 2 16 Tryd.underlying22 hi0 hz0 hz1 hz2 rfl (by decide) (.slice (some ⟨w.heap.size, 0, none⟩) 0 0) 0 [] rfl OH.out y n c (lvals L) rfl HL.out SA.out (lvals_one L) (by unfold maxLen; omega) (by omega) (by rw [World.size_alloc]; omega) ?_; intro v1 w2 O1 G1 _; rw [Nat.zero_add, List.nil_append] at O1; have OA := Lib.hid O1; have BA : Hid (Below w.heap.size w w2) := Lib.hid (((Below.refl w.heap.size w).alloc (o := .cells #[] 30) (Nat.le_refl _)).grown G1 (by rw [World.size_alloc]; omega) (fun k hk => by have e' := Option.some.inj (show some w.heap.size = some k from hk); omega)); clear O1 G1)
    refine bodyPost_ret (results_tmp rfl _ _ _) rfl ?_
    exact ⟨_, rfl, by unfold OwnL; rw [HLN.out]; exact OA.out, BA.out⟩

end Go.Proofs.YtljgcjmelmpgoaaDoor
