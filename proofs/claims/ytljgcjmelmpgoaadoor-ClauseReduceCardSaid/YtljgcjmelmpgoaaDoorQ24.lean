/- Grow. -/
import Derived.Test.YtljgcjmelmpgoaaDoorQ21
import Derived.Lib.AppendZerosOnto
import Derived.Lib.Walk
namespace Go.Proofs.YtljgcjmelmpgoaaDoor
open Go.RowKit
set_option linter.unusedVariables false

set_option maxHeartbeats 2000000 in
set_option maxRecDepth 100000 in
/-- slices.Grow of nil -/
theorem grow_c (m : Nat) (w : World) (hm : m ≤ 4000) :
    Calls Tryd.prog 57 #[.slice none 0 0, .int .i64 (m : Nat)] w fun e w' => CloneSays w [] e w' := by
  obtain ⟨i0, hi0, hz0, hz1, hz2⟩ := info_parts info30z
  by_cases h0 : m = 0
  · subst h0
    go_enter Tryd.func57, Tryd.ntmps57
    go_wp2
    refine bodyPost_ret (results_tmp rfl _ _ _) rfl ?_
    exact ⟨_, rfl, ⟨rfl, .inl ⟨rfl, rfl⟩⟩, Below.refl _ _⟩
  · have hold : (Builtin.firstCells i0.size 0 (.slice none 0 0)).run Tryd.prog w.drew = .ok ([] : List Value).toArray w.drew := run_firstCells_none w.drew i0.size 0 0 0
    have hrz : ∀ ty, (Builtin.append_ #[24, 3] ty #[.slice none 0 0, .int .i64 (m : Nat)]).run Tryd.prog w = .ok (.slice (some ⟨w.heap.size, 0, none⟩) m (grownCap w m 0 30)) (w.drew.alloc (.cells (#[] ++ Builtin.zeroCells #[.int .i64 0, .bool false] m ++ Builtin.zeroCells #[.int .i64 0, .bool false] (grownCap w m 0 30 - m)) 30)) := fun ty => by
      have h := Lib.run_append_grow_zeros w 24 3 ty 30 i0 (.agg #[.int .i64 0, .bool false]) .i64 .i64 Tryd.underlying24 Tryd.underlying3 hi0 hz0 none 0 0 [] hold m (by omega) (by rw [hz1]; omega) (by omega) (by omega) (by rw [hz2]; omega) (by rw [Nat.zero_add]; exact growslice_fits (by omega) (by rw [hz2]; omega))
      rw [Nat.zero_add] at h
      exact h
    have hGn : m ≤ grownCap w m 0 30 := grownCap_ge w _ _ _
    have hGM := grownCap_le_maxLen w m 0 30 (by unfold maxLen; omega)
    obtain ⟨G, hG⟩ : ∃ G, G = grownCap w m 0 30 := ⟨_, rfl⟩
    rw [← hG] at hrz hGn hGM
    have HGM := Lib.hid hGM
    have hG63 : G ≤ 9223372036854775807 := by unfold maxLen at hGM; omega
    have h1 : 0 < m := by omega
    clear hold hG h0 hGM
    go_enter Tryd.func57, Tryd.ntmps57
    go_wp2_with (at_builtin; refine Lib.wpList_append_run _ rfl _ _ _ _ rfl _ _ rfl rfl _ _ (hrz _) ?_)
    refine bodyPost_ret (results_tmp rfl _ _ _) rfl ?_
    refine ⟨_, rfl, ?_, (below_drewN (Below.refl w.heap.size w) 1).alloc (Nat.le_refl _) _⟩
    exact World.ownsRow_made w.drew _ G (Nat.le_refl _) HGM.out (by simp [Builtin.zeroCells]; omega)

end Go.Proofs.YtljgcjmelmpgoaaDoor
