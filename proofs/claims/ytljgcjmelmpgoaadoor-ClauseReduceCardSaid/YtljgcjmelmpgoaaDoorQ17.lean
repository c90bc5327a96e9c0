/- The opposite of a literal. -/
import Derived.Test.YtljgcjmelmpgoaaDoorQ16
namespace Go.Proofs.YtljgcjmelmpgoaaDoor
open Go.RowKit
set_option linter.unusedVariables false

set_option maxHeartbeats 2000000 in
set_option maxRecDepth 100000 in
/-- the opposite of a literal -/
theorem opp_c (u : Int) (o : Bool) (w : World) :
    Calls Tryd.prog 17 #[.agg #[.int .i64 u, .bool o]] w fun e w' => e = .returned (.agg #[.int .i64 u, .bool (!o)]) ∧ Below w.heap.size w w' := by
  have BX : Hid (Below w.heap.size w ((w.alloc (.cells #[.int .i64 u, .bool o] 30)).alloc (.cells #[.int .i64 u, .bool (!o)] 30))) := Lib.hid (((Below.refl _ _).alloc (Nat.le_refl _) _).alloc (by rw [World.size_alloc]; omega) _)
  have X1 : ((w.alloc (.cells #[.int .i64 u, .bool o] 30)).alloc (.cells #[.int .i64 u, .bool (!o)] 30)).heap[w.heap.size + 1]? = some (.cells #[.int .i64 u, .bool (!o)] 30 (0, 0)) := by
    have h := heap_alloc_new (w.alloc (.cells #[.int .i64 u, .bool o] 30)) (.cells #[.int .i64 u, .bool (!o)] 30)
    rw [World.size_alloc] at h
    exact h
  have z0 : ((w.alloc (.cells #[.int .i64 u, .bool o] 30)).alloc (.cells #[.int .i64 u, .bool (!o)] 30)).cell? ⟨w.heap.size + 1, 0, none⟩ = some (.int .i64 u) := by rw [cell_of_row _ (w.heap.size + 1) 0 _ 30 (0, 0) X1]; rfl
  have z1 : ((w.alloc (.cells #[.int .i64 u, .bool o] 30)).alloc (.cells #[.int .i64 u, .bool (!o)] 30)).cell? ⟨w.heap.size + 1, 1, none⟩ = some (.bool (!o)) := by rw [cell_of_row _ (w.heap.size + 1) 1 _ 30 (0, 0) X1]; rfl
  clear X1
  have Z0 := Lib.hid z0
  have Z1 := Lib.hid z1
  clear z0 z1
  go_enter Tryd.func17, Tryd.ntmps17
  go_wp2
  have z0 := Z0.out
  have z1 := Z1.out
  refine bodyPost_ret (v := .agg #[.int .i64 u, .bool (!o)]) (by simp [results, Tryd.results17, go_sem, z0, z1]) rfl ⟨rfl, ?_⟩
  exact BX.out

set_option maxHeartbeats 2000000 in
set_option maxRecDepth 100000 in
/-- the opposite of a literal -/
theorem ropp_c (u : Int) (o : Bool) (w : World) :
    Calls Tryd.prog 18 #[.agg #[.int .i64 u, .bool o]] w fun e w' => e = .returned (.agg #[.int .i64 u, .bool (!o)]) ∧ Below w.heap.size w w' := by
  have BX : Hid (Below w.heap.size w ((w.alloc (.cells #[.int .i64 u, .bool o] 30)).alloc (.cells #[.int .i64 u, .bool (!o)] 30))) := Lib.hid (((Below.refl _ _).alloc (Nat.le_refl _) _).alloc (by rw [World.size_alloc]; omega) _)
  have X1 : ((w.alloc (.cells #[.int .i64 u, .bool o] 30)).alloc (.cells #[.int .i64 u, .bool (!o)] 30)).heap[w.heap.size + 1]? = some (.cells #[.int .i64 u, .bool (!o)] 30 (0, 0)) := by
    have h := heap_alloc_new (w.alloc (.cells #[.int .i64 u, .bool o] 30)) (.cells #[.int .i64 u, .bool (!o)] 30)
    rw [World.size_alloc] at h
    exact h
  have z0 : ((w.alloc (.cells #[.int .i64 u, .bool o] 30)).alloc (.cells #[.int .i64 u, .bool (!o)] 30)).cell? ⟨w.heap.size + 1, 0, none⟩ = some (.int .i64 u) := by rw [cell_of_row _ (w.heap.size + 1) 0 _ 30 (0, 0) X1]; rfl
  have z1 : ((w.alloc (.cells #[.int .i64 u, .bool o] 30)).alloc (.cells #[.int .i64 u, .bool (!o)] 30)).cell? ⟨w.heap.size + 1, 1, none⟩ = some (.bool (!o)) := by rw [cell_of_row _ (w.heap.size + 1) 1 _ 30 (0, 0) X1]; rfl
  clear X1
  have Z0 := Lib.hid z0
  have Z1 := Lib.hid z1
  clear z0 z1
  go_enter Tryd.func18, Tryd.ntmps18
  go_wp2
  have z0 := Z0.out
  have z1 := Z1.out
  refine bodyPost_ret (v := .agg #[.int .i64 u, .bool (!o)]) (by simp [results, Tryd.results18, go_sem, z0, z1]) rfl ⟨rfl, ?_⟩
  exact BX.out

end Go.Proofs.YtljgcjmelmpgoaaDoor
