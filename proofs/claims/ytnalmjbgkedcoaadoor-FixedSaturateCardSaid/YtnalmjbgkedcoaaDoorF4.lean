/- Scale at the example. -/
import Derived.Test.YtnalmjbgkedcoaaDoorF1
import Derived.Deep.RegionHeld3
import Derived.Deep.Cut
namespace Go.Proofs.YtnalmjbgkedcoaaDoor.fx
open Go.RowKit
set_option linter.unusedVariables false

set_option linter.unusedSimpArgs false
theorem mul64_73 (w : World) : Calls Tryd.prog 35 #[.int .u64 7, .int .u64 3] w fun e w' => e = .returned (.tuple #[.int .u64 0, .int .u64 21]) ∧ w' = w := by
  have a1 : bits .and .u64 7 4294967295 = 7 := by decide
  have a2 : bits .and .u64 3 4294967295 = 3 := by decide
  have a3 : bits .and .u64 0 4294967295 = 0 := by decide
  go_enter Tryd.func35, Tryd.ntmps35
  go_wp2
  refine bodyPost_ret (results_tmp2 rfl _ _ _) rfl ?_
  exact ⟨rfl, rfl⟩
theorem size_m7 (w : World) : Calls Tryd.prog 36 #[.int .i64 (-7)] w fun e w' => e = .returned (.int .u64 7) ∧ w' = w := by
  go_enter Tryd.func36, Tryd.ntmps36
  go_wp2
  refine bodyPost_ret (results_tmp rfl _ _ _) rfl ?_
  exact ⟨rfl, rfl⟩
theorem size_nn (a : Int) (w : World) (h0 : 0 ≤ a) (h1 : a ≤ 9223372036854775807) : Calls Tryd.prog 36 #[.int .i64 a] w fun e w' => e = .returned (.int .u64 a) ∧ w' = w := by
  go_enter Tryd.func36, Tryd.ntmps36
  go_wp2
  refine bodyPost_ret (results_tmp rfl _ _ _) rfl ?_
  exact ⟨rfl, rfl⟩

end Go.Proofs.YtnalmjbgkedcoaaDoor.fx
