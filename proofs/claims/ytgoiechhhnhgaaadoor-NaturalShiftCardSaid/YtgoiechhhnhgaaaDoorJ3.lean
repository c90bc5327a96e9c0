/- The law on shifts, its number from the reading. -/
import Derived.Test.YtgoiechhhnhgaaaDoorOpen
import Derived.Test.YtgoiechhhnhgaaaDoorJ2
namespace Go.Proofs.YtgoiechhhnhgaaaDoor
open Go.RowKit
theorem wf_i64 {n : Int} (h : (Lit.int .i64 n).wf = true) : -9223372036854775808 ≤ n ∧ n ≤ 9223372036854775807 := by
  simpa [Lit.wf, IntKind.min, IntKind.max, IntKind.signed, IntKind.bits] using h
theorem law_shift_i (aa : Option Addr) (na pa : Nat) (k : Int) (la : List Nat) (w : World) (ha : Rd w aa na pa la) (hk : (Lit.int .i64 k).wf = true) (hT : Tab w) : Calls Tryd.prog 8 #[.slice aa na pa, .int .i64 k] w (TPost w) :=
  law_shift aa na pa k la w ha (wf_i64 hk).1 (wf_i64 hk).2 hT
end Go.Proofs.YtgoiechhhnhgaaaDoor
