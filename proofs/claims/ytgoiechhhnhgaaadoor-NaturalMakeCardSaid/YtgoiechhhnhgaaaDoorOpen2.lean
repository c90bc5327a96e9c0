/- Laws of layer 1 with numbers among their arguments. -/
import Derived.Test.YtgoiechhhnhgaaaDoorOpen
namespace Go.Proofs.YtgoiechhhnhgaaaDoor
open Go.RowKit
theorem law_make_i (aa : Option Addr) (na pa : Nat) (x : Int) (la : List Nat) (w : World) (ha : Rd w aa na pa la) (hx : (Lit.int .u64 x).wf = true) (hT : Tab w) : Calls Tryd.prog 3 #[.slice aa na pa, .int .u64 x] w (TPost w) := by
  have := wf_u64 hx
  obtain ⟨n, rfl⟩ : ∃ n : Nat, x = n := ⟨x.toNat, by omega⟩
  exact law_make aa na pa n la w ha (by omega) hT
end Go.Proofs.YtgoiechhhnhgaaaDoor
