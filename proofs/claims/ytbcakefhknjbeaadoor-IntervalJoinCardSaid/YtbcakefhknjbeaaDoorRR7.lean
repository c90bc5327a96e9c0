/- Carried over from another seat by program (portn.py). -/
import Derived.Test.YtbcakefhknjbeaaDoorRR6
namespace Go.Proofs.YtbcakefhknjbeaaDoor
open Go.RowKit
set_option linter.unusedVariables false
end Go.Proofs.YtbcakefhknjbeaaDoor
