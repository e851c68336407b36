/- The contract of package grid's own Resize. -/
import Derived.Test.YtcbmjdacdjcggaaDoorGridPure
set_option maxRecDepth 100000
namespace Go.Proofs.YtcbmjdacdjcggaaDoor
open Go.RowKit
set_option linter.unusedVariables false
end Go.Proofs.YtcbmjdacdjcggaaDoor
