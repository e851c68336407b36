/- The contracts of the document's own Width and RightPen (P2.1, P2.2). -/
import Derived.Test.YtoffiekpmomfcaaDoorCellWidth
namespace Go.Proofs.YtoffiekpmomfcaaDoor
open Go.RowKit
set_option linter.unusedVariables false
end Go.Proofs.YtoffiekpmomfcaaDoor
