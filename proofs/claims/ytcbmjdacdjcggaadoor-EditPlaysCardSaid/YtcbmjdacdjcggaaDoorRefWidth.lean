/- The contracts of the document's own Width and RightPen (P2.1, P2.2). -/
import Derived.Test.YtcbmjdacdjcggaaDoorCellWidth
namespace Go.Proofs.YtcbmjdacdjcggaaDoor
open Go.RowKit
set_option linter.unusedVariables false
end Go.Proofs.YtcbmjdacdjcggaaDoor
