/- Contracts of package cell's functions on pens. -/
import Derived.Test.YtnjkongbccblaaaDoorLib
import Derived.Test.YtnjkongbccblaaaDoorEnds
import Derived.Test.YtnjkongbccblaaaDoorCellSpec
import Derived.Test.YtnjkongbccblaaaDoorRows
import Derived.WalkSpells
import Derived.WalkLawsBesides
namespace Go.Proofs.YtnjkongbccblaaaDoor
open Go.RowKit
set_option linter.unusedVariables false
set_option maxHeartbeats 400000 in
theorem plain_any (w : World) : Calls Tryd.prog 18 #[] w fun e w' => e = .returned (.agg #[.int .i64 (-1), .int .i64 (-1), .int .i64 0]) ∧ w.alloc (.cells #[.int .i64 (-1), .int .i64 (-1), .int .i64 0] 23) = w' := by
  go_enter Tryd.func18, Tryd.ntmps18
  go_wp2
  exact bodyPost_ret (v := .agg #[.int .i64 (-1), .int .i64 (-1), .int .i64 0]) (by simp [results, Tryd.results18, go_sem]) rfl ⟨rfl, rfl⟩
end Go.Proofs.YtnjkongbccblaaaDoor
