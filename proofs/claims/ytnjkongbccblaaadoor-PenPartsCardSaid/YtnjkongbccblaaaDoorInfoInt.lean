/- What the type int is. -/
import Derived.Test.YtnjkongbccblaaaDoorLists
set_option maxRecDepth 100000
namespace Go.Proofs.YtnjkongbccblaaaDoor
theorem info_int9 : (Tryd.prog.info? 3).map (fun i => (i.zero, i.size, i.bytes)) = some (some (.int .i64 0), 1, 8) := by kernel_rfl
end Go.Proofs.YtnjkongbccblaaaDoor
