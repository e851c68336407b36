/- A call's ending, told of equal values. -/
import Derived.WalkKit
namespace Go.Proofs.YtnjkongbccblaaaDoor
theorem c_val {v u : Value} (h : v = u) : Ending.returned v = .returned u := by rw [h]
theorem c_bool {a b : Bool} (h : a = b) : Ending.returned (.bool a) = .returned (.bool b) := by rw [h]
theorem c_int {k : IntKind} {a b : Int} (h : a = b) : Ending.returned (.int k a) = .returned (.int k b) := by rw [h]
end Go.Proofs.YtnjkongbccblaaaDoor
