/- UtfCuts: whatever bytes and number, it answers true; it only makes new memory. -/
import Derived.Test.YtcbfibpomdhliaaCutsLong
import Derived.Test.YtcbfibpomdhliaaCutsShort
namespace Go.Proofs.Ytcbfibpomdhliaa
open Go.RowKit
theorem utfCuts_any (A1 : Option Addr) (n1 c1 : Nat) (l1 : List Int) (cut : Int) (w : World) (hb : Arg .u8 w A1 n1 c1 l1) (hcut : (Lit.int .i64 cut).wf = true) :
    Calls Try.prog 6 #[.slice A1 n1 c1, .int .i64 cut] w fun e w' => e = .returned (.bool true) ∧ Below w.heap.size w w' := by
  have h8 : ∀ x ∈ l1, 0 ≤ x ∧ x < 256 := fun x hx => by have := bounds_u8 (hb.wf x hx); omega
  have hle := hb.le
  by_cases h12 : 30 < n1
  · exact cutslong.main A1 n1 c1 (l1.take 30) cut w h12 (by omega) (by have := hb.seen.take (k := 30) (by omega); rwa [← List.map_take] at this) (fun x hx => h8 x (List.mem_of_mem_take hx)) (bounds_i64 hcut)
  · exact cutsshort.main A1 n1 c1 l1 cut w (by omega) hle hb.seen h8 (bounds_i64 hcut)
end Go.Proofs.Ytcbfibpomdhliaa
