/- UtfTells: whatever bytes and runes, it answers true; it only makes new memory. -/
import Derived.Test.YtcbfibpomdhliaaTells00
import Derived.Test.YtcbfibpomdhliaaTells01
import Derived.Test.YtcbfibpomdhliaaTells10
import Derived.Test.YtcbfibpomdhliaaTells11
namespace Go.Proofs.Ytcbfibpomdhliaa
open Go.RowKit
theorem utfTells_any (A1 : Option Addr) (n1 c1 : Nat) (l1 : List Int) (A2 : Option Addr) (n2 c2 : Nat) (l2 : List Int) (w : World) (ha : Arg .u8 w A1 n1 c1 l1) (hb : Arg .i32 w A2 n2 c2 l2) :
    Calls Try.prog 4 #[.slice A1 n1 c1, .slice A2 n2 c2] w fun e w' => e = .returned (.bool true) ∧ Below w.heap.size w w' := by
  have h8 : ∀ x ∈ l1, 0 ≤ x ∧ x < 256 := fun x hx => by have := bounds_u8 (ha.wf x hx); omega
  have h3 : ∀ x ∈ l2, -2147483648 ≤ x ∧ x ≤ 2147483647 := fun x hx => bounds_i32 (hb.wf x hx)
  have hle := ha.le
  have hle2 := hb.le
  have t8 : 40 < n1 → Seen w w.heap.size A1 40 (u8s (l1.take 40)) := fun h => by have := ha.seen.take (k := 40) (by omega); rwa [← List.map_take] at this
  have t3 : 10 < n2 → Seen w w.heap.size A2 10 (i32s (l2.take 10)) := fun h => by have := hb.seen.take (k := 10) (by omega); rwa [← List.map_take] at this
  by_cases g1 : 40 < n1 <;> by_cases g3 : 10 < n2
  · exact tells11.main A1 n1 c1 (l1.take 40) A2 n2 c2 (l2.take 10) w g1 (by omega) g3 (by omega) (t8 g1) (fun x hx => h8 x (List.mem_of_mem_take hx)) (t3 g3) (fun x hx => h3 x (List.mem_of_mem_take hx))
  · exact tells10.main A1 n1 c1 (l1.take 40) A2 n2 c2 l2 w g1 (by omega) (by omega) hle2 (t8 g1) (fun x hx => h8 x (List.mem_of_mem_take hx)) hb.seen h3
  · exact tells01.main A1 n1 c1 l1 A2 n2 c2 (l2.take 10) w (by omega) hle g3 (by omega) ha.seen h8 (t3 g3) (fun x hx => h3 x (List.mem_of_mem_take hx))
  · exact tells00.main A1 n1 c1 l1 A2 n2 c2 l2 w (by omega) hle (by omega) hle2 ha.seen h8 hb.seen h3
end Go.Proofs.Ytcbfibpomdhliaa
