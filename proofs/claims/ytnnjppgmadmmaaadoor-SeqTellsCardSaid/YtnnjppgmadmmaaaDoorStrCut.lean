/- The beginning and the last byte of a string. Names no function of a program. -/
import Derived.Test.YtnnjppgmadmmaaaDoorStrConv
import Derived.Test.YtnnjppgmadmmaaaDoorSeqSame
set_option maxRecDepth 100000
namespace Go.Proofs.YtnnjppgmadmmaaaDoor
open Go.RowKit
theorem str_head (l : List Int) (n : Nat) : ((strOfNums l).extract 0 n).toList = (l.take n).map fun x => UInt8.ofNat x.toNat := by
  rw [ByteArray.toList_eq, ByteArray.data_extract, Array.toList_extract]
  simp [strOfNums, List.extract]
theorem str_at (l : List Int) (k : Nat) (x : Int) (hx : l[k]? = some x) (h0 : 0 ≤ x) (h1 : x < 256) (hk : k < (strOfNums l).size) : (((strOfNums l)[k]'hk).toNat : Int) = x := by
  have hl : k < l.length := (List.getElem?_eq_some_iff.1 hx).1
  have e : l[k] = x := by rw [List.getElem?_eq_getElem hl] at hx; exact Option.some.inj hx
  have : (strOfNums l)[k]'hk = UInt8.ofNat x.toNat := by
    show (strOfNums l).data[k]'hk = _
    simp [strOfNums, e]
  rw [this]
  simp
  omega
end Go.Proofs.YtnnjppgmadmmaaaDoor
