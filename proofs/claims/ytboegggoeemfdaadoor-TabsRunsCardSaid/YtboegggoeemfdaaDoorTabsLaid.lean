/- The table behind TrailingZeros64, as the row lists it. -/
import Derived.Test.YtboegggoeemfdaaDoorTabsFun
import Derived.Test.YtboegggoeemfdaaDoorFlat
import Derived.Test.YtboegggoeemfdaaDoorRows
set_option maxRecDepth 100000
namespace Go.Proofs.YtboegggoeemfdaaDoor
open Go.RowKit
theorem gBtab : Tryd.prog.globalNamed "math/bits.deBruijn64tab" = some 0 := by kernel_rfl
theorem tBtab : (Tryd.prog.globals[0]?).map (·.type) = some 40 := by kernel_rfl
theorem tilesBtab : tiled Tryd.prog 4 40 = true := by kernel_rfl
theorem flatBtab : flat (H := Unit) Rows.laid_math_bits_deBruijn64tab = some (Lib.deBruijn64tab.map fun z : Nat => Value.int .u8 (z : Int)) := by kernel_rfl
theorem btab_laid {w : World} {l : List (String × DataW Unit)} (h : laidMet Tryd.prog l w) (hm : ("math/bits.deBruijn64tab", Rows.laid_math_bits_deBruijn64tab) ∈ l) : BTab w := by
  have hl : (Lib.deBruijn64tab.map fun z : Nat => Value.int .u8 (z : Int)).length = 64 := by kernel_rfl
  obtain ⟨t, ht⟩ := laid_flat_mem 4 gBtab tBtab tilesBtab flatBtab (by rw [hl]; omega) h hm
  intro j hj
  rw [cell_of_row w _ j _ t (0, 0) ht, List.getElem?_toArray, List.getElem?_map, List.getD_eq_getElem?_getD, List.getElem?_eq_getElem hj]
  rfl
end Go.Proofs.YtboegggoeemfdaaDoor
