/- The library's strconv.AppendInt at a parameter; own, param, rightParams, rightText. -/
import Derived.Test.YtnnjppgmadmmaaaDoorShelf
import Derived.Test.YtnnjppgmadmmaaaDoorSeqSmall
import Derived.Test.YtnnjppgmadmmaaaDoorParseConst
import Derived.Lib.LaidTab
import Derived.Test.YtnnjppgmadmmaaaDoorFlat
set_option maxRecDepth 100000
namespace Go.Proofs.YtnnjppgmadmmaaaDoor
open Go.RowKit
set_option linter.unusedVariables false
/-- strconv's table of the tens, as it is laid -/
def Tens (w : World) : Prop := Lib.TabIs Tryd.prog w "internal/strconv.uint64pow10" .u64 Lib.pow10Tab
theorem Tens.keep {w w' : World} (h : Tens w) (hb : Below w.heap.size w w') : Tens w' := Lib.tabBelow_of_tabIs h w' hb
theorem digits_dec : ∀ (k n : Nat), n < 10 ^ (k + 1) → Lib.byteCells (Lib.decDigits n) = u8s (PA.dec10F k n)
  | 0, n, h => by
    have hn : n < 10 := by simpa using h
    rw [Lib.decDigits_one hn]
    simp [Lib.byteCells, u8s, PA.dec10F]
    omega
  | k + 1, n, h => by
    unfold PA.dec10F
    split
    · rename_i hn
      rw [Lib.decDigits_one hn]
      simp [Lib.byteCells, u8s]
      omega
    · rename_i hn
      have ih := digits_dec k (n / 10) (by rw [Nat.pow_succ] at h; omega)
      rw [Lib.decDigits, dif_neg hn, Lib.byteCells_append, ih, u8s_app]
      congr 1
      simp [Lib.byteCells, u8s]
      omega
theorem itoa_dec {x : Int} (h0 : 0 ≤ x) (h1 : x ≤ 65535) : Lib.byteCells (Lib.itoa x) = u8s (PA.dec10 x.toNat) := by
  unfold Lib.itoa
  rw [if_neg (by omega)]
  exact digits_dec 20 x.toNat (Nat.lt_of_le_of_lt (show x.toNat ≤ 65535 by omega) (by decide))
theorem itoa_len {x : Int} (h0 : 0 ≤ x) (h1 : x ≤ 65535) : (Lib.itoa x).length = (PA.dec10 x.toNat).length := by
  have := congrArg List.length (itoa_dec h0 h1)
  simpa [u8s, Lib.byteCells] using this
/-- strconv.AppendInt of a parameter: its decimals behind what was there -/
theorem appendInt_any (B n : Nat) (x : Int) (h0 : 0 ≤ x) (h1 : x ≤ 65535) (v : Value) (xs : List Value) (w : World) (hown : w.ownsRow B 5 1 v n xs) (hB : B ≤ w.heap.size) (hn : n ≤ 1099511627776) (ht : ∀ w', Below B w w' → Tens w') :
    Calls Tryd.prog 54 #[v, .int .i64 x, .int .i64 10] w fun e w' => ∃ v', e = .returned v' ∧ w'.ownsRow B 5 1 v' (n + (PA.dec10 x.toNat).length) (xs ++ u8s (PA.dec10 x.toNat)) ∧ Below B w w' ∧ Lib.OthersKept 5 none w w' := by
  refine (Any.strconv_AppendInt_10 Tryd.laysM176 B n x (by omega) (by omega) v xs w hown hB (by omega) ht).mono ?_
  rintro e w' ⟨v', rfl, h2, h3, h4⟩
  rw [itoa_dec h0 h1, itoa_len h0 h1] at h2
  exact ⟨v', rfl, h2, h3, h4⟩
theorem gTens : Tryd.prog.globalNamed "internal/strconv.uint64pow10" = some 2 := by kernel_rfl
theorem tTens : (Tryd.prog.globals[2]?).map (·.type) = some 112 := by kernel_rfl
theorem tilesTens : tiled Tryd.prog 4 112 = true := by kernel_rfl
theorem flatTens : flat (H := Unit) Rows.laid_internal_strconv_uint64pow10 = some (Lib.pow10Tab.map fun z => Value.int .u64 z) := by kernel_rfl
theorem tens_laid {w : World} {l : List (String × DataW Unit)} (h : laidMet Tryd.prog l w) (hm : ("internal/strconv.uint64pow10", Rows.laid_internal_strconv_uint64pow10) ∈ l) : Tens w := by
  obtain ⟨t, ht⟩ := laid_flat_mem 4 gTens tTens tilesTens flatTens (by rw [show (Lib.pow10Tab.map fun z => Value.int .u64 z).length = 20 from by kernel_rfl]; omega) h hm
  unfold Tens Lib.TabIs World.var?
  rw [gTens]
  simp [ht]
end Go.Proofs.YtnnjppgmadmmaaaDoor
