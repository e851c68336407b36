/- The contracts of package pen's small functions. -/
import Derived.Test.YtnjkongbccblaaaDoorRefPen10
import Derived.Test.YtnjkongbccblaaaDoorFlat
import Derived.Test.YtnjkongbccblaaaDoorRows
import Derived.Test.YtnjkongbccblaaaDoorCellPack
import Derived.Test.YtnjkongbccblaaaDoorReg
import Derived.Test.YtnjkongbccblaaaDoorCases
import Derived.BigQuiet
set_option maxRecDepth 100000
namespace Go.Proofs.YtnjkongbccblaaaDoor
open Go.RowKit
set_option linter.unusedVariables false
/-- the table of flags is as the program's text lays it -/
def flagCells : Array Value := #[.int .i64 0, .int .i64 1, .int .i64 2, .int .i64 4, .int .i64 8, .int .i64 16, .int .i64 0, .int .i64 32, .int .i64 64, .int .i64 128]
def FlagT (w : World) : Prop := ∃ t, w.heap[0]? = some (.cells flagCells t (0, 0))
theorem FlagT.lt {w : World} (h : FlagT w) : 0 < w.heap.size := by
  obtain ⟨t, h⟩ := h
  exact (Array.getElem?_eq_some_iff.1 h).1
theorem FlagT.keep {w w' : World} (h : FlagT w) (hb : Below w.heap.size w w') : FlagT w' := by
  have hl := h.lt
  obtain ⟨t, h⟩ := h
  exact ⟨t, (hb.block _ hl).trans h⟩
theorem FlagT.kept {w w' : World} {B : Nat} (h : FlagT w) (hb : Below B w w') (hB : 0 < B) : FlagT w' := by
  obtain ⟨t, h⟩ := h
  exact ⟨t, (hb.block _ hB).trans h⟩
theorem FlagT.alloc {w : World} (h : FlagT w) (o : Obj) : FlagT (w.alloc o) := h.keep ((Below.refl _ _).alloc (Nat.le_refl _) o)
theorem gFlags : Tryd.prog.globalNamed "linguist/pen.flags" = some 0 := by kernel_rfl
theorem tFlags : (Tryd.prog.globals[0]?).map (·.type) = some 44 := by kernel_rfl
theorem tilesFlags : tiled Tryd.prog 4 44 = true := by kernel_rfl
theorem flatFlags : flat (H := Unit) Rows.laid_linguist_pen_flags = some flagCells.toList := by rfl
theorem flags_laid {w : World} {l : List (String × DataW Unit)} (h : laidMet Tryd.prog l w) (hm : ("linguist/pen.flags", Rows.laid_linguist_pen_flags) ∈ l) : FlagT w := by
  obtain ⟨t, ht⟩ := laid_flat_mem 4 gFlags tFlags tilesFlags flatFlags (by simp [flagCells]) h hm
  exact ⟨t, by simpa using ht⟩
theorem flags_at {w : World} (h : FlagT w) (k : Nat) (hk : k < 10) : w.cell? ⟨0, k, none⟩ = some (.int .i64 (PS.flagOf k : Nat)) := by
  obtain ⟨t, h⟩ := h
  rw [cell_of_row w _ k _ t (0, 0) h]
  obtain rfl | rfl | rfl | rfl | rfl | rfl | rfl | rfl | rfl | rfl : k = 0 ∨ k = 1 ∨ k = 2 ∨ k = 3 ∨ k = 4 ∨ k = 5 ∨ k = 6 ∨ k = 7 ∨ k = 8 ∨ k = 9 := by omega
  all_goals rfl
theorem flag_index (w : World) (k : Nat) (hk : k < 10) : (Instr.index 44 (.agg flagCells) (.int .i64 (k : Int))).run Tryd.prog w = .ok (.int .i64 (PS.flagOf k : Nat)) w := by
  obtain rfl | rfl | rfl | rfl | rfl | rfl | rfl | rfl | rfl | rfl : k = 0 ∨ k = 1 ∨ k = 2 ∨ k = 3 ∨ k = 4 ∨ k = 5 ∨ k = 6 ∨ k = 7 ∨ k = 8 ∨ k = 9 := by omega
  all_goals kernel_rfl
theorem meant_is (x : Int) (n : Nat) (hn : PS.pos x = n) (h0 : -1 ≤ x) (w : World) : Calls Tryd.prog 19 #[.int .i64 x] w fun e w' => e = .returned (.int .i64 (n : Nat)) ∧ w = w' := by
  unfold PS.pos at hn
  by_cases h : x = -1
  · subst h
    obtain rfl : n = 0 := by omega
    clear hn
    go_enter Tryd.func19, Tryd.ntmps19
    go_wp2
    go_ret
    exact ⟨rfl, rfl⟩
  · have q : (x == -1) = false := by simp; omega
    obtain rfl : x = (n : Int) := by omega
    clear hn h h0
    go_enter Tryd.func19, Tryd.ntmps19
    go_wp2
    go_ret
    exact ⟨rfl, rfl⟩
theorem isPart_is (n : Nat) (b : Bool) (hb : decide (n ≤ 255) = b) (hn : n ≤ 9223372036854775807) (w : World) : Calls Tryd.prog 25 #[.int .i64 (n : Nat)] w fun e w' => e = .returned (.bool b) ∧ w = w' := by
  have e1 : IntKind.u8.wrap (n : Int) = ((n % 256 : Nat) : Int) := by rw [IntKind.wrap_u8]; omega
  have e2 : IntKind.i64.wrap ((n % 256 : Nat) : Int) = ((n % 256 : Nat) : Int) := IntWalk.i64_in _ (by omega)
  have e3 : (((n % 256 : Nat) : Int) == (n : Int)) = b := by
    rw [← hb, Bool.eq_iff_iff]
    simp
    omega
  have E1 := hide e1
  have E2 := hide e2
  have E3 := hide e3
  clear e1 e2 e3 hb
  go_enter Tryd.func25, Tryd.ntmps25
  go_wp2_with (simp only [E1.out, E2.out])
  go_ret
  exact ⟨c_bool (by first | exact E3.out | (rw [E1.out]; exact E3.out) | (rw [E1.out, E2.out]; exact E3.out)), rfl⟩
/-- a colour's byte -/
theorem part_is (c k : Nat) (z : Nat) (hz : c / 2 ^ k % 256 = z) (hc : c < 33554432) (hk : k ≤ 16) (w : World) : Calls Tryd.prog 29 #[.int .i64 (c : Nat), .int .i64 (k : Nat)] w fun e w' => e = .returned (.int .i64 (z : Nat)) ∧ w = w' := by
  have hp : 0 < 2 ^ k := Nat.two_pow_pos k
  have hd : c / 2 ^ k ≤ c := Nat.div_le_self _ _
  have e0 : ((c : Int) / 2 ^ k) = ((c / 2 ^ k : Nat) : Int) := by rw [Int.natCast_ediv, Int.natCast_pow]; rfl
  have e1 : ((c : Int) / 2 ^ k) % 256 = (z : Int) := by rw [e0]; omega
  have E1 := hide e1
  clear e0 e1 hz hp hd
  go_enter Tryd.func29, Tryd.ntmps29
  go_wp2
  go_ret
  exact ⟨c_int E1.out, rfl⟩
/-- a colour's parameter -/
def colI (c : Int) (n s : Nat) : Int := if s ≤ n ∧ n < s + 8 then (n : Int) - s else if n = s + 9 then -1 else if s + 60 ≤ n ∧ n < s + 68 then (n : Int) - s - 52 else c
theorem colored_is (c : Int) (n s : Nat) (hs : s = 30 ∨ s = 40) (hn : n ≤ 9223372036854775807) (z : Int) (hz : colI c n s = z) (w : World) : Calls Tryd.prog 28 #[.int .i64 c, .int .i64 (n : Nat), .int .i64 (s : Nat)] w fun e w' => e = .returned (.int .i64 z) ∧ w = w' := by
  subst hz
  unfold colI
  have cs : n < s ∨ (s ≤ n ∧ n < s + 8) ∨ n = s + 8 ∨ n = s + 9 ∨ (s + 10 ≤ n ∧ n < s + 60) ∨ (s + 60 ≤ n ∧ n < s + 68) ∨ s + 68 ≤ n := by omega
  rcases cs with h | h | h | h | h | h | h
  · rw [if_neg (by omega), if_neg (by omega), if_neg (by omega)]
    have q : ((n : Int) == (s : Int) + 9) = false := by simp; omega
    rcases hs with rfl | rfl
    all_goals
      go_enter Tryd.func28, Tryd.ntmps28
      go_wp2
      go_ret
      exact ⟨rfl, rfl⟩
  · rw [if_pos (by omega)]
    rcases hs with rfl | rfl
    all_goals
      go_enter Tryd.func28, Tryd.ntmps28
      go_wp2
      go_ret
      exact ⟨c_int (by omega), rfl⟩
  · rw [if_neg (by omega), if_neg (by omega), if_neg (by omega)]
    subst h
    rcases hs with rfl | rfl
    all_goals
      go_enter Tryd.func28, Tryd.ntmps28
      go_wp2
      go_ret
      exact ⟨rfl, rfl⟩
  · rw [if_neg (by omega), if_pos (by omega)]
    subst h
    rcases hs with rfl | rfl
    all_goals
      go_enter Tryd.func28, Tryd.ntmps28
      go_wp2
      go_ret
      exact ⟨rfl, rfl⟩
  · rw [if_neg (by omega), if_neg (by omega), if_neg (by omega)]
    have q : ((n : Int) == (s : Int) + 9) = false := by simp; omega
    rcases hs with rfl | rfl
    all_goals
      go_enter Tryd.func28, Tryd.ntmps28
      go_wp2
      go_ret
      exact ⟨rfl, rfl⟩
  · rw [if_neg (by omega), if_neg (by omega), if_pos (by omega)]
    have q : ((n : Int) == (s : Int) + 9) = false := by simp; omega
    rcases hs with rfl | rfl
    all_goals
      go_enter Tryd.func28, Tryd.ntmps28
      go_wp2
      go_ret
      exact ⟨c_int (by omega), rfl⟩
  · rw [if_neg (by omega), if_neg (by omega), if_neg (by omega)]
    have q : ((n : Int) == (s : Int) + 9) = false := by simp; omega
    rcases hs with rfl | rfl
    all_goals
      go_enter Tryd.func28, Tryd.ntmps28
      go_wp2
      go_ret
      exact ⟨rfl, rfl⟩
/-- the flags that a parameter from 22 to 29 takes away -/
def tak (n : Nat) : Nat := if n = 22 then 3 else PS.flagOf (n - 20)
theorem tak_lt (n : Nat) : tak n < 256 := by
  unfold tak
  split
  · omega
  · exact PS.flag_lt _
theorem takenBy_is (n z : Nat) (hz : tak n = z) (h0 : 22 ≤ n) (h1 : n ≤ 29) (w : World) (hF : FlagT w) : Calls Tryd.prog 27 #[.int .i64 (n : Nat)] w fun e w' => e = .returned (.int .i64 (z : Nat)) ∧ w = w' := by
  subst hz
  unfold tak
  by_cases h : n = 22
  · subst h
    rw [if_pos rfl]
    go_enter Tryd.func27, Tryd.ntmps27
    go_wp2
    go_ret
    exact ⟨rfl, rfl⟩
  · rw [if_neg h]
    obtain ⟨k, rfl⟩ : ∃ k, n = k + 20 := ⟨n - 20, by omega⟩
    rw [show k + 20 - 20 = k by omega]
    have hc := flags_at hF k (by omega)
    have q : (((k + 20 : Nat) : Int) == 22) = false := by simp; omega
    have e : ((k + 20 : Nat) : Int) - 20 = (k : Int) := by omega
    generalize PS.flagOf k = f at hc
    go_enter Tryd.func27, Tryd.ntmps27
    go_wp2_with (simp only [e])
    go_ret
    exact ⟨rfl, rfl⟩
end Go.Proofs.YtnjkongbccblaaaDoor
