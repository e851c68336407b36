/- CellRuns: chapter 2's runs. -/
import Derived.Test.YtcadaeidcdnldaaDoorCellWidth
import Derived.Test.YtcadaeidcdnldaaDoorCellPack
namespace Go.Proofs.YtcadaeidcdnldaaDoor
open Go.RowKit
set_option linter.unusedVariables false
theorem width_is (r v : Int) (hv : C.width r = v) (w : World) (hr0 : -2147483648 ≤ r) (hr1 : r ≤ 2147483647) (hs : Spans w) :
    Calls Tryd.prog 8 #[.int .i32 r] w fun e w' => e = .returned (.int .i64 v) ∧ Below w.heap.size w w' := by
  subst hv
  exact width_any r w hr0 hr1 hs
theorem pack_is (f b g v : Int) (hv : C.pack f b g = v) (w : World) : Calls Tryd.prog 9 #[.agg #[.int .i64 f, .int .i64 b, .int .i64 g]] w fun e w' => e = .returned (.int .u64 v) ∧ Below w.heap.size w w' := by
  subst hv
  exact pack_any f b g w
theorem plain_is (w : World) : Calls Tryd.prog 10 #[] w fun e w' => e = .returned (.agg #[.int .i64 (-1), .int .i64 (-1), .int .i64 0]) ∧ Below w.heap.size w w' := by
  refine (plain_any w).mono ?_
  rintro e w' ⟨he, rfl⟩
  exact ⟨he, (Below.refl _ _).alloc (Nat.le_refl _) _⟩
theorem right_be (f b g : Int) (r : Bool) (h : C.right f b g = r) (w : World) : Calls Tryd.prog 11 #[.agg #[.int .i64 f, .int .i64 b, .int .i64 g]] w fun e w' => e = .returned (.bool r) ∧ Below w.heap.size w w' := by
  refine (right_is f b g r h w).mono ?_
  rintro e w' ⟨he, rfl⟩
  exact ⟨he, (Below.refl _ _).alloc (Nat.le_refl _) _⟩
theorem cell_rune (a b c d e : Value) (w : World) : (Instr.field 30 (.agg #[a, b, c, d, e]) 0).run Tryd.prog w = .ok a w := by kernel_rfl
theorem cell_kind (a b c d e : Value) (w : World) : (Instr.field 30 (.agg #[a, b, c, d, e]) 1).run Tryd.prog w = .ok b w := by kernel_rfl
theorem cell_pen (a b c d e : Value) (w : World) : (Instr.field 30 (.agg #[a, b, c, d, e]) 2).run Tryd.prog w = .ok (.agg #[c, d, e]) w := by kernel_rfl
theorem run_w1 : C.width 97 = 1 := by decide
theorem run_w2 : C.width 19968 = 2 := by decide
theorem run_w3 : C.width 769 = 0 := by decide
theorem run_p : C.pack (-1) (-1) 0 = 0 := by decide
theorem run_r : C.right (-1) (-1) 0 = true := by decide
set_option maxHeartbeats 1000000 in
theorem cellRuns_any (w : World) (hs : Spans w) : Calls Tryd.prog 3 #[] w fun e w' => e = .returned (.bool true) ∧ Below w.heap.size w w' := by
  have fl := cell_rune
  go_enter Tryd.func3, Tryd.ntmps3
  go_wp2_with fail
  refine (width_is 97 1 run_w1 _ (by omega) (by omega) hs).mono ?_
  rintro e w1 ⟨rfl, b1⟩
  have s1 := hs.keep b1
  go_wp2_with fail
  refine (width_is 19968 2 run_w2 _ (by omega) (by omega) s1).mono ?_
  rintro e w2 ⟨rfl, c⟩
  have b2 := b1.trans (c.mono b1.size)
  have s2 := hs.keep b2
  clear c b1 s1
  go_wp2_with fail
  refine (width_is 769 0 run_w3 _ (by omega) (by omega) s2).mono ?_
  rintro e w3 ⟨rfl, c⟩
  have b3 := b2.trans (c.mono b2.size)
  clear c b2 s2
  go_wp2_with fail
  refine (plain_is _).mono ?_
  rintro e w4 ⟨rfl, c⟩
  have b4 := b3.trans (c.mono b3.size)
  clear c b3
  go_wp2_with fail
  refine (pack_is _ _ _ 0 run_p _).mono ?_
  rintro e w5 ⟨rfl, c⟩
  have b5 := b4.trans (c.mono b4.size)
  clear c b4
  go_wp2_with fail
  refine (plain_is _).mono ?_
  rintro e w6 ⟨rfl, c⟩
  have b6 := b5.trans (c.mono b5.size)
  clear c b5
  go_wp2_with fail
  refine (right_be _ _ _ true run_r _).mono ?_
  rintro e w7 ⟨rfl, c⟩
  have b7 := b6.trans (c.mono b6.size)
  clear c b6
  go_wp2_with fail
  refine (plain_is _).mono ?_
  rintro e w8 ⟨rfl, c⟩
  have b8 := b7.trans (c.mono b7.size)
  clear c b7
  go_wp2_with fail
  refine (blank_any _ _ _ _).mono ?_
  rintro e w9 ⟨rfl, c⟩
  have b9 := b8.trans (c.mono b8.size)
  clear c b8
  go_wp2_with fail
  go_ret
  exact ⟨rfl, b9⟩
end Go.Proofs.YtcadaeidcdnldaaDoor
