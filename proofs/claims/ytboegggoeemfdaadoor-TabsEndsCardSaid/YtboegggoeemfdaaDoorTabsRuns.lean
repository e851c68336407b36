/- TabsRuns: chapter 9's runs. -/
import Derived.Test.YtboegggoeemfdaaDoorTabsList
import Derived.Test.YtboegggoeemfdaaDoorSame64
import Derived.Test.YtboegggoeemfdaaDoorTabsLaid
set_option maxRecDepth 100000
namespace Go.Proofs.YtboegggoeemfdaaDoor
open Go.RowKit
set_option linter.unusedVariables false
theorem BTab.keep {w w' : World} (h : BTab w) (hb : Below w.heap.size w w') : BTab w' := fun j hj => by
  have hc := h j hj
  rw [← hc]
  exact World.cell?_of_block (hb.block _ (World.block_lt_of_cell? w _ hc))
theorem BTab.drewN {w : World} (h : BTab w) (k : Nat) : BTab (w.drewN k) := h
theorem below_drewN {B : Nat} {a w : World} (h : Below B a w) (k : Nat) : Below B a (w.drewN k) := ⟨h.os, h.tape, h.output, h.size, h.block⟩
theorem BTab.alloc {w : World} (h : BTab w) (o : Obj) : BTab (w.alloc o) := h.keep ((Below.refl _ _).alloc (Nat.le_refl _) _)
set_option maxHeartbeats 2000000 in
theorem tabsRuns_any (w : World) (hT : BTab w) : Calls Tryd.prog 3 #[] w fun e w' => e = .returned (.bool true) ∧ Below w.heap.size w w' := by
  have HT := hide hT
  have N20 := hide fun w' => new_is 20 65792 (by decide) w' (by omega) (by omega)
  have L20 := hide fun w' => list_any 65792 w' (by unfold TB.Ok; omega)
  have E20 : TB.list 65792 = [8, 16] := by decide
  rw [E20] at L20
  have X1 := hide fun w' h => next_is9 65792 8 20 16 (by decide) w' (by unfold TB.Ok; omega) h (by omega) (by omega) (by omega)
  have X2 := hide fun w' h => next_is9 65792 16 20 19 (by decide) w' (by unfold TB.Ok; omega) h (by omega) (by omega) (by omega)
  have X3 := hide fun w' => has_is 65792 9 false (by decide) w' (by unfold TB.Ok; omega) (by omega) (by omega)
  clear hT E20
  go_enter Tryd.func3, Tryd.ntmps3
  go_wp2_with fail
  refine (N20.out _).mono ?_
  rintro e w1 ⟨rfl, rfl⟩
  go_wp2_with fail
  refine (L20.out _).mono ?_
  rintro e w1 ⟨v, rfl, hv, b1⟩
  obtain ⟨A, c, rfl, _, _, _⟩ := own_form hv
  have S1 := hide ((Seen.of_own hv).alloc (Nat.le_refl _) (.cells #[.int .i64 8, .int .i64 16] 3))
  have B1 := hide b1
  have T1 := hide (HT.out.keep b1)
  clear hv b1
  go_wp2_with fail
  refine (same_i64 [8, 16] A (some ⟨w1.heap.size, 0, none⟩) w1.heap.size (w1.heap.size + 1) _ c 2 2 _ (by exact S1.out) (Seen.fresh (t := 3) (cs := #[.int .i64 8, .int .i64 16]) rfl rfl rfl rfl) (by simp)).mono ?_
  rintro e w2 ⟨rfl, q, rfl⟩
  have T2 := hide ((T1.out.alloc (.cells #[.int .i64 8, .int .i64 16] 3)).drewN q)
  have B2 := hide (below_drewN (B1.out.alloc B1.out.size (.cells #[.int .i64 8, .int .i64 16] 3)) q)
  clear S1
  generalize (w1.alloc (.cells #[.int .i64 8, .int .i64 16] 3)).drewN q = w3 at T2 B2 ⊢
  go_wp2_with fail
  refine (X1.out _ T2.out).mono ?_
  rintro e w4 ⟨rfl, rfl⟩
  go_wp2_with fail
  refine (X2.out _ T2.out).mono ?_
  rintro e w4 ⟨rfl, rfl⟩
  go_wp2_with fail
  refine (X3.out _).mono ?_
  rintro e w4 ⟨rfl, rfl⟩
  go_wp2_with fail
  go_ret
  exact ⟨rfl, B2.out⟩
end Go.Proofs.YtboegggoeemfdaaDoor
