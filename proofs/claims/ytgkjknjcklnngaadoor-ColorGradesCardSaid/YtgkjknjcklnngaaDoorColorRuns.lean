/- ColorRuns: chapter 3's runs. -/
import Derived.Test.YtgkjknjcklnngaaDoorColorFar
namespace Go.Proofs.YtgkjknjcklnngaaDoor
open Go.RowKit
set_option linter.unusedVariables false
theorem run_mk : CO.mk 250 10 10 = 33163786 := by decide
theorem run_n16 : CO.near 33163786 16 = 9 := by decide +kernel
theorem run_n8 : CO.near 33163786 8 = 1 := by decide +kernel
theorem run_l1 : CO.lower 3 8 = 3 := by decide
theorem run_l2 : CO.lower 200 0 = -1 := by decide
set_option maxHeartbeats 1000000 in
theorem colorRuns_any (w : World) (ht : Tab w) : Calls Tryd.prog 3 #[] w fun e w' => e = .returned (.bool true) ∧ Below w.heap.size w w' := by
  have HT := hide ht
  clear ht
  go_enter Tryd.func3, Tryd.ntmps3
  go_wp2_with fail
  refine (of_is 250 10 10 _ run_mk _).mono ?_
  rintro e w' ⟨rfl, rfl⟩
  go_wp2_with fail
  refine (nearest_is _ _ _ run_n16 _ HT.out).mono ?_
  rintro e w1 ⟨rfl, b1⟩
  go_wp2_with fail
  refine (nearest_is _ _ _ run_n8 _ (HT.out.keep b1)).mono ?_
  rintro e w2 ⟨rfl, c⟩
  have b2 := b1.trans (c.mono b1.size)
  clear c b1
  go_wp2_with fail
  refine (lower_is _ _ _ run_l1 _ (HT.out.keep b2)).mono ?_
  rintro e w3 ⟨rfl, c⟩
  have b3 := b2.trans (c.mono b2.size)
  clear c b2
  go_wp2_with fail
  refine (lower_is _ _ _ run_l2 _ (HT.out.keep b3)).mono ?_
  rintro e w4 ⟨rfl, c⟩
  have b4 := b3.trans (c.mono b3.size)
  clear c b3
  go_wp2_with fail
  go_ret
  exact ⟨rfl, b4⟩
end Go.Proofs.YtgkjknjcklnngaaDoor
