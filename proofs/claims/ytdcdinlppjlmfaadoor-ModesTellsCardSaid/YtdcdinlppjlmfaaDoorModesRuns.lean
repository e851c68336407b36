/- ModesRuns: chapter 13's runs. (written by tools/genmodesruns.py) -/
import Derived.Test.YtdcdinlppjlmfaaDoorModesUse
import Derived.Test.YtdcdinlppjlmfaaDoorSame64
import Derived.Deep.DeepCutAuto
set_option maxRecDepth 100000
namespace Go.Proofs.YtdcdinlppjlmfaaDoor
open Go Go.RowKit
set_option linter.unusedVariables false
set_option maxHeartbeats 8000000 in
theorem modesRuns_any (w : World) (hmt : MTab w) : Calls Tryd.prog 3 #[] w fun e w' => e = .returned (.bool true) ∧ Below w.heap.size w w' := by
  have NW := hide (fun w' => snew_is 2 2 2 2 rfl rfl (by omega) (by omega) w')
  have R0 : SN.RightS (SN.full 2 2) := SN.right_full (by decide) (by decide) (by decide) (by decide)
  have MS := hide (fun w' v h => mset_is (SN.full 2 2) v 25 false w' R0 h)
  obtain ⟨T, hT⟩ : ∃ T, SN.modeS (SN.full 2 2) 25 false = T := ⟨_, rfl⟩
  have RT : SN.RightS T := hT ▸ SN.right_mode R0 25 false
  have e1 : T.shown = false := by rw [← hT]; rfl
  have e2 : SN.reportS T 25 = 2 := by rw [← hT]; rfl
  have e3 : SN.reportS T 9 = 0 := by rw [← hT]; rfl
  have e4 : SN.reportS T 7 = 1 := by rw [← hT]; rfl
  rw [hT] at MS
  have M25 := hide (fun w' v (hb : Below w.heap.size w w') h => mreport_is T v 25 w' (hmt.keep hb) h)
  have M9 := hide (fun w' v (hb : Below w.heap.size w w') h => mreport_is T v 9 w' (hmt.keep hb) h)
  have M7 := hide (fun w' v (hb : Below w.heap.size w w') h => mreport_is T v 7 w' (hmt.keep hb) h)
  rw [e2] at M25
  rw [e3] at M9
  rw [e4] at M7
  have E1 := hide e1
  have MA := hide (fun w' (hb : Below w.heap.size w w') => mall_is w' (hmt.keep hb))
  have LO0 := hide (Below.refl w.heap.size w)
  clear R0 hT RT e1 e2 e3 e4 hmt
  go_enter Tryd.func3, Tryd.ntmps3
  go_wp2_with fail
  refine (NW.out _).mono ?_
  rintro e wb0 ⟨v0, rfl, hi0, hb0⟩
  have LO1 := hide (LO0.out.trans (hb0.mono LO0.out.size))
  clear LO0 hb0
  go_wp2_with fail
  refine (MS.out _ _ hi0).mono ?_
  clear hi0
  rintro e wb1 ⟨v1, rfl, ⟨x1, rfl, hg1⟩, hb1⟩
  have LO2 := hide (LO1.out.trans (hb1.mono LO1.out.size))
  clear LO1 hb1
  obtain ⟨A1, c1, rfl⟩ := gv_slice hg1
  have HGs1 := hide hg1
  clear hg1
  go_upto_region 2 with (first | (refine wpList_alloc_scr rfl rfl ?_; intro gs wags csgs hBgs hzgs hbgs hlgs) | (refine wpList_store_scr hBgs hzgs rfl _ _ rfl rfl rfl rfl ?_; intro wsgs hSgs hkgs hqgs))
  have le_gs : w.heap.size ≤ gs := by have := LO2.out.size; omega
  have HGs2 := hide (HGs1.out.low hbgs)
  have LO3 := hide (LO2.out.trans (hbgs.mono LO2.out.size))
  clear HGs1 LO2 hbgs
  have HGs3 := hide (HGs2.out.kept hBgs (by decide) hkgs)
  have LO4 := hide (LO3.out.trans (hkgs.toBelow LO3.out.size (fun k hh => by simp at hh; omega)))
  clear HGs2 LO3
  have HSs1 := hide hSgs
  clear hSgs hkgs hBgs hlgs
  have k_gs_17 := (show _ = some (.bool false : Value) from (HSs1.out.c17).trans (by first | (rw [E1.out]; done) | (rw [E1.out]; rfl)))
  go_wp2_with (first | (refine wpList_load_scrG HSs1.out _ rfl (by rfl) rfl ?_))
  clear k_gs_17
  refine (M25.out _ _ LO4.out ⟨_, rfl, HGs3.out⟩).mono ?_
  rintro e wr2 ⟨rfl, hr2⟩
  have HSs2 := hide (HSs1.out.below hr2 HSs1.out.lt)
  have HGs4 := hide (HGs3.out.low hr2)
  have LO5 := hide (LO4.out.trans (hr2.mono LO4.out.size))
  clear HSs1 HGs3 LO4 hr2
  go_wp2_with (first | (refine wpList_load_scrG HSs2.out _ rfl (by rfl) rfl ?_))
  refine (M9.out _ _ LO5.out ⟨_, rfl, HGs4.out⟩).mono ?_
  rintro e wr3 ⟨rfl, hr3⟩
  have HSs3 := hide (HSs2.out.below hr3 HSs2.out.lt)
  have HGs5 := hide (HGs4.out.low hr3)
  have LO6 := hide (LO5.out.trans (hr3.mono LO5.out.size))
  clear HSs2 HGs4 LO5 hr3
  go_wp2_with (first | (refine wpList_load_scrG HSs3.out _ rfl (by rfl) rfl ?_))
  refine (M7.out _ _ LO6.out ⟨_, rfl, HGs5.out⟩).mono ?_
  rintro e wr4 ⟨rfl, hr4⟩
  have HSs4 := hide (HSs3.out.below hr4 HSs3.out.lt)
  have HGs6 := hide (HGs5.out.low hr4)
  have LO7 := hide (LO6.out.trans (hr4.mono LO6.out.size))
  clear HSs3 HGs5 LO6 hr4
  go_wp2_with fail
  refine (MA.out _ LO7.out).mono ?_
  rintro e wl ⟨Al, cl, rfl, hsl, hbl⟩
  have HSs5 := hide (HSs4.out.below hbl HSs4.out.lt)
  have HGs7 := hide (HGs6.out.low hbl)
  have LO8 := hide (LO7.out.trans (hbl.mono LO7.out.size))
  clear HSs4 HGs6 LO7 hbl
  have S1 := hide (hsl.alloc (Nat.le_refl _) (.cells #[.int .i64 1, .int .i64 6, .int .i64 7, .int .i64 25] 3))
  clear hsl
  go_wp2_with fail
  refine (same_i64 [1, 6, 7, 25] Al (some ⟨wl.heap.size, 0, none⟩) wl.heap.size (wl.heap.size + 1) _ cl 4 4 _ (by exact S1.out) (Seen.fresh (t := 3) (cs := #[.int .i64 1, .int .i64 6, .int .i64 7, .int .i64 25]) rfl rfl rfl rfl) (by simp)).mono ?_
  rintro e w2 ⟨rfl, q, rfl⟩
  go_wp2_with fail
  go_ret
  refine ⟨rfl, ?_⟩
  have h := LO8.out.alloc LO8.out.size (.cells #[.int .i64 1, .int .i64 6, .int .i64 7, .int .i64 25] 3)
  exact ⟨h.os, h.tape, h.output, h.size, h.block⟩
end Go.Proofs.YtdcdinlppjlmfaaDoor
