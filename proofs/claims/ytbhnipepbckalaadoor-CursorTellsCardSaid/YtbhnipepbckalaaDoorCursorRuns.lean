/- CursorRuns: chapter 12's runs. (written by tools/gencursorruns.py) -/
import Derived.Test.YtbhnipepbckalaaDoorCursorUse
import Derived.Test.YtbhnipepbckalaaDoorCursorRef
import Derived.Test.YtbhnipepbckalaaDoorGridPut
import Derived.Deep.DeepCutAuto
set_option maxRecDepth 100000
namespace Go.Proofs.YtbhnipepbckalaaDoor
open Go.RowKit
set_option linter.unusedVariables false
namespace SN
def runG : PG.Gr := PG.putI (PG.newG 3 1 PG.plain) 1 0 120 PG.plain
def run1 : Sc := (((full 3 1).uG runG).u7 1).u3 1
theorem right_run1 : RightS run1 := by
  have hg : PG.RightG runG := PG.right_putI (PG.right_newG PG.plain_ok (by decide) (by decide) (by decide) (by decide)) PG.plain_ok 1 0 120
  have h := right_full (R := 3) (K := 1) (by decide) (by decide) (by decide) (by decide)
  refine ⟨hg, ?_, ?_, ?_, ?_, h.pen, h.tabs, h.set, (fun h => nomatch h), ?_⟩
  · show 1 < 3
    decide
  · show 0 < 1
    decide
  · show 1 < 3
    decide
  · show 0 < 1 ∨ _
    exact .inl (by decide)
  · exact h.sv
theorem right_run2 : RightS (run1.u3 2) := { right_run1 with row := by show 2 < 3; decide, pend := (fun h => nomatch h) }
theorem runs_a : (feedS run1).row = 1 ∧ PG.text ((feedS run1).g.f 0) (feedS run1).g.cols = [120] := by
  constructor <;> rfl
theorem runs_b : (feedS (run1.u3 2)).row = 2 ∧ PG.text ((feedS (run1.u3 2)).g.f 1) (feedS (run1.u3 2)).g.cols = [120] := by
  constructor <;> rfl
theorem runs_sz : (feedS run1).g.rows = 3 ∧ (feedS (run1.u3 2)).g.rows = 3 := ⟨rfl, rfl⟩
end SN
set_option maxHeartbeats 8000000 in
theorem cursorRuns_any (w : World) (hs : Spans w) : Calls Tryd.prog 3 #[] w fun e w' => e = .returned (.bool true) ∧ Below w.heap.size w w' := by
  have NW := hide (fun w' => snew_is 3 1 3 1 rfl rfl (by omega) (by omega) w')
  have PT := hide (fun (w' : World) v (h : IsG w' (SN.full 3 1).g v) (hs : Spans w') => u_put (G := (SN.full 3 1).g) (PG.right_newG PG.plain_ok (by decide) (by decide) (by decide) (by decide)) h 1 0 120 PG.plain (by omega) (by omega) (by omega) (by omega) hs)
  have FA := hide (fun w' v h => cfeed_is SN.run1 v w' SN.right_run1 h)
  have FB := hide (fun w' v h => cfeed_is (SN.run1.u3 2) v w' SN.right_run2 h)
  obtain ⟨a1, a2⟩ := SN.runs_a
  obtain ⟨b1, b2⟩ := SN.runs_b
  obtain ⟨n1, n2⟩ := SN.runs_sz
  have RA := SN.right_feed SN.right_run1
  have RB := SN.right_feed SN.right_run2
  have HSE := hide (show (((SN.full 3 1).uG SN.runG).u7 1).u3 1 = SN.run1 from rfl)
  have HSR := hide (show SN.run1.g = SN.runG from rfl)
  have HPG := hide (show PG.putI (SN.full 3 1).g 1 0 120 PG.plain = SN.runG from rfl)
  generalize SN.feedS SN.run1 = TA at FA a1 a2 n1 RA
  generalize SN.feedS (SN.run1.u3 2) = TB at FB b1 b2 n2 RB
  have TXA := hide (fun (w' : World) v (h : IsG w' TA.g v) => u_text (G := TA.g) RA.g h 0 (by omega))
  have TXB := hide (fun (w' : World) v (h : IsG w' TB.g v) => u_text (G := TB.g) RB.g h 1 (by omega))
  rw [a2] at TXA
  rw [b2] at TXB
  have EA1 := hide a1
  have EB1 := hide b1
  have STR := hide (show strOfNums [120] = { data := #[120] } from rfl)
  have HSP := hide hs
  have SLT := hide hs.lt
  have LO0 := hide (Below.refl w.heap.size w)
  clear hs a1 a2 b1 b2 n1 n2 RA RB
  go_enter Tryd.func3, Tryd.ntmps3
  go_wp2_with fail
  refine (NW.out _).mono ?_
  rintro e wb1 ⟨v1, rfl, ⟨x1, rfl, hg1⟩, hb1⟩
  have LO1 := hide (LO0.out.trans (hb1.mono LO0.out.size))
  clear LO0 hb1
  obtain ⟨A1, c1, rfl⟩ := gv_slice hg1
  have HGs1 := hide hg1
  clear hg1
  go_upto_region 2 with (first | (refine wpList_alloc_scr rfl rfl ?_; intro gs wags csgs hBgs hzgs hbgs hlgs) | (refine wpList_store_scr hBgs hzgs rfl _ _ rfl rfl rfl rfl ?_; intro wsgs hSgs hkgs hqgs))
  have le_gs : w.heap.size ≤ gs := by have := LO1.out.size; omega
  have HGs2 := hide (HGs1.out.low hbgs)
  have LO2 := hide (LO1.out.trans (hbgs.mono LO1.out.size))
  clear HGs1 LO1 hbgs
  have HGs3 := hide (HGs2.out.kept hBgs (by decide) hkgs)
  have LO3 := hide (LO2.out.trans (hkgs.toBelow LO2.out.size (fun k hh => by simp at hh; omega)))
  clear HGs2 LO2
  have HSs1 := hide hSgs
  clear hSgs hkgs hBgs hlgs
  have k_gs_0 := (show _ = some (.int .i64 ((SN.full 3 1).g.rows : Nat) : Value) from HSs1.out.c0)
  have k_gs_1 := (show _ = some (.int .i64 ((SN.full 3 1).g.cols : Nat) : Value) from HSs1.out.c1)
  have k_gs_2 := (show _ = some (.slice A1 ((SN.full 3 1).g.rows * (SN.full 3 1).g.cols) c1 : Value) from HSs1.out.c2)
  have k_gs_8 := (show _ = some (.int .i64 (-1) : Value) from HSs1.out.c8)
  have k_gs_9 := (show _ = some (.int .i64 (-1) : Value) from HSs1.out.c9)
  have k_gs_10 := (show _ = some (.int .i64 0 : Value) from HSs1.out.c10)
  go_wp2_with fail
  clear k_gs_0 k_gs_1 k_gs_2 k_gs_8 k_gs_9 k_gs_10
  refine (PT.out _ _ HGs3.out (HSP.out.below LO3.out (by exact SLT.out))).mono ?_
  rw [HPG.out]
  rintro e wp2 ⟨v2, rfl, ⟨y2, rfl, ho2⟩, hb2⟩
  have HSs2 := hide (HSs1.out.below hb2 HSs1.out.lt)
  have HGs4 := hide (HGs3.out.low hb2)
  have LO4 := hide (LO3.out.trans (hb2.mono LO3.out.size))
  clear HSs1 HGs3 LO3 hb2
  obtain ⟨A2, c2, rfl⟩ := gv_slice (G := SN.runG) ⟨_, rfl, ho2⟩
  have HGs5 : Hid (IsG _ SN.runG (gv SN.runG.rows SN.runG.cols (.slice A2 (SN.runG.rows * SN.runG.cols) c2))) := hide ⟨_, rfl, ho2⟩
  clear ho2
  simp only [gv]
  go_upto_region 3 with (refine wpList_store_gr (y := .slice A2 (SN.runG.rows * SN.runG.cols) c2) (G := SN.runG) HSs2.out rfl _ _ rfl rfl rfl rfl ?_; intro wg2 hSg2 hkg2 hqg2)
  have HGs6 := hide (HGs5.out.kept HSs2.out (by decide) hkg2)
  have LO5 := hide (LO4.out.trans (hkg2.toBelow LO4.out.size (fun k hh => by simp at hh; omega)))
  clear HGs5 LO4
  have HSs3 := hide hSg2
  clear hSg2 hkg2 HSs2
  have k_gs_7 := (show _ = some (.int .i64 2 : Value) from HSs3.out.c7)
  have k_gs_3 := (show _ = some (.int .i64 0 : Value) from HSs3.out.c3)
  have z_gs_7 := HSs3.out.fz 7
  have z_gs_3 := HSs3.out.fz 3
  go_upto_region 4 with fail
  clear k_gs_7 k_gs_3 z_gs_7 z_gs_3
  have hkp := (((Kept.refl [some gs] wg2).setCell (p := ⟨gs, 7, none⟩) (From.mem (by simp)) (.int .i64 1)).setCell (p := ⟨gs, 3, none⟩) (From.mem (by simp)) (.int .i64 1))
  have hsp : SBox ((wg2.setCell ⟨gs, 7, none⟩ (.int .i64 1)).setCell ⟨gs, 3, none⟩ (.int .i64 1)) gs _ _ := ((HSs3.out.set7 1).set3 1)
  generalize ((wg2.setCell ⟨gs, 7, none⟩ (.int .i64 1)).setCell ⟨gs, 3, none⟩ (.int .i64 1)) = wp3 at hkp hsp ⊢
  have HGs7 := hide (HGs6.out.kept HSs3.out (by decide) hkp)
  have LO6 := hide (LO5.out.trans (hkp.toBelow LO5.out.size (fun k hh => by simp at hh; omega)))
  clear HGs6 LO5
  have HSs4 := hide hsp
  clear hsp hkp HSs3
  have HSs5 := hide (show SBox _ gs _ SN.run1 from HSs4.out)
  clear HSs4
  go_wp2_with (refine wpList_load_scr HSs5.out rfl _ rfl rfl ?_)
  refine (FA.out _ _ ⟨_, rfl, HGs7.out⟩).mono ?_
  rintro e wb3 ⟨v3, rfl, ⟨x3, rfl, hg3⟩, hb3⟩
  have HSs6 := hide (HSs5.out.below hb3 HSs5.out.lt)
  have HGs8 := hide (HGs7.out.low hb3)
  have LO7 := hide (LO6.out.trans (hb3.mono LO6.out.size))
  clear HSs5 HGs7 LO6 hb3
  obtain ⟨A3, c3, rfl⟩ := gv_slice hg3
  have HGa1 := hide hg3
  clear hg3
  go_upto_region 5 with (first | (refine wpList_alloc_scr rfl rfl ?_; intro ga waga csga hBga hzga hbga hlga) | (refine wpList_store_scr hBga hzga rfl _ _ rfl rfl rfl rfl ?_; intro wsga hSga hkga hqga))
  have ne_gs_ga : gs ≠ ga := by have := HSs6.out.lt; omega
  have le_ga : w.heap.size ≤ ga := by have := LO7.out.size; omega
  have HSs7 := hide (HSs6.out.below hbga HSs6.out.lt)
  have HGs9 := hide (HGs8.out.low hbga)
  have HGa2 := hide (HGa1.out.low hbga)
  have LO8 := hide (LO7.out.trans (hbga.mono LO7.out.size))
  clear HSs6 HGs8 HGa1 LO7 hbga
  have HSs8 := hide (HSs7.out.kept hkga (by simp; first | exact ne_gs_ga | exact Ne.symm ne_ga_gs))
  have HGs10 := hide (HGs9.out.kept hBga (by decide) hkga)
  have HGa3 := hide (HGa2.out.kept hBga (by decide) hkga)
  have LO9 := hide (LO8.out.trans (hkga.toBelow LO8.out.size (fun k hh => by simp at hh; omega)))
  clear HSs7 HGs9 HGa2 LO8
  have HSa1 := hide hSga
  clear hSga hkga hBga hlga
  have k_gs_3 := (show _ = some (.int .i64 1 : Value) from HSs8.out.c3)
  have z_gs_3 := HSs8.out.fz 3
  go_upto_region 6 with fail
  clear k_gs_3 z_gs_3
  have hkp := ((Kept.refl [some gs] wsga).setCell (p := ⟨gs, 3, none⟩) (From.mem (by simp)) (.int .i64 2))
  have hsp : SBox (wsga.setCell ⟨gs, 3, none⟩ (.int .i64 2)) gs _ _ := (HSs8.out.set3 2)
  generalize (wsga.setCell ⟨gs, 3, none⟩ (.int .i64 2)) = wp4 at hkp hsp ⊢
  have HSa2 := hide (HSa1.out.kept hkp (by simp; first | exact ne_ga_gs | exact Ne.symm ne_gs_ga))
  have HGs11 := hide (HGs10.out.kept HSs8.out (by decide) hkp)
  have HGa4 := hide (HGa3.out.kept HSs8.out (by decide) hkp)
  have LO10 := hide (LO9.out.trans (hkp.toBelow LO9.out.size (fun k hh => by simp at hh; omega)))
  clear HSa1 HGs10 HGa3 LO9
  have HSs9 := hide hsp
  clear hsp hkp HSs8
  have HSs10 := hide (show SBox _ gs _ (SN.run1.u3 2) from HSs9.out)
  clear HSs9
  go_wp2_with (refine wpList_load_scr HSs10.out rfl _ rfl rfl ?_)
  refine (FB.out _ _ ⟨_, rfl, HGs11.out⟩).mono ?_
  rintro e wb4 ⟨v4, rfl, ⟨x4, rfl, hg4⟩, hb4⟩
  have HSs11 := hide (HSs10.out.below hb4 HSs10.out.lt)
  have HSa3 := hide (HSa2.out.below hb4 HSa2.out.lt)
  have HGs12 := hide (HGs11.out.low hb4)
  have HGa5 := hide (HGa4.out.low hb4)
  have LO11 := hide (LO10.out.trans (hb4.mono LO10.out.size))
  clear HSs10 HSa2 HGs11 HGa4 LO10 hb4
  obtain ⟨A4, c4, rfl⟩ := gv_slice hg4
  have HGb1 := hide hg4
  clear hg4
  go_upto_region 7 with (first | (refine wpList_alloc_scr rfl rfl ?_; intro gb wagb csgb hBgb hzgb hbgb hlgb) | (refine wpList_store_scr hBgb hzgb rfl _ _ rfl rfl rfl rfl ?_; intro wsgb hSgb hkgb hqgb))
  have ne_gs_gb : gs ≠ gb := by have := HSs11.out.lt; omega
  have ne_ga_gb : ga ≠ gb := by have := HSa3.out.lt; omega
  have le_gb : w.heap.size ≤ gb := by have := LO11.out.size; omega
  have HSs12 := hide (HSs11.out.below hbgb HSs11.out.lt)
  have HSa4 := hide (HSa3.out.below hbgb HSa3.out.lt)
  have HGs13 := hide (HGs12.out.low hbgb)
  have HGa6 := hide (HGa5.out.low hbgb)
  have HGb2 := hide (HGb1.out.low hbgb)
  have LO12 := hide (LO11.out.trans (hbgb.mono LO11.out.size))
  clear HSs11 HSa3 HGs12 HGa5 HGb1 LO11 hbgb
  have HSs13 := hide (HSs12.out.kept hkgb (by simp; first | exact ne_gs_gb | exact Ne.symm ne_gb_gs))
  have HSa5 := hide (HSa4.out.kept hkgb (by simp; first | exact ne_ga_gb | exact Ne.symm ne_gb_ga))
  have HGs14 := hide (HGs13.out.kept hBgb (by decide) hkgb)
  have HGa7 := hide (HGa6.out.kept hBgb (by decide) hkgb)
  have HGb3 := hide (HGb2.out.kept hBgb (by decide) hkgb)
  have LO13 := hide (LO12.out.trans (hkgb.toBelow LO12.out.size (fun k hh => by simp at hh; omega)))
  clear HSs12 HSa4 HGs13 HGa6 HGb2 LO12
  have HSb1 := hide hSgb
  clear hSgb hkgb hBgb hlgb
  have k_ga_3 := (show _ = some (.int .i64 (1 : Nat) : Value) from (HSa5.out.c3).trans (by first | (rw [EA1.out]; done) | (rw [EA1.out]; rfl)))
  have k_ga_0 := (show _ = some (.int .i64 (TA.g.rows : Nat) : Value) from HSa5.out.c0)
  have k_ga_1 := (show _ = some (.int .i64 (TA.g.cols : Nat) : Value) from HSa5.out.c1)
  have k_ga_2 := (show _ = some (.slice A3 (TA.g.rows * TA.g.cols) c3 : Value) from HSa5.out.c2)
  go_wp2_with fail
  clear k_ga_3 k_ga_0 k_ga_1 k_ga_2
  refine (TXA.out _ _ HGa7.out).mono ?_
  rintro e wx1 ⟨rfl, hx1⟩
  have HSs14 := hide (HSs13.out.below hx1 HSs13.out.lt)
  have HSa6 := hide (HSa5.out.below hx1 HSa5.out.lt)
  have HSb2 := hide (HSb1.out.below hx1 HSb1.out.lt)
  have HGs15 := hide (HGs14.out.low hx1)
  have HGa8 := hide (HGa7.out.low hx1)
  have HGb4 := hide (HGb3.out.low hx1)
  have LO14 := hide (LO13.out.trans (hx1.mono LO13.out.size))
  clear HSs13 HSa5 HSb1 HGs14 HGa7 HGb3 LO13 hx1
  have k_gb_3 := (show _ = some (.int .i64 (2 : Nat) : Value) from (HSb2.out.c3).trans (by first | (rw [EB1.out]; done) | (rw [EB1.out]; rfl)))
  have k_gb_0 := (show _ = some (.int .i64 (TB.g.rows : Nat) : Value) from HSb2.out.c0)
  have k_gb_1 := (show _ = some (.int .i64 (TB.g.cols : Nat) : Value) from HSb2.out.c1)
  have k_gb_2 := (show _ = some (.slice A4 (TB.g.rows * TB.g.cols) c4 : Value) from HSb2.out.c2)
  simp only [STR.out]
  go_wp2_with fail
  clear k_gb_3 k_gb_0 k_gb_1 k_gb_2
  refine (TXB.out _ _ HGb4.out).mono ?_
  rintro e wx2 ⟨rfl, hx2⟩
  have HSs15 := hide (HSs14.out.below hx2 HSs14.out.lt)
  have HSa7 := hide (HSa6.out.below hx2 HSa6.out.lt)
  have HSb3 := hide (HSb2.out.below hx2 HSb2.out.lt)
  have HGs16 := hide (HGs15.out.low hx2)
  have HGa9 := hide (HGa8.out.low hx2)
  have HGb5 := hide (HGb4.out.low hx2)
  have LO15 := hide (LO14.out.trans (hx2.mono LO14.out.size))
  clear HSs14 HSa6 HSb2 HGs15 HGa8 HGb4 LO14 hx2
  simp only [STR.out]
  go_wp2_with fail
  go_ret
  exact ⟨rfl, LO15.out⟩
end Go.Proofs.YtbhnipepbckalaaDoor
