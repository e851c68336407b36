/- ScreenRuns: chapter 11's runs. (written by tools/genscreenruns.py) -/
import Derived.Test.YtoffiekpmomfcaaDoorScreenUse
import Derived.Deep.DeepCutAuto
set_option maxRecDepth 100000
namespace Go.Proofs.YtoffiekpmomfcaaDoor
open Go.RowKit
set_option linter.unusedVariables false
set_option maxHeartbeats 8000000 in
theorem screenRuns_any (w : World) (hs : Spans w) : Calls Tryd.prog 3 #[] w fun e w' => e = .returned (.bool true) ∧ Below w.heap.size w w' := by
  have NW := hide (fun w' => snew_is 2 3 2 3 rfl rfl (by omega) (by omega) w')
  have R1 := hide (SN.right_full (R := 2) (K := 3) (by decide) (by decide) (by decide) (by decide))
  have hr : SN.RightS (((SN.full 2 3).u3 1).u4 2) := ⟨R1.out.g, by decide, by decide, R1.out.bot, R1.out.top, R1.out.pen, R1.out.tabs, R1.out.set, (fun h => nomatch h), R1.out.sv⟩
  have R2 := hide (SN.right_sized hr (R := 1) (K := 2) (by decide) (by decide) (by decide) (by decide))
  have SZ := hide (fun w' v h => ssized_is (((SN.full 2 3).u3 1).u4 2) v 1 2 1 2 rfl rfl (by omega) (by omega) hr w' h)
  have HSP := hide hs
  have SLT := hide hs.lt
  clear hr
  have LO0 := hide (Below.refl w.heap.size w)
  clear hs
  go_enter Tryd.func3, Tryd.ntmps3
  go_wp2_with fail
  refine (NW.out _).mono ?_
  rintro e wb1 ⟨v1, rfl, ⟨x1, rfl, hg1⟩, hb1⟩
  have LO1 := hide (LO0.out.trans (hb1.mono LO0.out.size))
  clear LO0 hb1
  obtain ⟨A1, c1, rfl⟩ := gv_slice hg1
  simp only [show (SN.full 2 3).g.rows * (SN.full 2 3).g.cols = 6 from rfl] at hg1
  have HGa1 := hide hg1
  clear hg1
  go_upto_region 2 with (first | (refine wpList_alloc_scr rfl rfl ?_; intro ga waga csga hBga hzga hbga hlga) | (refine wpList_store_scr hBga hzga rfl _ _ rfl rfl rfl rfl ?_; intro wsga hSga hkga hqga))
  have le_ga : w.heap.size ≤ ga := by have := LO1.out.size; omega
  have HGa2 := hide (HGa1.out.low hbga)
  have LO2 := hide (LO1.out.trans (hbga.mono LO1.out.size))
  clear HGa1 LO1 hbga
  have HGa3 := hide (HGa2.out.kept hBga (by decide) hkga)
  have LO3 := hide (LO2.out.trans (hkga.toBelow LO2.out.size (fun k hh => by simp at hh; omega)))
  clear HGa2 LO2
  have HSa1 := hide hSga
  clear hSga hkga hBga hlga
  go_upto_region 3 with (first | (refine wpList_alloc_scr rfl rfl ?_; intro gb wagb csgb hBgb hzgb hbgb hlgb) | (refine wpList_store_scr hBgb hzgb rfl _ _ rfl rfl rfl rfl ?_; intro wsgb hSgb hkgb hqgb) | (refine wpList_load_scr HSa1.out rfl _ rfl rfl ?_))
  have ne_ga_gb : ga ≠ gb := by have := HSa1.out.lt; omega
  have le_gb : w.heap.size ≤ gb := by have := LO3.out.size; omega
  have HSa2 := hide (HSa1.out.below hbgb HSa1.out.lt)
  have HGa4 := hide (HGa3.out.low hbgb)
  have LO4 := hide (LO3.out.trans (hbgb.mono LO3.out.size))
  clear HSa1 HGa3 LO3 hbgb
  have HSa3 := hide (HSa2.out.kept hkgb (by simp; first | exact ne_ga_gb | exact Ne.symm ne_gb_ga))
  have HGa5 := hide (HGa4.out.kept hBgb (by decide) hkgb)
  have LO5 := hide (LO4.out.trans (hkgb.toBelow LO4.out.size (fun k hh => by simp at hh; omega)))
  clear HSa2 HGa4 LO4
  have HSb1 := hide hSgb
  clear hSgb hkgb hBgb hlgb
  have k_gb_3 := (show _ = some (.int .i64 0 : Value) from HSb1.out.c3)
  have k_gb_4 := (show _ = some (.int .i64 0 : Value) from HSb1.out.c4)
  have z_gb_3 := HSb1.out.fz 3
  have z_gb_4 := HSb1.out.fz 4
  go_upto_region 4 with fail
  clear k_gb_3 k_gb_4 z_gb_3 z_gb_4
  have hkp := (((Kept.refl [some gb] wsgb).setCell (p := ⟨gb, 3, none⟩) (From.mem (by simp)) (.int .i64 1)).setCell (p := ⟨gb, 4, none⟩) (From.mem (by simp)) (.int .i64 2))
  have hsp : SBox ((wsgb.setCell ⟨gb, 3, none⟩ (.int .i64 1)).setCell ⟨gb, 4, none⟩ (.int .i64 2)) gb _ _ := ((HSb1.out.set3 1).set4 2)
  generalize ((wsgb.setCell ⟨gb, 3, none⟩ (.int .i64 1)).setCell ⟨gb, 4, none⟩ (.int .i64 2)) = wp at hkp hsp ⊢
  have HSa4 := hide (HSa3.out.kept hkp (by simp; first | exact ne_ga_gb | exact Ne.symm ne_gb_ga))
  have HGa6 := hide (HGa5.out.kept HSb1.out (by decide) hkp)
  have LO6 := hide (LO5.out.trans (hkp.toBelow LO5.out.size (fun k hh => by simp at hh; omega)))
  clear HSa3 HGa5 LO5
  have HSb2 := hide hsp
  clear hsp hkp HSb1
  go_wp2_with (refine wpList_load_scr HSb2.out rfl _ rfl rfl ?_)
  refine (SZ.out _ _ ⟨_, rfl, HGa6.out⟩).mono ?_
  rintro e wb2 ⟨v2, rfl, ⟨x2, rfl, hg2⟩, hb2⟩
  have HSa5 := hide (HSa4.out.below hb2 HSa4.out.lt)
  have HSb3 := hide (HSb2.out.below hb2 HSb2.out.lt)
  have HGa7 := hide (HGa6.out.low hb2)
  have LO7 := hide (LO6.out.trans (hb2.mono LO6.out.size))
  clear HSa4 HSb2 HGa6 LO6 hb2
  obtain ⟨A2, c2, rfl⟩ := gv_slice hg2
  simp only [show (SN.sized (((SN.full 2 3).u3 1).u4 2) 1 2).g.rows * (SN.sized (((SN.full 2 3).u3 1).u4 2) 1 2).g.cols = 2 from rfl] at hg2
  have HGu1 := hide hg2
  clear hg2
  go_upto_region 5 with (first | (refine wpList_alloc_scr rfl rfl ?_; intro gc wagc csgc hBgc hzgc hbgc hlgc) | (refine wpList_store_scr hBgc hzgc rfl _ _ rfl rfl rfl rfl ?_; intro wsgc hSgc hkgc hqgc))
  have ne_ga_gc : ga ≠ gc := by have := HSa5.out.lt; omega
  have ne_gb_gc : gb ≠ gc := by have := HSb3.out.lt; omega
  have le_gc : w.heap.size ≤ gc := by have := LO7.out.size; omega
  have HSa6 := hide (HSa5.out.below hbgc HSa5.out.lt)
  have HSb4 := hide (HSb3.out.below hbgc HSb3.out.lt)
  have HGa8 := hide (HGa7.out.low hbgc)
  have HGu2 := hide (HGu1.out.low hbgc)
  have LO8 := hide (LO7.out.trans (hbgc.mono LO7.out.size))
  clear HSa5 HSb3 HGa7 HGu1 LO7 hbgc
  have HSa7 := hide (HSa6.out.kept hkgc (by simp; first | exact ne_ga_gc | exact Ne.symm ne_gc_ga))
  have HSb5 := hide (HSb4.out.kept hkgc (by simp; first | exact ne_gb_gc | exact Ne.symm ne_gc_gb))
  have HGa9 := hide (HGa8.out.kept hBgc (by decide) hkgc)
  have HGu3 := hide (HGu2.out.kept hBgc (by decide) hkgc)
  have LO9 := hide (LO8.out.trans (hkgc.toBelow LO8.out.size (fun k hh => by simp at hh; omega)))
  clear HSa6 HSb4 HGa8 HGu2 LO8
  have HSc1 := hide hSgc
  clear hSgc hkgc hBgc hlgc
  have k_ga_2 := (show _ = some (.slice A1 6 c1 : Value) from HSa7.out.c2)
  have k_ga_7 := (show _ = some (.int .i64 1 : Value) from HSa7.out.c7)
  have k_gc_3 := (show _ = some (.int .i64 0 : Value) from HSc1.out.c3)
  have k_gc_4 := (show _ = some (.int .i64 1 : Value) from HSc1.out.c4)
  go_wp2_with (first | (refine wpList_load_scrG HSa7.out _ rfl (by rfl) rfl ?_) | (refine wpList_load_scrG HSc1.out _ rfl (by rfl) rfl ?_))
  clear k_ga_2 k_ga_7 k_gc_3 k_gc_4
  refine (sright_is (SN.full 2 3) _ R1.out _ HGa9.out (HSP.out.below LO9.out (by exact SLT.out))).mono ?_
  rintro e wr1 ⟨rfl, hr1⟩
  have HSa8 := hide (HSa7.out.below hr1 HSa7.out.lt)
  have HSb6 := hide (HSb5.out.below hr1 HSb5.out.lt)
  have HSc2 := hide (HSc1.out.below hr1 HSc1.out.lt)
  have HGa10 := hide (HGa9.out.low hr1)
  have HGu4 := hide (HGu3.out.low hr1)
  have LO10 := hide (LO9.out.trans (hr1.mono LO9.out.size))
  clear HSa7 HSb5 HSc1 HGa9 HGu3 LO9 hr1
  have k_ga_2 := (show _ = some (.slice A1 6 c1 : Value) from HSa8.out.c2)
  have k_ga_7 := (show _ = some (.int .i64 1 : Value) from HSa8.out.c7)
  have k_gc_3 := (show _ = some (.int .i64 0 : Value) from HSc2.out.c3)
  have k_gc_4 := (show _ = some (.int .i64 1 : Value) from HSc2.out.c4)
  go_wp2_with (first | (refine wpList_load_scrG HSa8.out _ rfl (by rfl) rfl ?_) | (refine wpList_load_scrG HSc2.out _ rfl (by rfl) rfl ?_))
  clear k_ga_2 k_ga_7 k_gc_3 k_gc_4
  refine (sright_is (SN.sized (((SN.full 2 3).u3 1).u4 2) 1 2) _ R2.out _ HGu4.out (HSP.out.below LO10.out (by exact SLT.out))).mono ?_
  rintro e wr2 ⟨rfl, hr2⟩
  have HSa9 := hide (HSa8.out.below hr2 HSa8.out.lt)
  have HSb7 := hide (HSb6.out.below hr2 HSb6.out.lt)
  have HSc3 := hide (HSc2.out.below hr2 HSc2.out.lt)
  have HGa11 := hide (HGa10.out.low hr2)
  have HGu5 := hide (HGu4.out.low hr2)
  have LO11 := hide (LO10.out.trans (hr2.mono LO10.out.size))
  clear HSa8 HSb6 HSc2 HGa10 HGu4 LO10 hr2
  go_wp2_with (first | (refine wpList_load_scrG HSa9.out _ rfl (by rfl) rfl ?_) | (refine wpList_load_scrG HSc3.out _ rfl (by rfl) rfl ?_))
  refine (slooks_raw (SN.raw (SN.full 2 3)) (SN.raw (SN.full 2 3)) _ _ true true ⟨fun _ => PG.Alike.refl _, fun _ => rfl⟩ rfl R1.out.g _ HGa11.out HGa11.out).mono ?_
  rintro e wr3 ⟨rfl, hr3⟩
  have HSa10 := hide (HSa9.out.below hr3 HSa9.out.lt)
  have HSb8 := hide (HSb7.out.below hr3 HSb7.out.lt)
  have HSc4 := hide (HSc3.out.below hr3 HSc3.out.lt)
  have HGa12 := hide (HGa11.out.low hr3)
  have HGu6 := hide (HGu5.out.low hr3)
  have LO12 := hide (LO11.out.trans (hr3.mono LO11.out.size))
  clear HSa9 HSb7 HSc3 HGa11 HGu5 LO11 hr3
  go_wp2_with fail
  go_ret
  exact ⟨rfl, LO12.out⟩
end Go.Proofs.YtoffiekpmomfcaaDoor
