/- ScreenSizes: greater and back again a screen has the cells it had, its cursor; smaller it has the corner; beyond the limits it is cut to them. (written by tools/genscreensizes.py) -/
import Derived.Test.YtoffiekpmomfcaaDoorScreenRuns
import Derived.Test.YtoffiekpmomfcaaDoorGridRefNew
import Derived.Test.YtoffiekpmomfcaaDoorPenEq
set_option maxRecDepth 100000
namespace Go.Proofs.YtoffiekpmomfcaaDoor
open Go.RowKit
set_option linter.unusedVariables false
set_option maxHeartbeats 16000000 in
theorem screenSizes_t (kcs : Array Value) (h1 w1 : Int) (a b : Nat) (S T U V : SN.Sc) (w : World) (hk13 : kcs.size = 13) (hS : SN.RightS S) (ha : a ≤ 6) (hb : b ≤ 8) (hR5 : S.g.rows ≤ 5) (hK9 : S.g.cols ≤ 9) (hsp : Spans w)
    (hT : SN.sized S (S.g.rows + a) (S.g.cols + b) = T) (hU : SN.sized T S.g.rows S.g.cols = U) (hV : SN.sized S 1 1 = V)
    (KS : Hid (∀ w', Below w.heap.size w w' → Calls Tryd.prog 11 #[.agg kcs] w' (GotS w' S)))
    (WA : Hid (∀ w', Calls Tryd.prog 12 #[.int .i64 h1, .int .i64 0, .int .i64 6] w' fun e w'' => e = .returned (.int .i64 (a : Nat)) ∧ w' = w''))
    (WB : Hid (∀ w', Calls Tryd.prog 12 #[.int .i64 w1, .int .i64 0, .int .i64 8] w' fun e w'' => e = .returned (.int .i64 (b : Nat)) ∧ w' = w'')) :
    Calls Tryd.prog 6 #[.agg kcs, .int .i64 h1, .int .i64 w1] w fun e w' => e = .returned (.bool true) ∧ Below w.heap.size w w' := by
  have q1 := hS.g.1
  have q2 := hS.g.2.2.1
  have hTr : SN.RightS T := hT ▸ SN.right_sized hS (by omega) (by omega) (by omega) (by omega)
  have hUr : SN.RightS U := hU ▸ SN.right_sized hTr q1 (by omega) q2 (by omega)
  have hVr : SN.RightS V := hV ▸ SN.right_sized hS (by omega) (by omega) (by omega) (by omega)
  obtain ⟨hal, hur, huc⟩ : PG.Alike U.g S.g ∧ U.row = S.row ∧ U.col = S.col := by
    subst hT hU
    exact SN.sized_back hS (by omega) (by omega)
  have HCE := hide (PG.cells_ext hal)
  have EUR := hide hur
  have EUC := hide huc
  have EUP := hide (show U.pen = S.pen by subst hU hT; rfl)
  have EUW := hide (show U.wrap = S.wrap by subst hU hT; rfl)
  have ETB := hide (show (T.bot : Int) = (S.g.rows : Int) + a - 1 by subst hT; show ((S.g.rows + a - 1 : Nat) : Int) = _; omega)
  have ETT := hide (show T.top = 0 by subst hT; rfl)
  have ETP := hide (show T.pend = false by subst hT; rfl)
  have ETR := hide (show T.g.rows = S.g.rows + a by subst hT; rfl)
  have EV3 := hide (show V.row = 0 by subst hV; show min S.row (1 - 1) = 0; omega)
  have EV4 := hide (show V.col = 0 by subst hV; show min S.col (1 - 1) = 0; omega)
  have EVn := hide (show V.g.rows * V.g.cols = 1 by subst hV; rfl)
  have SZT := hide (fun w' v h => by
    have := ssized_is S v ((S.g.rows : Int) + a) ((S.g.cols : Int) + b) (S.g.rows + a) (S.g.cols + b) (by unfold SN.cut; omega) (by unfold SN.cut; omega) (by omega) (by omega) hS w' h
    rw [hT] at this
    exact this)
  have SZU := hide (fun w' v h => by
    have := ssized_is T v (S.g.rows : Int) (S.g.cols : Int) S.g.rows S.g.cols (by unfold SN.cut; omega) (by unfold SN.cut; omega) (by omega) (by omega) hTr w' h
    rw [hU] at this
    exact this)
  have SZV := hide (fun w' v h => by
    have := ssized_is S v 1 1 1 1 rfl rfl (by omega) (by omega) hS w' h
    rw [hV] at this
    exact this)
  have NB := hide (fun w' => snew_is 999 999 40 60 rfl rfl (by omega) (by omega) w')
  have NS := hide (fun w' => snew_is 0 (-5) 1 1 rfl rfl (by omega) (by omega) w')
  have RB := hide (SN.right_full (R := 40) (K := 60) (by decide) (by decide) (by decide) (by decide))
  have RS := hide (SN.right_full (R := 1) (K := 1) (by decide) (by decide) (by decide) (by decide))
  have RV := hide hVr
  have enp : ∀ w' : World, (binOp .neq 26 (.agg #[.int .i64 S.pen.1, .int .i64 S.pen.2.1, .int .i64 S.pen.2.2]) (.agg #[.int .i64 S.pen.1, .int .i64 S.pen.2.1, .int .i64 S.pen.2.2])).run Tryd.prog w' = .ok (.bool false) w' := fun w' => by rw [neq_pen]; simp
  have pg := pen_guard
  have HSP := hide hsp
  have SLT := hide hsp.lt
  have LO0 := hide (Below.refl w.heap.size w)
  clear hsp hVr hUr hTr hal hur huc hT hU hV
  go_enter Tryd.func6, Tryd.ntmps6
  go_wp2_with (first | (refine wpList_box_ks hk13 rfl _ rfl rfl ?_; intro gk wk hKB hbk hlk) | (refine wpList_load_ks hKB rfl _ rfl rfl ?_))
  have LO1 := hide (LO0.out.trans (hbk.mono LO0.out.size))
  clear LO0 hbk
  refine (KS.out _ LO1.out).mono ?_
  rintro e wb1 ⟨v1, rfl, ⟨x1, rfl, hg1⟩, hb1⟩
  have LO2 := hide (LO1.out.trans (hb1.mono LO1.out.size))
  clear LO1 hb1
  obtain ⟨A1, c1, rfl⟩ := gv_slice hg1
  have HGs1 := hide hg1
  clear hg1
  go_upto_region 2 with (first | (refine wpList_alloc_scr rfl rfl ?_; intro gs wags csgs hBgs hzgs hbgs hlgs) | (refine wpList_store_scr hBgs hzgs rfl _ _ rfl rfl rfl rfl ?_; intro wsgs hSgs hkgs hqgs))
  have le_gs : w.heap.size ≤ gs := by have := LO2.out.size; omega
  have HGs2 := hide (HGs1.out.low hbgs)
  have LO3 := hide (LO2.out.trans (hbgs.mono LO2.out.size))
  clear HGs1 LO2 hbgs
  have HGs3 := hide (HGs2.out.kept hBgs (by decide) hkgs)
  have LO4 := hide (LO3.out.trans (hkgs.toBelow LO3.out.size (fun k hh => by simp at hh; omega)))
  clear HGs2 LO3
  have HSs1 := hide hSgs
  clear hSgs hkgs hBgs hlgs
  go_wp2_with fail
  refine (WA.out _).mono ?_
  rintro e w' ⟨rfl, rfl⟩
  go_wp2_with fail
  refine (WB.out _).mono ?_
  rintro e w' ⟨rfl, rfl⟩
  have k_gs_0 := (show _ = some (.int .i64 (S.g.rows : Nat) : Value) from HSs1.out.c0)
  have k_gs_1 := (show _ = some (.int .i64 (S.g.cols : Nat) : Value) from HSs1.out.c1)
  go_wp2_with (first | (refine wpList_load_scr HSs1.out rfl _ rfl rfl ?_))
  clear k_gs_0 k_gs_1
  refine (SZT.out _ _ ⟨_, rfl, HGs3.out⟩).mono ?_
  rintro e wb2 ⟨v2, rfl, ⟨x2, rfl, hg2⟩, hb2⟩
  have HSs2 := hide (HSs1.out.below hb2 HSs1.out.lt)
  have HGs4 := hide (HGs3.out.low hb2)
  have LO5 := hide (LO4.out.trans (hb2.mono LO4.out.size))
  clear HSs1 HGs3 LO4 hb2
  obtain ⟨A2, c2, rfl⟩ := gv_slice hg2
  have HGt1 := hide hg2
  clear hg2
  go_upto_region 4 with (first | (refine wpList_alloc_scr rfl rfl ?_; intro gt wagt csgt hBgt hzgt hbgt hlgt) | (refine wpList_store_scr hBgt hzgt rfl _ _ rfl rfl rfl rfl ?_; intro wsgt hSgt hkgt hqgt))
  have ne_gs_gt : gs ≠ gt := by have := HSs2.out.lt; omega
  have le_gt : w.heap.size ≤ gt := by have := LO5.out.size; omega
  have HSs3 := hide (HSs2.out.below hbgt HSs2.out.lt)
  have HGs5 := hide (HGs4.out.low hbgt)
  have HGt2 := hide (HGt1.out.low hbgt)
  have LO6 := hide (LO5.out.trans (hbgt.mono LO5.out.size))
  clear HSs2 HGs4 HGt1 LO5 hbgt
  have HSs4 := hide (HSs3.out.kept hkgt (by simp; first | exact ne_gs_gt | exact Ne.symm ne_gt_gs))
  have HGs6 := hide (HGs5.out.kept hBgt (by decide) hkgt)
  have HGt3 := hide (HGt2.out.kept hBgt (by decide) hkgt)
  have LO7 := hide (LO6.out.trans (hkgt.toBelow LO6.out.size (fun k hh => by simp at hh; omega)))
  clear HSs3 HGs5 HGt2 LO6
  have HSt1 := hide hSgt
  clear hSgt hkgt hBgt hlgt
  have k_gs_0 := (show _ = some (.int .i64 (S.g.rows : Nat) : Value) from HSs4.out.c0)
  have k_gs_1 := (show _ = some (.int .i64 (S.g.cols : Nat) : Value) from HSs4.out.c1)
  go_wp2_with (first | (refine wpList_load_scr HSt1.out rfl _ rfl rfl ?_))
  clear k_gs_0 k_gs_1
  refine (SZU.out _ _ ⟨_, rfl, HGt3.out⟩).mono ?_
  rintro e wb3 ⟨v3, rfl, ⟨x3, rfl, hg3⟩, hb3⟩
  have HSs5 := hide (HSs4.out.below hb3 HSs4.out.lt)
  have HSt2 := hide (HSt1.out.below hb3 HSt1.out.lt)
  have HGs7 := hide (HGs6.out.low hb3)
  have HGt4 := hide (HGt3.out.low hb3)
  have LO8 := hide (LO7.out.trans (hb3.mono LO7.out.size))
  clear HSs4 HSt1 HGs6 HGt3 LO7 hb3
  obtain ⟨A3, c3, rfl⟩ := gv_slice hg3
  have HGu1 := hide hg3
  clear hg3
  go_upto_region 5 with (first | (refine wpList_alloc_scr rfl rfl ?_; intro gu wagu csgu hBgu hzgu hbgu hlgu) | (refine wpList_store_scr hBgu hzgu rfl _ _ rfl rfl rfl rfl ?_; intro wsgu hSgu hkgu hqgu))
  have ne_gs_gu : gs ≠ gu := by have := HSs5.out.lt; omega
  have ne_gt_gu : gt ≠ gu := by have := HSt2.out.lt; omega
  have le_gu : w.heap.size ≤ gu := by have := LO8.out.size; omega
  have HSs6 := hide (HSs5.out.below hbgu HSs5.out.lt)
  have HSt3 := hide (HSt2.out.below hbgu HSt2.out.lt)
  have HGs8 := hide (HGs7.out.low hbgu)
  have HGt5 := hide (HGt4.out.low hbgu)
  have HGu2 := hide (HGu1.out.low hbgu)
  have LO9 := hide (LO8.out.trans (hbgu.mono LO8.out.size))
  clear HSs5 HSt2 HGs7 HGt4 HGu1 LO8 hbgu
  have HSs7 := hide (HSs6.out.kept hkgu (by simp; first | exact ne_gs_gu | exact Ne.symm ne_gu_gs))
  have HSt4 := hide (HSt3.out.kept hkgu (by simp; first | exact ne_gt_gu | exact Ne.symm ne_gu_gt))
  have HGs9 := hide (HGs8.out.kept hBgu (by decide) hkgu)
  have HGt6 := hide (HGt5.out.kept hBgu (by decide) hkgu)
  have HGu3 := hide (HGu2.out.kept hBgu (by decide) hkgu)
  have LO10 := hide (LO9.out.trans (hkgu.toBelow LO9.out.size (fun k hh => by simp at hh; omega)))
  clear HSs6 HSt3 HGs8 HGt5 HGu2 LO9
  have HSu1 := hide hSgu
  clear hSgu hkgu hBgu hlgu
  have k_gu_2 := (show _ = some (.slice A3 (U.g.rows * U.g.cols) c3 : Value) from HSu1.out.c2)
  have k_gs_2 := (show _ = some (.slice A1 (S.g.rows * S.g.cols) c1 : Value) from HSs7.out.c2)
  go_wp2_with fail
  clear k_gu_2 k_gs_2
  have hx := (isg_seen HGu3.out).1
  rw [HCE.out] at hx
  have hn3 : U.g.rows * U.g.cols ≤ 1099511627776 := by have e := hx.len; have e2 := (isg_seen HGs9.out).1.len; have : S.g.rows * S.g.cols ≤ 5 * 9 := Nat.mul_le_mul hR5 hK9; omega
  refine (same_cells _ _ _ _ _ _ _ _ _ _ hx (isg_seen HGs9.out).1 hn3).mono ?_
  rintro e wq ⟨rfl, q, hq⟩
  have hbq : Below wsgu.heap.size wsgu wq := by rw [← hq]; exact below_drewN (Below.refl _ _) q
  clear hx hn3 hq
  have HSs8 := hide (HSs7.out.below hbq HSs7.out.lt)
  have HSt5 := hide (HSt4.out.below hbq HSt4.out.lt)
  have HSu2 := hide (HSu1.out.below hbq HSu1.out.lt)
  have HGs10 := hide (HGs9.out.low hbq)
  have HGt7 := hide (HGt6.out.low hbq)
  have HGu4 := hide (HGu3.out.low hbq)
  have LO11 := hide (LO10.out.trans (hbq.mono LO10.out.size))
  clear HSs7 HSt4 HSu1 HGs9 HGt6 HGu3 LO10 hbq
  have k_gu_3 := (show _ = some (.int .i64 (S.row : Nat) : Value) from (HSu2.out.c3).trans (by first | (rw [EUR.out]; done) | (rw [EUR.out]; rfl)))
  have k_gu_4 := (show _ = some (.int .i64 (S.col : Nat) : Value) from (HSu2.out.c4).trans (by first | (rw [EUC.out]; done) | (rw [EUC.out]; rfl)))
  have k_gu_8 := (show _ = some (.int .i64 S.pen.1 : Value) from (HSu2.out.c8).trans (by first | (rw [EUP.out]; done) | (rw [EUP.out]; rfl)))
  have k_gu_9 := (show _ = some (.int .i64 S.pen.2.1 : Value) from (HSu2.out.c9).trans (by first | (rw [EUP.out]; done) | (rw [EUP.out]; rfl)))
  have k_gu_10 := (show _ = some (.int .i64 S.pen.2.2 : Value) from (HSu2.out.c10).trans (by first | (rw [EUP.out]; done) | (rw [EUP.out]; rfl)))
  have k_gu_15 := (show _ = some (.bool S.wrap : Value) from (HSu2.out.c15).trans (by first | (rw [EUW.out]; done) | (rw [EUW.out]; rfl)))
  have k_gs_0 := (show _ = some (.int .i64 (S.g.rows : Nat) : Value) from HSs8.out.c0)
  have k_gs_3 := (show _ = some (.int .i64 (S.row : Nat) : Value) from HSs8.out.c3)
  have k_gs_4 := (show _ = some (.int .i64 (S.col : Nat) : Value) from HSs8.out.c4)
  have k_gs_8 := (show _ = some (.int .i64 S.pen.1 : Value) from HSs8.out.c8)
  have k_gs_9 := (show _ = some (.int .i64 S.pen.2.1 : Value) from HSs8.out.c9)
  have k_gs_10 := (show _ = some (.int .i64 S.pen.2.2 : Value) from HSs8.out.c10)
  have k_gs_15 := (show _ = some (.bool S.wrap : Value) from HSs8.out.c15)
  have k_gt_7 := (show _ = some (.int .i64 ((S.g.rows : Int) + a - 1) : Value) from (HSt5.out.c7).trans (by first | (rw [ETB.out]; done) | (rw [ETB.out]; rfl)))
  have k_gt_6 := (show _ = some (.int .i64 0 : Value) from (HSt5.out.c6).trans (by first | (rw [ETT.out]; done) | (rw [ETT.out]; rfl)))
  have k_gt_5 := (show _ = some (.bool false : Value) from (HSt5.out.c5).trans (by first | (rw [ETP.out]; done) | (rw [ETP.out]; rfl)))
  go_upto_region 7 with fail
  clear k_gu_3 k_gu_4 k_gu_8 k_gu_9 k_gu_10 k_gu_15 k_gs_0 k_gs_3 k_gs_4 k_gs_8 k_gs_9 k_gs_10 k_gs_15 k_gt_7 k_gt_6 k_gt_5
  go_wp2_with (first | (refine wpList_load_scr HSs8.out rfl _ rfl rfl ?_))
  refine (SZV.out _ _ ⟨_, rfl, HGs10.out⟩).mono ?_
  rintro e wb4 ⟨v4, rfl, ⟨x4, rfl, hg4⟩, hb4⟩
  have HSs9 := hide (HSs8.out.below hb4 HSs8.out.lt)
  have HSt6 := hide (HSt5.out.below hb4 HSt5.out.lt)
  have HSu3 := hide (HSu2.out.below hb4 HSu2.out.lt)
  have HGs11 := hide (HGs10.out.low hb4)
  have HGt8 := hide (HGt7.out.low hb4)
  have HGu5 := hide (HGu4.out.low hb4)
  have LO12 := hide (LO11.out.trans (hb4.mono LO11.out.size))
  clear HSs8 HSt5 HSu2 HGs10 HGt7 HGu4 LO11 hb4
  obtain ⟨A4, c4, rfl⟩ := gv_slice hg4
  simp only [show V.g.rows * V.g.cols = 1 from EVn.out] at hg4 ⊢
  have HGv1 := hide hg4
  clear hg4
  go_upto_region 8 with (first | (refine wpList_alloc_scr rfl rfl ?_; intro gx wagx csgx hBgx hzgx hbgx hlgx) | (refine wpList_store_scr hBgx hzgx rfl _ _ rfl rfl rfl rfl ?_; intro wsgx hSgx hkgx hqgx))
  have ne_gs_gx : gs ≠ gx := by have := HSs9.out.lt; omega
  have ne_gt_gx : gt ≠ gx := by have := HSt6.out.lt; omega
  have ne_gu_gx : gu ≠ gx := by have := HSu3.out.lt; omega
  have le_gx : w.heap.size ≤ gx := by have := LO12.out.size; omega
  have HSs10 := hide (HSs9.out.below hbgx HSs9.out.lt)
  have HSt7 := hide (HSt6.out.below hbgx HSt6.out.lt)
  have HSu4 := hide (HSu3.out.below hbgx HSu3.out.lt)
  have HGs12 := hide (HGs11.out.low hbgx)
  have HGt9 := hide (HGt8.out.low hbgx)
  have HGu6 := hide (HGu5.out.low hbgx)
  have HGv2 := hide (HGv1.out.low hbgx)
  have LO13 := hide (LO12.out.trans (hbgx.mono LO12.out.size))
  clear HSs9 HSt6 HSu3 HGs11 HGt8 HGu5 HGv1 LO12 hbgx
  have HSs11 := hide (HSs10.out.kept hkgx (by simp; first | exact ne_gs_gx | exact Ne.symm ne_gx_gs))
  have HSt8 := hide (HSt7.out.kept hkgx (by simp; first | exact ne_gt_gx | exact Ne.symm ne_gx_gt))
  have HSu5 := hide (HSu4.out.kept hkgx (by simp; first | exact ne_gu_gx | exact Ne.symm ne_gx_gu))
  have HGs13 := hide (HGs12.out.kept hBgx (by decide) hkgx)
  have HGt10 := hide (HGt9.out.kept hBgx (by decide) hkgx)
  have HGu7 := hide (HGu6.out.kept hBgx (by decide) hkgx)
  have HGv3 := hide (HGv2.out.kept hBgx (by decide) hkgx)
  have LO14 := hide (LO13.out.trans (hkgx.toBelow LO13.out.size (fun k hh => by simp at hh; omega)))
  clear HSs10 HSt7 HSu4 HGs12 HGt9 HGu6 HGv2 LO13
  have HSv1 := hide hSgx
  clear hSgx hkgx hBgx hlgx
  go_wp2_with fail
  refine (NB.out _).mono ?_
  rintro e wb5 ⟨v5, rfl, ⟨x5, rfl, hg5⟩, hb5⟩
  have HSs12 := hide (HSs11.out.below hb5 HSs11.out.lt)
  have HSt9 := hide (HSt8.out.below hb5 HSt8.out.lt)
  have HSu6 := hide (HSu5.out.below hb5 HSu5.out.lt)
  have HSv2 := hide (HSv1.out.below hb5 HSv1.out.lt)
  have HGs14 := hide (HGs13.out.low hb5)
  have HGt11 := hide (HGt10.out.low hb5)
  have HGu8 := hide (HGu7.out.low hb5)
  have HGv4 := hide (HGv3.out.low hb5)
  have LO15 := hide (LO14.out.trans (hb5.mono LO14.out.size))
  clear HSs11 HSt8 HSu5 HSv1 HGs13 HGt10 HGu7 HGv3 LO14 hb5
  obtain ⟨A5, c5, rfl⟩ := gv_slice hg5
  have HGb1 := hide hg5
  clear hg5
  go_wp2_with fail
  refine (NS.out _).mono ?_
  rintro e wb6 ⟨v6, rfl, ⟨x6, rfl, hg6⟩, hb6⟩
  have HSs13 := hide (HSs12.out.below hb6 HSs12.out.lt)
  have HSt10 := hide (HSt9.out.below hb6 HSt9.out.lt)
  have HSu7 := hide (HSu6.out.below hb6 HSu6.out.lt)
  have HSv3 := hide (HSv2.out.below hb6 HSv2.out.lt)
  have HGs15 := hide (HGs14.out.low hb6)
  have HGt12 := hide (HGt11.out.low hb6)
  have HGu9 := hide (HGu8.out.low hb6)
  have HGv5 := hide (HGv4.out.low hb6)
  have HGb2 := hide (HGb1.out.low hb6)
  have LO16 := hide (LO15.out.trans (hb6.mono LO15.out.size))
  clear HSs12 HSt9 HSu6 HSv2 HGs14 HGt11 HGu8 HGv4 HGb1 LO15 hb6
  obtain ⟨A6, c6, rfl⟩ := gv_slice hg6
  have HGm1 := hide hg6
  clear hg6
  have fA : True := trivial
  have fB : True := trivial
  have fC : True := trivial
  have fD : True := trivial
  go_upto_region 9 with (first | (clear fA; refine wpList_alloc_scr rfl rfl ?_; intro gb wagb csgb hBgb hzgb hbgb hlgb) | (clear fB; refine wpList_alloc_scr rfl rfl ?_; intro gm wagm csgm hBgm hzgm hbgm hlgm) | (clear fC; refine wpList_store_scr (hBgb.below hbgm hBgb.lt) hzgb rfl _ _ rfl rfl rfl rfl ?_; intro wsgb hSgb hkgb hqgb) | (clear fD; refine wpList_store_scr ((hBgm).kept hkgb (by simp; have := hBgb.lt; omega)) hzgm rfl _ _ rfl rfl rfl rfl ?_; intro wsgm hSgm hkgm hqgm))
  have ne_gs_gb : gs ≠ gb := by have := HSs13.out.lt; omega
  have ne_gt_gb : gt ≠ gb := by have := HSt10.out.lt; omega
  have ne_gu_gb : gu ≠ gb := by have := HSu7.out.lt; omega
  have ne_gx_gb : gx ≠ gb := by have := HSv3.out.lt; omega
  have le_gb : w.heap.size ≤ gb := by have := LO16.out.size; omega
  have HSs14 := hide (HSs13.out.below hbgb HSs13.out.lt)
  have HSt11 := hide (HSt10.out.below hbgb HSt10.out.lt)
  have HSu8 := hide (HSu7.out.below hbgb HSu7.out.lt)
  have HSv4 := hide (HSv3.out.below hbgb HSv3.out.lt)
  have HGs16 := hide (HGs15.out.low hbgb)
  have HGt13 := hide (HGt12.out.low hbgb)
  have HGu10 := hide (HGu9.out.low hbgb)
  have HGv6 := hide (HGv5.out.low hbgb)
  have HGb3 := hide (HGb2.out.low hbgb)
  have HGm2 := hide (HGm1.out.low hbgb)
  have LO17 := hide (LO16.out.trans (hbgb.mono LO16.out.size))
  clear HSs13 HSt10 HSu7 HSv3 HGs15 HGt12 HGu9 HGv5 HGb2 HGm1 LO16 hbgb
  have ne_gb_gm : gb ≠ gm := by have := hBgb.lt; omega
  have ne_gs_gm : gs ≠ gm := by have := HSs14.out.lt; omega
  have ne_gt_gm : gt ≠ gm := by have := HSt11.out.lt; omega
  have ne_gu_gm : gu ≠ gm := by have := HSu8.out.lt; omega
  have ne_gx_gm : gx ≠ gm := by have := HSv4.out.lt; omega
  have le_gm : w.heap.size ≤ gm := by have := LO17.out.size; omega
  have hBgb' := hBgb.below hbgm hBgb.lt
  have HSs15 := hide (HSs14.out.below hbgm HSs14.out.lt)
  have HSt12 := hide (HSt11.out.below hbgm HSt11.out.lt)
  have HSu9 := hide (HSu8.out.below hbgm HSu8.out.lt)
  have HSv5 := hide (HSv4.out.below hbgm HSv4.out.lt)
  have HGs17 := hide (HGs16.out.low hbgm)
  have HGt14 := hide (HGt13.out.low hbgm)
  have HGu11 := hide (HGu10.out.low hbgm)
  have HGv7 := hide (HGv6.out.low hbgm)
  have HGb4 := hide (HGb3.out.low hbgm)
  have HGm3 := hide (HGm2.out.low hbgm)
  have LO18 := hide (LO17.out.trans (hbgm.mono LO17.out.size))
  clear HSs14 HSt11 HSu8 HSv4 HGs16 HGt13 HGu10 HGv6 HGb3 HGm2 LO17 hbgm
  have HSs16 := hide (HSs15.out.kept hkgb (by simp; first | exact ne_gs_gb | exact Ne.symm ne_gb_gs))
  have HSt13 := hide (HSt12.out.kept hkgb (by simp; first | exact ne_gt_gb | exact Ne.symm ne_gb_gt))
  have HSu10 := hide (HSu9.out.kept hkgb (by simp; first | exact ne_gu_gb | exact Ne.symm ne_gb_gu))
  have HSv6 := hide (HSv5.out.kept hkgb (by simp; first | exact ne_gx_gb | exact Ne.symm ne_gb_gx))
  have HGs18 := hide (HGs17.out.kept hBgb' (by decide) hkgb)
  have HGt15 := hide (HGt14.out.kept hBgb' (by decide) hkgb)
  have HGu12 := hide (HGu11.out.kept hBgb' (by decide) hkgb)
  have HGv8 := hide (HGv7.out.kept hBgb' (by decide) hkgb)
  have HGb5 := hide (HGb4.out.kept hBgb' (by decide) hkgb)
  have HGm4 := hide (HGm3.out.kept hBgb' (by decide) hkgb)
  have LO19 := hide (LO18.out.trans (hkgb.toBelow LO18.out.size (fun k hh => by simp at hh; omega)))
  clear HSs15 HSt12 HSu9 HSv5 HGs17 HGt14 HGu11 HGv7 HGb4 HGm3 LO18
  have hBgm' := hBgm.kept hkgb (by simp; exact Ne.symm ne_gb_gm)
  have hSgb' := hSgb.kept hkgm (by simp; exact ne_gb_gm)
  have HSs17 := hide (HSs16.out.kept hkgm (by simp; first | exact ne_gs_gm | exact Ne.symm ne_gm_gs))
  have HSt14 := hide (HSt13.out.kept hkgm (by simp; first | exact ne_gt_gm | exact Ne.symm ne_gm_gt))
  have HSu11 := hide (HSu10.out.kept hkgm (by simp; first | exact ne_gu_gm | exact Ne.symm ne_gm_gu))
  have HSv7 := hide (HSv6.out.kept hkgm (by simp; first | exact ne_gx_gm | exact Ne.symm ne_gm_gx))
  have HGs19 := hide (HGs18.out.kept hBgm' (by decide) hkgm)
  have HGt16 := hide (HGt15.out.kept hBgm' (by decide) hkgm)
  have HGu13 := hide (HGu12.out.kept hBgm' (by decide) hkgm)
  have HGv9 := hide (HGv8.out.kept hBgm' (by decide) hkgm)
  have HGb6 := hide (HGb5.out.kept hBgm' (by decide) hkgm)
  have HGm5 := hide (HGm4.out.kept hBgm' (by decide) hkgm)
  have LO20 := hide (LO19.out.trans (hkgm.toBelow LO19.out.size (fun k hh => by simp at hh; omega)))
  clear HSs16 HSt13 HSu10 HSv6 HGs18 HGt15 HGu12 HGv8 HGb5 HGm4 LO19
  have HSb1 := hide hSgb'
  have HSm1 := hide hSgm
  clear hSgb hSgb' hSgm hkgb hkgm hBgb hBgm hBgb' hBgm' hlgb hlgm
  have k_gx_2 := (show _ = some (.slice A4 1 c4 : Value) from HSv7.out.c2)
  have k_gx_3 := (show _ = some (.int .i64 0 : Value) from (HSv7.out.c3).trans (by first | (rw [EV3.out]; done) | (rw [EV3.out]; rfl)))
  have k_gx_4 := (show _ = some (.int .i64 0 : Value) from (HSv7.out.c4).trans (by first | (rw [EV4.out]; done) | (rw [EV4.out]; rfl)))
  have k_gb_0 := (show _ = some (.int .i64 40 : Value) from HSb1.out.c0)
  have k_gb_1 := (show _ = some (.int .i64 60 : Value) from HSb1.out.c1)
  have k_gm_0 := (show _ = some (.int .i64 1 : Value) from HSm1.out.c0)
  have k_gm_1 := (show _ = some (.int .i64 1 : Value) from HSm1.out.c1)
  go_wp2_with (first | (refine wpList_load_scrG HSv7.out _ rfl (by rfl) rfl ?_) | (refine wpList_load_scrG HSb1.out _ rfl (by rfl) rfl ?_) | (refine wpList_load_scrG HSm1.out _ rfl (by rfl) rfl ?_))
  clear k_gx_2 k_gx_3 k_gx_4 k_gb_0 k_gb_1 k_gm_0 k_gm_1
  have hgv : IsG _ V.g (gv V.g.rows V.g.cols (.slice A4 1 c4)) := HGv9.out
  refine (sright_is V _ RV.out _ hgv (HSP.out.below LO20.out (by exact SLT.out))).mono ?_
  rintro e wr1 ⟨rfl, hr1⟩
  clear hgv
  have HSs18 := hide (HSs17.out.below hr1 HSs17.out.lt)
  have HSt15 := hide (HSt14.out.below hr1 HSt14.out.lt)
  have HSu12 := hide (HSu11.out.below hr1 HSu11.out.lt)
  have HSv8 := hide (HSv7.out.below hr1 HSv7.out.lt)
  have HSb2 := hide (HSb1.out.below hr1 HSb1.out.lt)
  have HSm2 := hide (HSm1.out.below hr1 HSm1.out.lt)
  have HGs20 := hide (HGs19.out.low hr1)
  have HGt17 := hide (HGt16.out.low hr1)
  have HGu14 := hide (HGu13.out.low hr1)
  have HGv10 := hide (HGv9.out.low hr1)
  have HGb7 := hide (HGb6.out.low hr1)
  have HGm6 := hide (HGm5.out.low hr1)
  have LO21 := hide (LO20.out.trans (hr1.mono LO20.out.size))
  clear HSs17 HSt14 HSu11 HSv7 HSb1 HSm1 HGs19 HGt16 HGu13 HGv9 HGb6 HGm5 LO20 hr1
  go_wp2_with (first | (refine wpList_load_scrG HSv8.out _ rfl (by rfl) rfl ?_) | (refine wpList_load_scrG HSb2.out _ rfl (by rfl) rfl ?_) | (refine wpList_load_scrG HSm2.out _ rfl (by rfl) rfl ?_))
  refine (sright_is (SN.full 40 60) _ RB.out _ HGb7.out (HSP.out.below LO21.out (by exact SLT.out))).mono ?_
  rintro e wr2 ⟨rfl, hr2⟩
  have HSs19 := hide (HSs18.out.below hr2 HSs18.out.lt)
  have HSt16 := hide (HSt15.out.below hr2 HSt15.out.lt)
  have HSu13 := hide (HSu12.out.below hr2 HSu12.out.lt)
  have HSv9 := hide (HSv8.out.below hr2 HSv8.out.lt)
  have HSb3 := hide (HSb2.out.below hr2 HSb2.out.lt)
  have HSm3 := hide (HSm2.out.below hr2 HSm2.out.lt)
  have HGs21 := hide (HGs20.out.low hr2)
  have HGt18 := hide (HGt17.out.low hr2)
  have HGu15 := hide (HGu14.out.low hr2)
  have HGv11 := hide (HGv10.out.low hr2)
  have HGb8 := hide (HGb7.out.low hr2)
  have HGm7 := hide (HGm6.out.low hr2)
  have LO22 := hide (LO21.out.trans (hr2.mono LO21.out.size))
  clear HSs18 HSt15 HSu12 HSv8 HSb2 HSm2 HGs20 HGt17 HGu14 HGv10 HGb7 HGm6 LO21 hr2
  go_wp2_with (first | (refine wpList_load_scrG HSv9.out _ rfl (by rfl) rfl ?_) | (refine wpList_load_scrG HSb3.out _ rfl (by rfl) rfl ?_) | (refine wpList_load_scrG HSm3.out _ rfl (by rfl) rfl ?_))
  refine (sright_is (SN.full 1 1) _ RS.out _ HGm7.out (HSP.out.below LO22.out (by exact SLT.out))).mono ?_
  rintro e wr3 ⟨rfl, hr3⟩
  have HSs20 := hide (HSs19.out.below hr3 HSs19.out.lt)
  have HSt17 := hide (HSt16.out.below hr3 HSt16.out.lt)
  have HSu14 := hide (HSu13.out.below hr3 HSu13.out.lt)
  have HSv10 := hide (HSv9.out.below hr3 HSv9.out.lt)
  have HSb4 := hide (HSb3.out.below hr3 HSb3.out.lt)
  have HSm4 := hide (HSm3.out.below hr3 HSm3.out.lt)
  have HGs22 := hide (HGs21.out.low hr3)
  have HGt19 := hide (HGt18.out.low hr3)
  have HGu16 := hide (HGu15.out.low hr3)
  have HGv12 := hide (HGv11.out.low hr3)
  have HGb9 := hide (HGb8.out.low hr3)
  have HGm8 := hide (HGm7.out.low hr3)
  have LO23 := hide (LO22.out.trans (hr3.mono LO22.out.size))
  clear HSs19 HSt16 HSu13 HSv9 HSb3 HSm3 HGs21 HGt18 HGu15 HGv11 HGb8 HGm7 LO22 hr3
  go_wp2_with fail
  refine (screenRuns_any _ (HSP.out.below LO23.out (by exact SLT.out))).mono ?_
  rintro e wr4 ⟨rfl, hr4⟩
  have HSs21 := hide (HSs20.out.below hr4 HSs20.out.lt)
  have HSt18 := hide (HSt17.out.below hr4 HSt17.out.lt)
  have HSu15 := hide (HSu14.out.below hr4 HSu14.out.lt)
  have HSv11 := hide (HSv10.out.below hr4 HSv10.out.lt)
  have HSb5 := hide (HSb4.out.below hr4 HSb4.out.lt)
  have HSm5 := hide (HSm4.out.below hr4 HSm4.out.lt)
  have HGs23 := hide (HGs22.out.low hr4)
  have HGt20 := hide (HGt19.out.low hr4)
  have HGu17 := hide (HGu16.out.low hr4)
  have HGv13 := hide (HGv12.out.low hr4)
  have HGb10 := hide (HGb9.out.low hr4)
  have HGm9 := hide (HGm8.out.low hr4)
  have LO24 := hide (LO23.out.trans (hr4.mono LO23.out.size))
  clear HSs20 HSt17 HSu14 HSv10 HSb4 HSm4 HGs22 HGt19 HGu16 HGv12 HGb9 HGm8 LO23 hr4
  go_wp2_with fail
  go_ret
  exact ⟨rfl, LO24.out⟩
end Go.Proofs.YtoffiekpmomfcaaDoor
