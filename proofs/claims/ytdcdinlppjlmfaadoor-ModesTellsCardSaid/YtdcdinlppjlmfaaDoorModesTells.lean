/- ModesTells: any screen, any mode: the whole screen behind it is the document's own; what is reported. (written by tools/genmodestells.py) -/
import Derived.Test.YtdcdinlppjlmfaaDoorModesRuns
import Derived.Test.YtdcdinlppjlmfaaDoorRefModes
import Derived.Test.YtdcdinlppjlmfaaDoorScreenEq
import Derived.Test.YtdcdinlppjlmfaaDoorScrRight
import Derived.Test.YtdcdinlppjlmfaaDoorScrStore
import Derived.Test.YtdcdinlppjlmfaaDoorKept
import Derived.Deep.DeepCutAuto
import Derived.Deep.CutBlock
set_option maxRecDepth 100000
namespace Go.Proofs.YtdcdinlppjlmfaaDoor
open Go Go.RowKit
set_option linter.unusedVariables false
theorem seen_m1 {w : World} {g B : Nat} {T : TypeId} {z : Int} (h : Box w g T #[.int .i64 z]) (hB : g < B) : Seen w B (some ⟨g, 0, none⟩) 1 ([z].map (Value.int .i64)) :=
  ⟨rfl, fun j u hu => by
    match j with
    | 0 =>
      simp at hu
      subst hu
      exact ⟨_, rfl, hB, h.cell 0⟩
    | j + 1 => simp at hu⟩
set_option maxHeartbeats 16000000 in
theorem modesTells_t (kcs : Array Value) (n1 raw : Int) (i : Nat) (on own : Bool) (S : SN.Sc) (w : World) (hk13 : kcs.size = 13) (hS : SN.RightS S) (hR5 : S.g.rows ≤ 5) (hK9 : S.g.cols ≤ 9) (hsp : Spans w) (hmt : MTab w) (hi : i ≤ 5) (hraw : -1 ≤ raw ∧ raw ≤ 65535 ∨ True)
    (KS : Hid (∀ w', Below w.heap.size w w' → Calls Tryd.prog 12 #[.agg kcs] w' (GotS w' S)))
    (WI : Hid (∀ w', Calls Tryd.prog 13 #[.int .i64 n1, .int .i64 0, .int .i64 5] w' fun e w'' => e = .returned (.int .i64 (i : Nat)) ∧ w' = w'')) :
    Calls Tryd.prog 4 #[.agg kcs, .int .i64 n1, .int .i64 raw, .bool on, .bool own] w fun e w' => e = .returned (.bool true) ∧ Below w.heap.size w w' := by
  have RS := hide hS
  have hN : S.g.rows * S.g.cols ≤ 45 := Nat.mul_le_mul hR5 hK9
  have HSP := hide hsp
  have HMT := hide hmt
  have SLT := hide hsp.lt
  have LO0 := hide (Below.refl w.heap.size w)
  obtain ⟨m, hm⟩ : ∃ m : Int, (if own = true then ([1, 6, 7, 25, 2, 0] : List Int).getD i 0 else raw) = m := ⟨_, rfl⟩
  obtain ⟨kn, hkn⟩ : ∃ b, decide (SN.IsMode m) = b := ⟨_, rfl⟩
  obtain ⟨fn, hfn⟩ : ∃ f : Int, (if on = true then (104 : Int) else 108) = f := ⟨_, rfl⟩
  obtain ⟨rp, hrp⟩ : ∃ r : Int, (if kn = true then (if on = true then (1 : Int) else 2) else 0) = r := ⟨_, rfl⟩
  obtain ⟨T, hT⟩ : ∃ T, SN.modeS S m on = T := ⟨_, rfl⟩
  have RT := hide (hT ▸ SN.right_mode hS m on : SN.RightS T)
  have hTg : T.g = S.g := hT ▸ SN.mode_g S m on
  have HTG := hide hTg
  have HTN := hide (show T.g.rows * T.g.cols ≤ 1099511627776 by rw [hTg]; omega)
  have HRP := hide (show SN.reportS T m = rp by
    subst hT hrp hkn
    by_cases h : SN.IsMode m
    · rw [SN.report_set S h on, decide_eq_true h]
      rfl
    · rw [SN.report_no _ h, decide_eq_false h]
      rfl)
  have MS := hide (fun w' v' h => hT ▸ mset_is S v' m on w' hS h)
  have MK := hide (fun w' (hb : Below w.heap.size w w') => hkn ▸ mknown_is m w' (hmt.keep hb))
  have EM := hide hm
  have EK := hide hkn
  have EF := hide hfn
  have ER := hide hrp
  have ET := hide hT
  clear hsp hmt hm hkn hfn hrp hT hTg hraw
  go_enter Tryd.func4, Tryd.ntmps4
  go_wp2_with (first | (refine wpList_box_ks hk13 rfl _ rfl rfl ?_; intro gk wk hKB hbk hlk) | (refine wpList_load_ks hKB rfl _ rfl rfl ?_))
  have LO1 := hide (LO0.out.trans (hbk.mono LO0.out.size))
  clear LO0 hbk
  refine (KS.out _ LO1.out).mono ?_
  rintro e wb1 ⟨v1, rfl, ⟨x1, rfl, hg1⟩, hb1⟩
  have LO2 := hide (LO1.out.trans (hb1.mono LO1.out.size))
  clear LO1 hb1
  obtain ⟨A1, c1, rfl⟩ := gv_slice hg1
  have HGs1 := hide hg1
  clear hg1
  go_upto_region 2 with (first | (refine wpList_alloc_scr rfl rfl ?_; intro gs wags csgs hBgs hzgs hbgs hlgs) | (refine wpList_store_scr hBgs hzgs rfl _ _ rfl rfl rfl rfl ?_; intro wsgs hSgs hkgs hqgs))
  have le_gs : w.heap.size ≤ gs := by have := LO2.out.size; omega
  have HGs2 := hide (HGs1.out.low hbgs)
  have LO3 := hide (LO2.out.trans (hbgs.mono LO2.out.size))
  clear HGs1 LO2 hbgs
  have HGs3 := hide (HGs2.out.kept hBgs (by decide) hkgs)
  have LO4 := hide (LO3.out.trans (hkgs.toBelow LO3.out.size (fun k hh => by simp at hh; omega)))
  clear HGs2 LO3
  have HSs1 := hide hSgs
  clear hSgs hkgs hBgs hlgs
  go_upto_if 21 with fail
  go_cut [12] from 20 to 26 (fun u wx => u = .int .i64 m ∧ Below wsgs.heap.size wsgs wx)
  case first =>
    cases own with
    | false =>
      obtain rfl : raw = m := EM.out
      go_wp2_with fail
      go_meet
      exact ⟨rfl, Below.refl _ _⟩
    | true =>
      have hc : i = 0 ∨ i = 1 ∨ i = 2 ∨ i = 3 ∨ i = 4 ∨ i = 5 := by omega
      rcases hc with rfl | rfl | rfl | rfl | rfl | rfl
      all_goals
        have em := EM.out
        simp at em
        subst em
        go_wp2_with fail
        refine (WI.out _).mono ?_
        rintro e w' ⟨rfl, rfl⟩
        go_wp2_with fail
        go_meet
        exact ⟨rfl, (Below.refl _ _).alloc (Nat.le_refl _) _⟩
  case rest =>
    obtain ⟨rfl, hbm⟩ := hcut
    rename World => wm
    have HSs2 := hide (HSs1.out.below hbm HSs1.out.lt)
    have HGs4 := hide (HGs3.out.low hbm)
    have LO5 := hide (LO4.out.trans (hbm.mono LO4.out.size))
    clear HSs1 HGs3 LO4 hbm
    go_upto_region 5 with fail
    go_cut [13] from 27 to 40 (fun u wx => u = .bool kn ∧ wx = wm)
    case first =>
      by_cases h1 : m = 1
      · subst h1
        obtain rfl : true = kn := by rw [← EK.out]; rfl
        go_wp2_with fail
        go_meet
        exact ⟨rfl, rfl⟩
      by_cases h6 : m = 6
      · subst h6
        obtain rfl : true = kn := by rw [← EK.out]; rfl
        go_wp2_with fail
        go_meet
        exact ⟨rfl, rfl⟩
      by_cases h7 : m = 7
      · subst h7
        obtain rfl : true = kn := by rw [← EK.out]; rfl
        go_wp2_with fail
        go_meet
        exact ⟨rfl, rfl⟩
      by_cases h25 : m = 25
      · subst h25
        obtain rfl : true = kn := by rw [← EK.out]; rfl
        go_wp2_with fail
        go_meet
        exact ⟨rfl, rfl⟩
      obtain rfl : false = kn := by rw [← EK.out]; exact (decide_eq_false (fun h => by unfold SN.IsMode at h; omega)).symm
      have q1 : (m == 1) = false := by simp; omega
      have q6 : (m == 6) = false := by simp; omega
      have q7 : (m == 7) = false := by simp; omega
      have q25 : (m == 25) = false := by simp; omega
      clear h1 h6 h7 h25
      go_wp2_with fail
      go_meet
      exact ⟨rfl, rfl⟩
    case rest =>
      obtain ⟨rfl, hw⟩ := hcut
      subst hw
      rename World => wm
      go_upto_if 41 with fail
      go_cut [14] from 41 to 42 (fun u wx => u = .int .u8 fn ∧ wx = wm)
      case first =>
        cases on with
        | true =>
          obtain rfl : (104 : Int) = fn := EF.out
          go_wp2_with fail
          go_meet
          exact ⟨rfl, rfl⟩
        | false =>
          obtain rfl : (108 : Int) = fn := EF.out
          go_wp2_with fail
          go_meet
          exact ⟨rfl, rfl⟩
      case rest =>
        obtain ⟨rfl, hw⟩ := hcut
        subst hw
        rename World => wm
        go_upto_region 10 with (first | (refine wpList_alloc_scr rfl rfl ?_; intro gw wagw csgw hBgw hzgw hbgw hlgw) | (refine wpList_store_scr hBgw hzgw rfl _ _ rfl rfl rfl rfl ?_; intro wsgw hSgw hkgw hqgw) | (refine wpList_load_scr HSs2.out rfl _ rfl rfl ?_))
        have ne_gs_gw : gs ≠ gw := by have := HSs2.out.lt; omega
        have le_gw : w.heap.size ≤ gw := by have := LO5.out.size; omega
        have HSs3 := hide (HSs2.out.below hbgw HSs2.out.lt)
        have HGs5 := hide (HGs4.out.low hbgw)
        have LO6 := hide (LO5.out.trans (hbgw.mono LO5.out.size))
        clear HSs2 HGs4 LO5 hbgw
        have HSs4 := hide (HSs3.out.kept hkgw (by simp; first | exact ne_gs_gw | exact Ne.symm ne_gw_gs))
        have HGs6 := hide (HGs5.out.kept hBgw (by decide) hkgw)
        have LO7 := hide (LO6.out.trans (hkgw.toBelow LO6.out.size (fun k hh => by simp at hh; omega)))
        clear HSs3 HGs5 LO6
        have HSw1 := hide hSgw
        clear hSgw hkgw hBgw hlgw
        clear hqgw hqgs
        go_simp
        go_upto_if 43 with fail
        go_cut [] from 43 to 50 (fun wx => ∃ Aw cw, SBox wx gw (.slice Aw (T.g.rows * T.g.cols) cw) T ∧ IsG wx T.g (gv T.g.rows T.g.cols (.slice Aw (T.g.rows * T.g.cols) cw)) ∧ Kept [some gw] wsgw wx)
        case first =>
          cases kn with
          | false =>
            have hno : ¬ SN.IsMode m := of_decide_eq_false EK.out
            obtain rfl : S = T := (SN.mode_no S on hno).symm.trans ET.out
            go_wp2_with fail
            go_meet
            exact ⟨_, _, HSw1.out, HGs6.out, Kept.refl _ _⟩
          | true =>
            have hmb : SN.IsMode m := of_decide_eq_true EK.out
            have hm2 : -1 ≤ m ∧ m ≤ 65535 := by unfold SN.IsMode at hmb; omega
            have DO := hide (fun gm w' v' (hb : Box w' gm 3 #[.int .i64 m]) h => (show Calls Tryd.prog 14 #[v', .agg #[.int .i64 4, .int .i32 0, .int .u8 63, .int .u8 0, .int .u8 fn, .slice (some ⟨gm, 0, none⟩) 1 1, .string { data := #[] }]] w' (GotS w' T) from ET.out ▸ rdo_mode S v' m fn on 0 (some ⟨gm, 0, none⟩) 1 (gm + 1) { data := #[] } w' RS.out (seen_m1 hb (Nat.lt_succ_self _)) hb.lt (by omega) hm2 EF.out h))
            clear hmb hm2
            go_wp2_with (refine wpList_load_scr HSs4.out rfl _ rfl rfl ?_)
            have hBm := Box.new wsgw 3 #[.int .i64 m]
            have hbm := (Below.refl wsgw.heap.size wsgw).alloc (Nat.le_refl _) (.cells #[.int .i64 m] 3)
            refine (DO.out _ _ _ hBm ⟨_, rfl, HGs6.out.low hbm⟩).mono ?_
            rintro e wd ⟨vd, rfl, ⟨xd, rfl, hgd⟩, hbd⟩
            obtain ⟨Ad, cd, rfl⟩ := gv_slice hgd
            have hsw := (HSw1.out.below hbm HSw1.out.lt).below hbd (HSw1.out.below hbm HSw1.out.lt).lt
            have hkd : Kept [some gw] wsgw wd := Kept.of_below (hbm.trans (hbd.mono hbm.size))
            clear hBm hbm hbd
            go_wp2_with (refine wpList_store_scr hsw rfl rfl _ _ rfl rfl rfl rfl ?_; intro we hBe hke hse)
            go_meet
            exact ⟨_, _, hBe, hgd.kept hsw (by decide) hke, hkd.trans hke (fun x hx => From.mem (by simp at hx; simp [hx]))⟩
        case rest =>
          obtain ⟨Aw, cw, hBw, hGw, hkw⟩ := hcut
          rename World => wx1
          have HSs5 := hide (HSs4.out.kept hkw (by simp; exact ne_gs_gw))
          clear HSs4
          have HGs7 := hide (HGs6.out.kept HSw1.out (by decide) hkw)
          clear HGs6
          have LO8 := hide (LO7.out.trans (hkw.toBelow LO7.out.size (fun k hh => by simp at hh; have := le_gw; omega)))
          clear LO7 HSw1 hkw
          have HSw2 := hide hBw
          clear hBw
          have HGw1 := hide hGw
          clear hGw
          go_wp2_with (refine wpList_load_scr HSs5.out rfl _ rfl rfl ?_)
          refine (MS.out _ _ ⟨_, rfl, HGs7.out⟩).mono ?_
          rintro e wb5 ⟨v5, rfl, ⟨x5, rfl, hg5⟩, hb5⟩
          have HSs6 := hide (HSs5.out.below hb5 HSs5.out.lt)
          have HSw3 := hide (HSw2.out.below hb5 HSw2.out.lt)
          have HGs8 := hide (HGs7.out.low hb5)
          have HGw2 := hide (HGw1.out.low hb5)
          have LO9 := hide (LO8.out.trans (hb5.mono LO8.out.size))
          clear HSs5 HSw2 HGs7 HGw1 LO8 hb5
          obtain ⟨A5, c5, rfl⟩ := gv_slice hg5
          have HGt1 := hide hg5
          clear hg5
          go_upto_region 13 with (first | (refine wpList_alloc_scr rfl rfl ?_; intro gt wagt csgt hBgt hzgt hbgt hlgt) | (refine wpList_store_scr hBgt hzgt rfl _ _ rfl rfl rfl rfl ?_; intro wsgt hSgt hkgt hqgt))
          have ne_gs_gt : gs ≠ gt := by have := HSs6.out.lt; omega
          have ne_gw_gt : gw ≠ gt := by have := HSw3.out.lt; omega
          have le_gt : w.heap.size ≤ gt := by have := LO9.out.size; omega
          have HSs7 := hide (HSs6.out.below hbgt HSs6.out.lt)
          have HSw4 := hide (HSw3.out.below hbgt HSw3.out.lt)
          have HGs9 := hide (HGs8.out.low hbgt)
          have HGw3 := hide (HGw2.out.low hbgt)
          have HGt2 := hide (HGt1.out.low hbgt)
          have LO10 := hide (LO9.out.trans (hbgt.mono LO9.out.size))
          clear HSs6 HSw3 HGs8 HGw2 HGt1 LO9 hbgt
          have HSs8 := hide (HSs7.out.kept hkgt (by simp; first | exact ne_gs_gt | exact Ne.symm ne_gt_gs))
          have HSw5 := hide (HSw4.out.kept hkgt (by simp; first | exact ne_gw_gt | exact Ne.symm ne_gt_gw))
          have HGs10 := hide (HGs9.out.kept hBgt (by decide) hkgt)
          have HGw4 := hide (HGw3.out.kept hBgt (by decide) hkgt)
          have HGt3 := hide (HGt2.out.kept hBgt (by decide) hkgt)
          have LO11 := hide (LO10.out.trans (hkgt.toBelow LO10.out.size (fun k hh => by simp at hh; omega)))
          clear HSs7 HSw4 HGs9 HGw3 HGt2 LO10
          have HSt1 := hide hSgt
          clear hSgt hkgt hBgt hlgt
          clear hqgt
          go_simp
          go_upto_if 54 with fail
          go_cut [17] from 54 to 56 (fun u wx => u = .int .i64 rp ∧ wx = wsgt)
          case first =>
            cases kn with
            | false =>
              obtain rfl : (0 : Int) = rp := ER.out
              go_wp2_with fail
              go_meet
              exact ⟨rfl, rfl⟩
            | true =>
              cases on with
              | true =>
                obtain rfl : (1 : Int) = rp := ER.out
                go_wp2_with fail
                go_meet
                exact ⟨rfl, rfl⟩
              | false =>
                obtain rfl : (2 : Int) = rp := ER.out
                go_wp2_with fail
                go_meet
                exact ⟨rfl, rfl⟩
          case rest =>
            obtain ⟨rfl, hw⟩ := hcut
            subst hw
            rename World => wsgt
            go_wp2_with (first | (refine wpList_load_scr HSt1.out rfl _ rfl rfl ?_) | (refine wpList_load_scr HSw5.out rfl _ rfl rfl ?_))
            refine (screens_is T _ _ _ _ _ HTN.out HGt3.out HGw4.out).mono ?_
            rintro e wq1 ⟨rfl, hq1⟩
            have HSs9 := hide (HSs8.out.below hq1 HSs8.out.lt)
            have HSw6 := hide (HSw5.out.below hq1 HSw5.out.lt)
            have HSt2 := hide (HSt1.out.below hq1 HSt1.out.lt)
            have HGs11 := hide (HGs10.out.low hq1)
            have HGw5 := hide (HGw4.out.low hq1)
            have HGt4 := hide (HGt3.out.low hq1)
            have LO12 := hide (LO11.out.trans (hq1.mono LO11.out.size))
            clear HSs8 HSw5 HSt1 HGs10 HGw4 HGt3 LO11 hq1
            go_wp2_with (first | (refine wpList_load_scrG HSt2.out _ rfl (by rfl) rfl ?_))
            refine (sright_is T _ RT.out _ HGt4.out (HSP.out.below LO12.out (by exact SLT.out))).mono ?_
            rintro e wq2 ⟨rfl, hq2⟩
            have HSs10 := hide (HSs9.out.below hq2 HSs9.out.lt)
            have HSw7 := hide (HSw6.out.below hq2 HSw6.out.lt)
            have HSt3 := hide (HSt2.out.below hq2 HSt2.out.lt)
            have HGs12 := hide (HGs11.out.low hq2)
            have HGw6 := hide (HGw5.out.low hq2)
            have HGt5 := hide (HGt4.out.low hq2)
            have LO13 := hide (LO12.out.trans (hq2.mono LO12.out.size))
            clear HSs9 HSw6 HSt2 HGs11 HGw5 HGt4 LO12 hq2
            go_wp2_with fail
            refine (MK.out _ LO13.out).mono ?_
            rintro e wq3 ⟨rfl, hq3⟩
            have HSs11 := hide (HSs10.out.below hq3 HSs10.out.lt)
            have HSw8 := hide (HSw7.out.below hq3 HSw7.out.lt)
            have HSt4 := hide (HSt3.out.below hq3 HSt3.out.lt)
            have HGs13 := hide (HGs12.out.low hq3)
            have HGw7 := hide (HGw6.out.low hq3)
            have HGt6 := hide (HGt5.out.low hq3)
            have LO14 := hide (LO13.out.trans (hq3.mono LO13.out.size))
            clear HSs10 HSw7 HSt3 HGs12 HGw6 HGt5 LO13 hq3
            have hbb : (kn == kn) = true := by simp
            go_wp2_with (first | (refine wpList_load_scrG HSt4.out _ rfl (by rfl) rfl ?_))
            refine (mreport_is T _ m _ (HMT.out.keep LO14.out) ⟨_, rfl, HGt6.out⟩).mono ?_
            rintro e wq4 ⟨rfl, hq4⟩
            rw [HRP.out]
            have HSs12 := hide (HSs11.out.below hq4 HSs11.out.lt)
            have HSw9 := hide (HSw8.out.below hq4 HSw8.out.lt)
            have HSt5 := hide (HSt4.out.below hq4 HSt4.out.lt)
            have HGs14 := hide (HGs13.out.low hq4)
            have HGw8 := hide (HGw7.out.low hq4)
            have HGt7 := hide (HGt6.out.low hq4)
            have LO15 := hide (LO14.out.trans (hq4.mono LO14.out.size))
            clear HSs11 HSw8 HSt4 HGs13 HGw7 HGt6 LO14 hq4
            have hrr : (rp == rp) = true := by simp
            go_wp2_with fail
            refine (modesRuns_any _ (HMT.out.keep LO15.out)).mono ?_
            rintro e wq5 ⟨rfl, hq5⟩
            have HSs13 := hide (HSs12.out.below hq5 HSs12.out.lt)
            have HSw10 := hide (HSw9.out.below hq5 HSw9.out.lt)
            have HSt6 := hide (HSt5.out.below hq5 HSt5.out.lt)
            have HGs15 := hide (HGs14.out.low hq5)
            have HGw9 := hide (HGw8.out.low hq5)
            have HGt8 := hide (HGt7.out.low hq5)
            have LO16 := hide (LO15.out.trans (hq5.mono LO15.out.size))
            clear HSs12 HSw9 HSt5 HGs14 HGw8 HGt7 LO15 hq5
            go_wp2_with fail
            go_ret
            exact ⟨rfl, LO16.out⟩
end Go.Proofs.YtdcdinlppjlmfaaDoor
