/- CursorGo: gone to any place the cursor is at the nearest one; with origin within the margins; home is gone to nought. (written by tools/gencursorgo.py) -/
import Derived.Test.YtbhnipepbckalaaDoorCursorRuns
import Derived.Test.YtbhnipepbckalaaDoorScrStore
import Derived.Test.YtbhnipepbckalaaDoorKept
import Derived.Deep.DeepCutAuto
set_option maxRecDepth 100000
namespace Go.Proofs.YtbhnipepbckalaaDoor
open Go.RowKit
set_option linter.unusedVariables false
set_option maxHeartbeats 16000000 in
theorem cursorGo_t (kcs : Array Value) (r1 c1 : Int) (y x : Nat) (S : SN.Sc) (w : World) (hk13 : kcs.size = 13) (hS : SN.RightS S) (hR5 : S.g.rows ≤ 5) (hK9 : S.g.cols ≤ 9) (hsp : Spans w) (hy : y ≤ 99) (hx : x ≤ 99)
    (KS : Hid (∀ w', Below w.heap.size w w' → Calls Tryd.prog 12 #[.agg kcs] w' (GotS w' S)))
    (WY : Hid (∀ w', Calls Tryd.prog 13 #[.int .i64 r1, .int .i64 0, .int .i64 99] w' fun e w'' => e = .returned (.int .i64 (y : Nat)) ∧ w' = w''))
    (WX : Hid (∀ w', Calls Tryd.prog 13 #[.int .i64 c1, .int .i64 0, .int .i64 99] w' fun e w'' => e = .returned (.int .i64 (x : Nat)) ∧ w' = w'')) :
    Calls Tryd.prog 7 #[.agg kcs, .int .i64 r1, .int .i64 c1] w fun e w' => e = .returned (.bool true) ∧ Below w.heap.size w w' := by
  have q1 := hS.g.1
  have q2 := hS.g.2.2.1
  have htop := SN.top_bot hS
  have hbot := hS.bot
  have hgo := SN.go_row hS y (x : Int)
  have GT := hide (fun w' v h => cgo_is S v (y : Int) (x : Int) w' hS (by omega) (by omega) h)
  have HM := hide (fun w' v h => chome_is S v w' hS h)
  have GZ := hide (fun w' v h => (show Calls Tryd.prog 22 #[v, .int .i64 0, .int .i64 0] w' (GotS w' (SN.homeS S)) from cgo_is S v 0 0 w' hS (by omega) (by omega) h))
  have AF := hide (fun w' v h => cat_is S v 1073741824 1073741824 w' hS (by omega) (by omega) h)
  have AN := hide (fun w' v h => cat_is S v (-1073741824) (-1073741824) w' hS (by omega) (by omega) h)
  have hcol : ((SN.goS S y x).col : Int) = min (max (x : Int) 0) ((S.g.cols : Int) - 1) := SN.pin_is _ q2
  have hfr : ((SN.atS S 1073741824 1073741824).row : Int) = min (max (1073741824 : Int) 0) ((S.g.rows : Int) - 1) := SN.pin_is _ q1
  have hfc : ((SN.atS S 1073741824 1073741824).col : Int) = min (max (1073741824 : Int) 0) ((S.g.cols : Int) - 1) := SN.pin_is _ q2
  have hnr : ((SN.atS S (-1073741824) (-1073741824)).row : Int) = min (max (-1073741824 : Int) 0) ((S.g.rows : Int) - 1) := SN.pin_is _ q1
  have hnc : ((SN.atS S (-1073741824) (-1073741824)).col : Int) = min (max (-1073741824 : Int) 0) ((S.g.cols : Int) - 1) := SN.pin_is _ q2
  have htp : (SN.goS S y x).pend = false := rfl
  have hnh : (SN.homeS S).g.rows * (SN.homeS S).g.cols ≤ 1099511627776 := by
    have : S.g.rows * S.g.cols ≤ 5 * 9 := Nat.mul_le_mul hR5 hK9
    show S.g.rows * S.g.cols ≤ _
    omega
  generalize SN.goS S y x = T at GT hgo hcol htp
  generalize SN.homeS S = H at HM GZ hnh
  generalize SN.atS S 1073741824 1073741824 = F at AF hfr hfc
  generalize SN.atS S (-1073741824) (-1073741824) = E at AN hnr hnc
  have HNH := hide hnh
  have ETP := hide htp
  have EFR := hide (show (F.row : Int) = (S.g.rows : Int) - 1 by omega)
  have EFC := hide (show (F.col : Int) = (S.g.cols : Int) - 1 by omega)
  have EER := hide (show (E.row : Int) = 0 by omega)
  have EEC := hide (show (E.col : Int) = 0 by omega)
  obtain ⟨b, hb⟩ : ∃ b : Nat, T.col = b := ⟨_, rfl⟩
  have ETC := hide hb
  have hcmp : ((b : Int) == (if ((S.g.cols : Int) - 1 < (x : Int)) then (S.g.cols : Int) - 1 else (x : Int))) = true := by
    simp only [beq_iff_eq]
    split <;> omega
  have EA4 := hide (min_if y q1)
  have HSP := hide hsp
  have SLT := hide hsp.lt
  have LO0 := hide (Below.refl w.heap.size w)
  obtain ⟨a, ha⟩ : ∃ a : Nat, T.row = a := ⟨_, rfl⟩
  have ETR := hide ha
  clear hfr hfc hnr hnc hcol hnh htp hb hsp
  cases hO : S.org with
  | false =>
    rw [hO, if_neg (by decide)] at hgo
    rw [show ((min y (S.g.rows - 1) : Nat)) = a by omega] at EA4
    clear hgo ha
    go_enter Tryd.func7, Tryd.ntmps7
    go_wp2_with (first | (refine wpList_box_ks hk13 rfl _ rfl rfl ?_; intro gk wk hKB hbk hlk) | (refine wpList_load_ks hKB rfl _ rfl rfl ?_))
    have LO1 := hide (LO0.out.trans (hbk.mono LO0.out.size))
    clear LO0 hbk
    refine (KS.out _ LO1.out).mono ?_
    rintro e wb1 ⟨v1, rfl, ⟨x1, rfl, hg1⟩, hb1⟩
    have LO2 := hide (LO1.out.trans (hb1.mono LO1.out.size))
    clear LO1 hb1
    obtain ⟨A1, c1', rfl⟩ := gv_slice hg1
    have HGs1 := hide hg1
    clear hg1
    go_upto_region 2 with (first | (refine wpList_alloc_scr rfl rfl ?_; intro gs wags csgs hBgs hzgs hbgs hlgs) | (refine wpList_store_scr hBgs hzgs rfl _ _ rfl rfl rfl rfl ?_; intro wsgs hSgs hkgs hqgs))
    have le_gs : w.heap.size ≤ gs := by have := LO2.out.size; omega
    have HGs2 := hide (HGs1.out.low hbgs)
    have LO3 := hide (LO2.out.trans (hbgs.mono LO2.out.size))
    clear HGs1 LO2 hbgs
    have HGs3 := hide (HGs2.out.kept hBgs (by decide) hkgs)
    have LO4 := hide (LO3.out.trans (hkgs.toBelow LO3.out.size (fun k hh => by simp at hh; omega)))
    clear HGs2 LO3
    have HSs1 := hide hSgs
    clear hSgs hkgs hBgs hlgs
    go_wp2_with fail
    refine (WY.out _).mono ?_
    rintro e w' ⟨rfl, rfl⟩
    go_wp2_with fail
    refine (WX.out _).mono ?_
    rintro e w' ⟨rfl, rfl⟩
    go_wp2_with (first | (refine wpList_load_scr HSs1.out rfl _ rfl rfl ?_))
    refine (GT.out _ _ ⟨_, rfl, HGs3.out⟩).mono ?_
    rintro e wb2 ⟨v2, rfl, ⟨x2, rfl, hg2⟩, hb2⟩
    have HSs2 := hide (HSs1.out.below hb2 HSs1.out.lt)
    have HGs4 := hide (HGs3.out.low hb2)
    have LO5 := hide (LO4.out.trans (hb2.mono LO4.out.size))
    clear HSs1 HGs3 LO4 hb2
    obtain ⟨A2, c2, rfl⟩ := gv_slice hg2
    have HGt1 := hide hg2
    clear hg2
    go_upto_region 4 with (first | (refine wpList_alloc_scr rfl rfl ?_; intro gt wagt csgt hBgt hzgt hbgt hlgt) | (refine wpList_store_scr hBgt hzgt rfl _ _ rfl rfl rfl rfl ?_; intro wsgt hSgt hkgt hqgt))
    have ne_gs_gt : gs ≠ gt := by have := HSs2.out.lt; omega
    have le_gt : w.heap.size ≤ gt := by have := LO5.out.size; omega
    have HSs3 := hide (HSs2.out.below hbgt HSs2.out.lt)
    have HGs5 := hide (HGs4.out.low hbgt)
    have HGt2 := hide (HGt1.out.low hbgt)
    have LO6 := hide (LO5.out.trans (hbgt.mono LO5.out.size))
    clear HSs2 HGs4 HGt1 LO5 hbgt
    have HSs4 := hide (HSs3.out.kept hkgt (by simp; first | exact ne_gs_gt | exact Ne.symm ne_gt_gs))
    have HGs6 := hide (HGs5.out.kept hBgt (by decide) hkgt)
    have HGt3 := hide (HGt2.out.kept hBgt (by decide) hkgt)
    have LO7 := hide (LO6.out.trans (hkgt.toBelow LO6.out.size (fun k hh => by simp at hh; omega)))
    clear HSs3 HGs5 HGt2 LO6
    have HSt1 := hide hSgt
    clear hSgt hkgt hBgt hlgt
    have k_gs_0 := (show _ = some (.int .i64 (S.g.rows : Nat) : Value) from HSs4.out.c0)
    have k_gs_16 := (show _ = some (.bool false : Value) from (HSs4.out.c16).trans (by first | (rw [hO]; done) | (rw [hO]; rfl)))
    have k_gs_6 := (show _ = some (.int .i64 (S.top : Nat) : Value) from HSs4.out.c6)
    have k_gs_7 := (show _ = some (.int .i64 (S.bot : Nat) : Value) from HSs4.out.c7)
    go_upto_region 5 with fail
    simp only [EA4.out]
    go_upto_region 7 with fail
    clear k_gs_0 k_gs_16 k_gs_6 k_gs_7
    go_simp
    go_cut [12, 13] from 12 to 44 (fun ua ub wx => ∃ gh go_ A3a c3a A3b c3b, ua = .pointer (some ⟨gh, 0, none⟩) ∧ ub = .pointer (some ⟨go_, 0, none⟩) ∧ (wsgt.heap.size ≤ gh ∧ wsgt.heap.size ≤ go_ ∧ gh ≠ go_) ∧ SBox wx gh (.slice A3a (H.g.rows * H.g.cols) c3a) H ∧ SBox wx go_ (.slice A3b (H.g.rows * H.g.cols) c3b) H ∧ IsG wx H.g (gv H.g.rows H.g.cols (.slice A3a (H.g.rows * H.g.cols) c3a)) ∧ IsG wx H.g (gv H.g.rows H.g.cols (.slice A3b (H.g.rows * H.g.cols) c3b)) ∧ Below wsgt.heap.size wsgt wx)
    case first =>
      refine wp_region_gj (n := 105) [] (fun _ => #[]) [(0, 0, 0, 0, 0), (1, 0, 0, 0, 0), (0, 0, 0, 0, 0), (1, 0, 0, 0, 0), (2, 0, 0, 32, 29), (2, 0, 0, 32, 29), (3, 4, 1, 32, 29), (3, 5, 3, 32, 29)] (fun j => [(.agg (scA (.slice A1 (S.g.rows * S.g.cols) c1') S)), undef, (.agg (scA (.slice A1 (S.g.rows * S.g.cols) c1') S)), undef, undef, undef, undef, undef].getD j undef) [none, some (ScrV H), none, some (ScrV H)] (fun _ => 0) (by kernel_rfl) (by kernel_rfl) (by kernel_rfl) rfl (by kernel_rfl) (gno4 rfl) (fun i j h => by revert h; exact gno4 (p := fun _ => _) rfl i) (AllG.none_ (AllG.some_ (ScrV.stays (by kernel_rfl)) (AllG.none_ (AllG.some_ (ScrV.stays (by kernel_rfl)) (AllG.nil _))))) (fun hGS => cases8 ⟨?_, ?_, ?_, ?_, ?_, ?_, ?_, ?_⟩) ?_
      · intro L a w' hL hsame hsz hJ hdep hcl
        have hb := hJ.kept.toBelow (Nat.le_refl _) (by simp)
        have e0 : a.eval (.tmp 7) = (.pointer (some ⟨gs, 0, none⟩)) := eval_base hsame (by kernel_rfl)
        have hx := hJ.keptBox ((show Box _ gs 32 (scA (.slice A1 (S.g.rows * S.g.cols) c1') S) from HSs4.out)) (by simp)
        exact Step.val _ rfl rfl (wanted_none rfl) (.agg (scA (.slice A1 (S.g.rows * S.g.cols) c1') S)) w' (fun ρ hρ => exec_load_any hx rfl ρ _ rfl ((hρ _).symm.trans e0)) (hJ.val hGS hcl hL rfl (Below.refl _ _) _ rfl)
      · intro L a w' hL hsame hsz hJ hdep hcl
        have hb := hJ.kept.toBelow (Nat.le_refl _) (by simp)
        have e0 : a.eval (.tmp 41) = (.agg (scA (.slice A1 (S.g.rows * S.g.cols) c1') S)) := eval_slot (j := 0) (by kernel_rfl) (hJ.valOf (by decide) (dep_of hdep 0 (by kernel_rfl)) rfl rfl)
        refine Step.call _ rfl rfl (wanted_none rfl) 23 #[.agg (scA (.slice A1 (S.g.rows * S.g.cols) c1') S)] (fun ρ hρ => ?_) ?_
        · skip
          rw [hρ] at e0
          have ef : ρ (.func 23) = .func (.func 23) #[] #[] := (hρ _).symm
          clear hJ hsame hdep hcl hρ hsz hb
          go_simp
        · refine (HM.out _ _ ⟨_, rfl, (HGs6.out.low hb)⟩).mono ?_
          rintro e w2 ⟨v, rfl, hi, bb⟩
          exact ⟨_, rfl, hJ.pred hGS hcl hL rfl bb _ (scrV_of hi)⟩
      · intro L a w' hL hsame hsz hJ hdep hcl
        have hb := hJ.kept.toBelow (Nat.le_refl _) (by simp)
        have e0 : a.eval (.tmp 7) = (.pointer (some ⟨gs, 0, none⟩)) := eval_base hsame (by kernel_rfl)
        have hx := hJ.keptBox ((show Box _ gs 32 (scA (.slice A1 (S.g.rows * S.g.cols) c1') S) from HSs4.out)) (by simp)
        exact Step.val _ rfl rfl (wanted_none rfl) (.agg (scA (.slice A1 (S.g.rows * S.g.cols) c1') S)) w' (fun ρ hρ => exec_load_any hx rfl ρ _ rfl ((hρ _).symm.trans e0)) (hJ.val hGS hcl hL rfl (Below.refl _ _) _ rfl)
      · intro L a w' hL hsame hsz hJ hdep hcl
        have hb := hJ.kept.toBelow (Nat.le_refl _) (by simp)
        have e0 : a.eval (.tmp 43) = (.agg (scA (.slice A1 (S.g.rows * S.g.cols) c1') S)) := eval_slot (j := 2) (by kernel_rfl) (hJ.valOf (by decide) (dep_of hdep 2 (by kernel_rfl)) rfl rfl)
        refine Step.call _ rfl rfl (wanted_none rfl) 22 #[.agg (scA (.slice A1 (S.g.rows * S.g.cols) c1') S), .int .i64 0, .int .i64 0] (fun ρ hρ => ?_) ?_
        · skip
          rw [hρ] at e0
          have ec0 : ρ (.const (.int .i64 0)) = (.int .i64 0) := (hρ _).symm
          have ef : ρ (.func 22) = .func (.func 22) #[] #[] := (hρ _).symm
          clear hJ hsame hdep hcl hρ hsz hb
          go_simp
        · refine (GZ.out _ _ ⟨_, rfl, (HGs6.out.low hb)⟩).mono ?_
          rintro e w2 ⟨v, rfl, hi, bb⟩
          exact ⟨_, rfl, hJ.pred hGS hcl hL rfl bb _ (scrV_of hi)⟩
      · intro L a w' hL hsame hsz hJ hdep hcl
        have hb := hJ.kept.toBelow (Nat.le_refl _) (by simp)
        refine Step.val _ rfl rfl (wanted_none rfl) (.pointer (some ⟨w'.heap.size, 0, none⟩)) (w'.alloc (.cells #[.int .i64 0, .int .i64 0, .slice none 0 0, .int .i64 0, .int .i64 0, .bool false, .int .i64 0, .int .i64 0, .int .i64 0, .int .i64 0, .int .i64 0, .int .u64 0, .int .u8 0, .int .u8 0, .int .i64 0, .bool false, .bool false, .bool false, .bool false, .bool false, .int .i64 0, .int .i64 0, .int .i64 0, .int .i64 0, .int .i64 0, .int .u8 0, .int .u8 0, .int .i64 0, .bool false] 32)) (fun ρ hρ => ?_) (hJ.box hGS hcl hL rfl 32 rfl #[.int .i64 0, .int .i64 0, .slice none 0 0, .int .i64 0, .int .i64 0, .bool false, .int .i64 0, .int .i64 0, .int .i64 0, .int .i64 0, .int .i64 0, .int .u64 0, .int .u8 0, .int .u8 0, .int .i64 0, .bool false, .bool false, .bool false, .bool false, .bool false, .int .i64 0, .int .i64 0, .int .i64 0, .int .i64 0, .int .i64 0, .int .u8 0, .int .u8 0, .int .i64 0, .bool false] rfl)
        clear hJ hsame hdep hcl hρ hsz hb
        go_simp
      · intro L a w' hL hsame hsz hJ hdep hcl
        have hb := hJ.kept.toBelow (Nat.le_refl _) (by simp)
        refine Step.val _ rfl rfl (wanted_none rfl) (.pointer (some ⟨w'.heap.size, 0, none⟩)) (w'.alloc (.cells #[.int .i64 0, .int .i64 0, .slice none 0 0, .int .i64 0, .int .i64 0, .bool false, .int .i64 0, .int .i64 0, .int .i64 0, .int .i64 0, .int .i64 0, .int .u64 0, .int .u8 0, .int .u8 0, .int .i64 0, .bool false, .bool false, .bool false, .bool false, .bool false, .int .i64 0, .int .i64 0, .int .i64 0, .int .i64 0, .int .i64 0, .int .u8 0, .int .u8 0, .int .i64 0, .bool false] 32)) (fun ρ hρ => ?_) (hJ.box hGS hcl hL rfl 32 rfl #[.int .i64 0, .int .i64 0, .slice none 0 0, .int .i64 0, .int .i64 0, .bool false, .int .i64 0, .int .i64 0, .int .i64 0, .int .i64 0, .int .i64 0, .int .u64 0, .int .u8 0, .int .u8 0, .int .i64 0, .bool false, .bool false, .bool false, .bool false, .bool false, .int .i64 0, .int .i64 0, .int .i64 0, .int .i64 0, .int .i64 0, .int .u8 0, .int .u8 0, .int .i64 0, .bool false] rfl)
        clear hJ hsame hdep hcl hρ hsz hb
        go_simp
      · intro L a w' hL hsame hsz hJ hdep hcl
        have hb := hJ.kept.toBelow (Nat.le_refl _) (by simp)
        obtain ⟨A1', c1', hv1, hi1⟩ := (show (ScrV H) (valOf _ 1 a) w' from hJ.predOf (by decide) (dep_of hdep 1 (by kernel_rfl)) rfl)
        have es : a.eval (.tmp 42) = .agg (scA (.slice A1' (H.g.rows * H.g.cols) c1') H) := eval_slot (j := 1) (by kernel_rfl) hv1
        have la := dep_of hdep 4 (by kernel_rfl)
        obtain ⟨g, cs, hg, hg0, hx, hs⟩ := hJ.boxOf (j := 4) (by decide) la rfl
        have ea : a.eval (.tmp 12) = .pointer (some ⟨g, 0, none⟩) := eval_slot (j := 4) (by kernel_rfl) hg
        exact Step.skip _ rfl (wanted_none rfl) _ (fun ρ hρ => exec_store_any hx hs rfl (scA_one rfl _) ρ _ rfl ((hρ _).symm.trans ea) ((hρ _).symm.trans es)) (hJ.put hGS hcl hL rfl la (dep_of hdep 1 (by kernel_rfl)) hg rfl hv1)
      · intro L a w' hL hsame hsz hJ hdep hcl
        have hb := hJ.kept.toBelow (Nat.le_refl _) (by simp)
        obtain ⟨A3', c3', hv3, hi3⟩ := (show (ScrV H) (valOf _ 3 a) w' from hJ.predOf (by decide) (dep_of hdep 3 (by kernel_rfl)) rfl)
        have es : a.eval (.tmp 44) = .agg (scA (.slice A3' (H.g.rows * H.g.cols) c3') H) := eval_slot (j := 3) (by kernel_rfl) hv3
        have la := dep_of hdep 5 (by kernel_rfl)
        obtain ⟨g, cs, hg, hg0, hx, hs⟩ := hJ.boxOf (j := 5) (by decide) la rfl
        have ea : a.eval (.tmp 13) = .pointer (some ⟨g, 0, none⟩) := eval_slot (j := 5) (by kernel_rfl) hg
        exact Step.skip _ rfl (wanted_none rfl) _ (fun ρ hρ => exec_store_any hx hs rfl (scA_one rfl _) ρ _ rfl ((hρ _).symm.trans ea) ((hρ _).symm.trans es)) (hJ.put hGS hcl hL rfl la (dep_of hdep 3 (by kernel_rfl)) hg rfl hv3)
      · intro u w' hF
        change Exit.then _ _ Exit.normal (Act.put (Act.put (Act.put (Act.put (Act.put (Act.put (Act.put (Act.put (putAll _ u 0 _) (some 41) (u 0)) (some 42) (u 1)) (some 43) (u 2)) (some 44) (u 3)) (some 12) (u 4)) (some 13) (u 5)) none (u 6)) none (u 7)) _
        simp only [putAll]
        obtain ⟨Aa, ca, fa, hia⟩ := (show ScrV H (u 1) w' from hF.fin1 (j := 1) (by decide) rfl)
        obtain ⟨Ab, cb, fb, hib⟩ := (show ScrV H (u 3) w' from hF.fin1 (j := 3) (by decide) rfl)
        obtain ⟨ga, csa, va, la, _, _⟩ := (hF.all 4 (by decide) rfl).2.2.1 rfl
        obtain ⟨ga0, csa', va', fsa, hBa⟩ := (hF.all 6 (by decide) rfl).2.2.2.1 rfl
        obtain rfl : ga0 = ga := by
          have := va'.symm.trans va
          cases this
          rfl
        obtain rfl : csa' = scA (.slice Aa (H.g.rows * H.g.cols) ca) H := by
          have := fsa.symm.trans fa
          cases this
          rfl
        obtain ⟨gb, csb, vb, lb, _, _⟩ := (hF.all 5 (by decide) rfl).2.2.1 rfl
        obtain ⟨gb0, csb', vb', fsb, hBb⟩ := (hF.all 7 (by decide) rfl).2.2.2.1 rfl
        obtain rfl : gb0 = gb := by
          have := vb'.symm.trans vb
          cases this
          rfl
        obtain rfl : csb' = scA (.slice Ab (H.g.rows * H.g.cols) cb) H := by
          have := fsb.symm.trans fb
          cases this
          rfl
        have nab := hF.dist 4 5 rfl rfl rfl rfl (by decide)
        have hk := hF.kept.toBelow (Nat.le_refl _) (by simp)
        clear hF va' fsa vb' fsb
        generalize u 0 = y0
        generalize u 1 = y1 at fa ⊢
        generalize u 2 = y2
        generalize u 3 = y3 at fb ⊢
        generalize u 4 = y4 at va nab ⊢
        generalize u 5 = y5 at vb nab ⊢
        generalize u 6 = y6
        generalize u 7 = y7
        subst fa fb va vb
        have m1 : ga0 ≠ gb0 := fun e => nab (by rw [e])
        clear nab
        go_simp
        go_step
        go_meet
        exact ⟨ga0, gb0, Aa, ca, Ab, cb, rfl, rfl, ⟨la, lb, m1⟩, hBa, hBb, hia, hib, hk⟩
    case rest =>
      obtain ⟨gh, go_, A3a, c3a, A3b, c3b, rfl, rfl, ⟨lgh, lgo_, ne_gh_go_⟩, hBgh, hBgo_, high, higo_, hb3⟩ := hcut
      have ne_gs_gh : gs ≠ gh := by have := HSs4.out.lt; omega
      have ne_gs_go_ : gs ≠ go_ := by have := HSs4.out.lt; omega
      have ne_gt_gh : gt ≠ gh := by have := HSt1.out.lt; omega
      have ne_gt_go_ : gt ≠ go_ := by have := HSt1.out.lt; omega
      have le_gh : w.heap.size ≤ gh := by have := LO7.out.size; omega
      have le_go_ : w.heap.size ≤ go_ := by have := LO7.out.size; omega
      have HSs5 := hide (HSs4.out.below hb3 HSs4.out.lt)
      have HSt2 := hide (HSt1.out.below hb3 HSt1.out.lt)
      have HGs7 := hide (HGs6.out.low hb3)
      have HGt4 := hide (HGt3.out.low hb3)
      have LO8 := hide (LO7.out.trans (hb3.mono LO7.out.size))
      clear HSs4 HSt1 HGs6 HGt3 LO7 hb3
      have HSh1 := hide hBgh
      clear hBgh
      have HSo1 := hide hBgo_
      clear hBgo_
      have HGh1 := hide high
      clear high
      have HGo1 := hide higo_
      clear higo_
      rename World => wr3
      clear lgh lgo_
      go_upto_region 8 with fail
      go_simp
      go_cut [14, 15] from 14 to 48 (fun ua ub wx => ∃ gf gn A4a c4a A4b c4b, ua = .pointer (some ⟨gf, 0, none⟩) ∧ ub = .pointer (some ⟨gn, 0, none⟩) ∧ (wr3.heap.size ≤ gf ∧ wr3.heap.size ≤ gn ∧ gf ≠ gn) ∧ SBox wx gf (.slice A4a (F.g.rows * F.g.cols) c4a) F ∧ SBox wx gn (.slice A4b (E.g.rows * E.g.cols) c4b) E ∧ IsG wx F.g (gv F.g.rows F.g.cols (.slice A4a (F.g.rows * F.g.cols) c4a)) ∧ IsG wx E.g (gv E.g.rows E.g.cols (.slice A4b (E.g.rows * E.g.cols) c4b)) ∧ Below wr3.heap.size wr3 wx)
      case first =>
        refine wp_region_gj (n := 105) [] (fun _ => #[]) [(0, 0, 0, 0, 0), (1, 0, 0, 0, 0), (0, 0, 0, 0, 0), (1, 0, 0, 0, 0), (2, 0, 0, 32, 29), (2, 0, 0, 32, 29), (3, 4, 1, 32, 29), (3, 5, 3, 32, 29)] (fun j => [(.agg (scA (.slice A1 (S.g.rows * S.g.cols) c1') S)), undef, (.agg (scA (.slice A1 (S.g.rows * S.g.cols) c1') S)), undef, undef, undef, undef, undef].getD j undef) [none, some (ScrV F), none, some (ScrV E)] (fun _ => 0) (by kernel_rfl) (by kernel_rfl) (by kernel_rfl) rfl (by kernel_rfl) (gno4 rfl) (fun i j h => by revert h; exact gno4 (p := fun _ => _) rfl i) (AllG.none_ (AllG.some_ (ScrV.stays (by kernel_rfl)) (AllG.none_ (AllG.some_ (ScrV.stays (by kernel_rfl)) (AllG.nil _))))) (fun hGS => cases8 ⟨?_, ?_, ?_, ?_, ?_, ?_, ?_, ?_⟩) ?_
        · intro L a w' hL hsame hsz hJ hdep hcl
          have hb := hJ.kept.toBelow (Nat.le_refl _) (by simp)
          have e0 : a.eval (.tmp 7) = (.pointer (some ⟨gs, 0, none⟩)) := eval_base hsame (by kernel_rfl)
          have hx := hJ.keptBox ((show Box _ gs 32 (scA (.slice A1 (S.g.rows * S.g.cols) c1') S) from HSs5.out)) (by simp)
          exact Step.val _ rfl rfl (wanted_none rfl) (.agg (scA (.slice A1 (S.g.rows * S.g.cols) c1') S)) w' (fun ρ hρ => exec_load_any hx rfl ρ _ rfl ((hρ _).symm.trans e0)) (hJ.val hGS hcl hL rfl (Below.refl _ _) _ rfl)
        · intro L a w' hL hsame hsz hJ hdep hcl
          have hb := hJ.kept.toBelow (Nat.le_refl _) (by simp)
          have e0 : a.eval (.tmp 45) = (.agg (scA (.slice A1 (S.g.rows * S.g.cols) c1') S)) := eval_slot (j := 0) (by kernel_rfl) (hJ.valOf (by decide) (dep_of hdep 0 (by kernel_rfl)) rfl rfl)
          refine Step.call _ rfl rfl (wanted_none rfl) 15 #[.agg (scA (.slice A1 (S.g.rows * S.g.cols) c1') S), .int .i64 1073741824, .int .i64 1073741824] (fun ρ hρ => ?_) ?_
          · skip
            rw [hρ] at e0
            have ec0 : ρ (.const (.int .i64 1073741824)) = (.int .i64 1073741824) := (hρ _).symm
            have ef : ρ (.func 15) = .func (.func 15) #[] #[] := (hρ _).symm
            clear hJ hsame hdep hcl hρ hsz hb
            go_simp
          · refine (AF.out _ _ ⟨_, rfl, (HGs7.out.low hb)⟩).mono ?_
            rintro e w2 ⟨v, rfl, hi, bb⟩
            exact ⟨_, rfl, hJ.pred hGS hcl hL rfl bb _ (scrV_of hi)⟩
        · intro L a w' hL hsame hsz hJ hdep hcl
          have hb := hJ.kept.toBelow (Nat.le_refl _) (by simp)
          have e0 : a.eval (.tmp 7) = (.pointer (some ⟨gs, 0, none⟩)) := eval_base hsame (by kernel_rfl)
          have hx := hJ.keptBox ((show Box _ gs 32 (scA (.slice A1 (S.g.rows * S.g.cols) c1') S) from HSs5.out)) (by simp)
          exact Step.val _ rfl rfl (wanted_none rfl) (.agg (scA (.slice A1 (S.g.rows * S.g.cols) c1') S)) w' (fun ρ hρ => exec_load_any hx rfl ρ _ rfl ((hρ _).symm.trans e0)) (hJ.val hGS hcl hL rfl (Below.refl _ _) _ rfl)
        · intro L a w' hL hsame hsz hJ hdep hcl
          have hb := hJ.kept.toBelow (Nat.le_refl _) (by simp)
          have e0 : a.eval (.tmp 47) = (.agg (scA (.slice A1 (S.g.rows * S.g.cols) c1') S)) := eval_slot (j := 2) (by kernel_rfl) (hJ.valOf (by decide) (dep_of hdep 2 (by kernel_rfl)) rfl rfl)
          refine Step.call _ rfl rfl (wanted_none rfl) 15 #[.agg (scA (.slice A1 (S.g.rows * S.g.cols) c1') S), .int .i64 (-1073741824), .int .i64 (-1073741824)] (fun ρ hρ => ?_) ?_
          · skip
            rw [hρ] at e0
            have ec0 : ρ (.const (.int .i64 (-1073741824))) = (.int .i64 (-1073741824)) := (hρ _).symm
            have ef : ρ (.func 15) = .func (.func 15) #[] #[] := (hρ _).symm
            clear hJ hsame hdep hcl hρ hsz hb
            go_simp
          · refine (AN.out _ _ ⟨_, rfl, (HGs7.out.low hb)⟩).mono ?_
            rintro e w2 ⟨v, rfl, hi, bb⟩
            exact ⟨_, rfl, hJ.pred hGS hcl hL rfl bb _ (scrV_of hi)⟩
        · intro L a w' hL hsame hsz hJ hdep hcl
          have hb := hJ.kept.toBelow (Nat.le_refl _) (by simp)
          refine Step.val _ rfl rfl (wanted_none rfl) (.pointer (some ⟨w'.heap.size, 0, none⟩)) (w'.alloc (.cells #[.int .i64 0, .int .i64 0, .slice none 0 0, .int .i64 0, .int .i64 0, .bool false, .int .i64 0, .int .i64 0, .int .i64 0, .int .i64 0, .int .i64 0, .int .u64 0, .int .u8 0, .int .u8 0, .int .i64 0, .bool false, .bool false, .bool false, .bool false, .bool false, .int .i64 0, .int .i64 0, .int .i64 0, .int .i64 0, .int .i64 0, .int .u8 0, .int .u8 0, .int .i64 0, .bool false] 32)) (fun ρ hρ => ?_) (hJ.box hGS hcl hL rfl 32 rfl #[.int .i64 0, .int .i64 0, .slice none 0 0, .int .i64 0, .int .i64 0, .bool false, .int .i64 0, .int .i64 0, .int .i64 0, .int .i64 0, .int .i64 0, .int .u64 0, .int .u8 0, .int .u8 0, .int .i64 0, .bool false, .bool false, .bool false, .bool false, .bool false, .int .i64 0, .int .i64 0, .int .i64 0, .int .i64 0, .int .i64 0, .int .u8 0, .int .u8 0, .int .i64 0, .bool false] rfl)
          clear hJ hsame hdep hcl hρ hsz hb
          go_simp
        · intro L a w' hL hsame hsz hJ hdep hcl
          have hb := hJ.kept.toBelow (Nat.le_refl _) (by simp)
          refine Step.val _ rfl rfl (wanted_none rfl) (.pointer (some ⟨w'.heap.size, 0, none⟩)) (w'.alloc (.cells #[.int .i64 0, .int .i64 0, .slice none 0 0, .int .i64 0, .int .i64 0, .bool false, .int .i64 0, .int .i64 0, .int .i64 0, .int .i64 0, .int .i64 0, .int .u64 0, .int .u8 0, .int .u8 0, .int .i64 0, .bool false, .bool false, .bool false, .bool false, .bool false, .int .i64 0, .int .i64 0, .int .i64 0, .int .i64 0, .int .i64 0, .int .u8 0, .int .u8 0, .int .i64 0, .bool false] 32)) (fun ρ hρ => ?_) (hJ.box hGS hcl hL rfl 32 rfl #[.int .i64 0, .int .i64 0, .slice none 0 0, .int .i64 0, .int .i64 0, .bool false, .int .i64 0, .int .i64 0, .int .i64 0, .int .i64 0, .int .i64 0, .int .u64 0, .int .u8 0, .int .u8 0, .int .i64 0, .bool false, .bool false, .bool false, .bool false, .bool false, .int .i64 0, .int .i64 0, .int .i64 0, .int .i64 0, .int .i64 0, .int .u8 0, .int .u8 0, .int .i64 0, .bool false] rfl)
          clear hJ hsame hdep hcl hρ hsz hb
          go_simp
        · intro L a w' hL hsame hsz hJ hdep hcl
          have hb := hJ.kept.toBelow (Nat.le_refl _) (by simp)
          obtain ⟨A1', c1', hv1, hi1⟩ := (show (ScrV F) (valOf _ 1 a) w' from hJ.predOf (by decide) (dep_of hdep 1 (by kernel_rfl)) rfl)
          have es : a.eval (.tmp 46) = .agg (scA (.slice A1' (F.g.rows * F.g.cols) c1') F) := eval_slot (j := 1) (by kernel_rfl) hv1
          have la := dep_of hdep 4 (by kernel_rfl)
          obtain ⟨g, cs, hg, hg0, hx, hs⟩ := hJ.boxOf (j := 4) (by decide) la rfl
          have ea : a.eval (.tmp 14) = .pointer (some ⟨g, 0, none⟩) := eval_slot (j := 4) (by kernel_rfl) hg
          exact Step.skip _ rfl (wanted_none rfl) _ (fun ρ hρ => exec_store_any hx hs rfl (scA_one rfl _) ρ _ rfl ((hρ _).symm.trans ea) ((hρ _).symm.trans es)) (hJ.put hGS hcl hL rfl la (dep_of hdep 1 (by kernel_rfl)) hg rfl hv1)
        · intro L a w' hL hsame hsz hJ hdep hcl
          have hb := hJ.kept.toBelow (Nat.le_refl _) (by simp)
          obtain ⟨A3', c3', hv3, hi3⟩ := (show (ScrV E) (valOf _ 3 a) w' from hJ.predOf (by decide) (dep_of hdep 3 (by kernel_rfl)) rfl)
          have es : a.eval (.tmp 48) = .agg (scA (.slice A3' (E.g.rows * E.g.cols) c3') E) := eval_slot (j := 3) (by kernel_rfl) hv3
          have la := dep_of hdep 5 (by kernel_rfl)
          obtain ⟨g, cs, hg, hg0, hx, hs⟩ := hJ.boxOf (j := 5) (by decide) la rfl
          have ea : a.eval (.tmp 15) = .pointer (some ⟨g, 0, none⟩) := eval_slot (j := 5) (by kernel_rfl) hg
          exact Step.skip _ rfl (wanted_none rfl) _ (fun ρ hρ => exec_store_any hx hs rfl (scA_one rfl _) ρ _ rfl ((hρ _).symm.trans ea) ((hρ _).symm.trans es)) (hJ.put hGS hcl hL rfl la (dep_of hdep 3 (by kernel_rfl)) hg rfl hv3)
        · intro u w' hF
          change Exit.then _ _ Exit.normal (Act.put (Act.put (Act.put (Act.put (Act.put (Act.put (Act.put (Act.put (putAll _ u 0 _) (some 45) (u 0)) (some 46) (u 1)) (some 47) (u 2)) (some 48) (u 3)) (some 14) (u 4)) (some 15) (u 5)) none (u 6)) none (u 7)) _
          simp only [putAll]
          obtain ⟨Aa, ca, fa, hia⟩ := (show ScrV F (u 1) w' from hF.fin1 (j := 1) (by decide) rfl)
          obtain ⟨Ab, cb, fb, hib⟩ := (show ScrV E (u 3) w' from hF.fin1 (j := 3) (by decide) rfl)
          obtain ⟨ga, csa, va, la, _, _⟩ := (hF.all 4 (by decide) rfl).2.2.1 rfl
          obtain ⟨ga0, csa', va', fsa, hBa⟩ := (hF.all 6 (by decide) rfl).2.2.2.1 rfl
          obtain rfl : ga0 = ga := by
            have := va'.symm.trans va
            cases this
            rfl
          obtain rfl : csa' = scA (.slice Aa (F.g.rows * F.g.cols) ca) F := by
            have := fsa.symm.trans fa
            cases this
            rfl
          obtain ⟨gb, csb, vb, lb, _, _⟩ := (hF.all 5 (by decide) rfl).2.2.1 rfl
          obtain ⟨gb0, csb', vb', fsb, hBb⟩ := (hF.all 7 (by decide) rfl).2.2.2.1 rfl
          obtain rfl : gb0 = gb := by
            have := vb'.symm.trans vb
            cases this
            rfl
          obtain rfl : csb' = scA (.slice Ab (E.g.rows * E.g.cols) cb) E := by
            have := fsb.symm.trans fb
            cases this
            rfl
          have nab := hF.dist 4 5 rfl rfl rfl rfl (by decide)
          have hk := hF.kept.toBelow (Nat.le_refl _) (by simp)
          clear hF va' fsa vb' fsb
          generalize u 0 = y0
          generalize u 1 = y1 at fa ⊢
          generalize u 2 = y2
          generalize u 3 = y3 at fb ⊢
          generalize u 4 = y4 at va nab ⊢
          generalize u 5 = y5 at vb nab ⊢
          generalize u 6 = y6
          generalize u 7 = y7
          subst fa fb va vb
          have m1 : ga0 ≠ gb0 := fun e => nab (by rw [e])
          clear nab
          go_simp
          go_step
          go_meet
          exact ⟨ga0, gb0, Aa, ca, Ab, cb, rfl, rfl, ⟨la, lb, m1⟩, hBa, hBb, hia, hib, hk⟩
      case rest =>
        obtain ⟨gf, gn, A4a, c4a, A4b, c4b, rfl, rfl, ⟨lgf, lgn, ne_gf_gn⟩, hBgf, hBgn, higf, hign, hb4⟩ := hcut
        have ne_gs_gf : gs ≠ gf := by have := HSs5.out.lt; omega
        have ne_gs_gn : gs ≠ gn := by have := HSs5.out.lt; omega
        have ne_gt_gf : gt ≠ gf := by have := HSt2.out.lt; omega
        have ne_gt_gn : gt ≠ gn := by have := HSt2.out.lt; omega
        have ne_gh_gf : gh ≠ gf := by have := HSh1.out.lt; omega
        have ne_gh_gn : gh ≠ gn := by have := HSh1.out.lt; omega
        have ne_go__gf : go_ ≠ gf := by have := HSo1.out.lt; omega
        have ne_go__gn : go_ ≠ gn := by have := HSo1.out.lt; omega
        have le_gf : w.heap.size ≤ gf := by have := LO8.out.size; omega
        have le_gn : w.heap.size ≤ gn := by have := LO8.out.size; omega
        have HSs6 := hide (HSs5.out.below hb4 HSs5.out.lt)
        have HSt3 := hide (HSt2.out.below hb4 HSt2.out.lt)
        have HSh2 := hide (HSh1.out.below hb4 HSh1.out.lt)
        have HSo2 := hide (HSo1.out.below hb4 HSo1.out.lt)
        have HGs8 := hide (HGs7.out.low hb4)
        have HGt5 := hide (HGt4.out.low hb4)
        have HGh2 := hide (HGh1.out.low hb4)
        have HGo2 := hide (HGo1.out.low hb4)
        have LO9 := hide (LO8.out.trans (hb4.mono LO8.out.size))
        clear HSs5 HSt2 HSh1 HSo1 HGs7 HGt4 HGh1 HGo1 LO8 hb4
        have HSf1 := hide hBgf
        clear hBgf
        have HSn1 := hide hBgn
        clear hBgn
        have HGf1 := hide higf
        clear higf
        have HGn1 := hide hign
        clear hign
        rename World => wr4
        clear lgf lgn
        by_cases hmx : (S.g.cols : Int) - 1 < (x : Int)
        · as_aux_lemma =>
            have hcm := hcmp
            rw [if_pos hmx] at hcm
            clear hcmp
            have k_gt_3 := (show _ = some (.int .i64 (a : Nat) : Value) from (HSt3.out.c3).trans (by first | (rw [ETR.out]; done) | (rw [ETR.out]; rfl)))
            have k_gt_4 := (show _ = some (.int .i64 (b : Nat) : Value) from (HSt3.out.c4).trans (by first | (rw [ETC.out]; done) | (rw [ETC.out]; rfl)))
            have k_gt_5 := (show _ = some (.bool false : Value) from (HSt3.out.c5).trans (by first | (rw [ETP.out]; done) | (rw [ETP.out]; rfl)))
            have k_gs_0 := (show _ = some (.int .i64 (S.g.rows : Nat) : Value) from HSs6.out.c0)
            have k_gs_1 := (show _ = some (.int .i64 (S.g.cols : Nat) : Value) from HSs6.out.c1)
            go_wp2_with (first | (refine wpList_load_scrG HSh2.out _ rfl (by rfl) rfl ?_) | (refine wpList_load_scrG HSo2.out _ rfl (by rfl) rfl ?_))
            clear k_gt_3 k_gt_4 k_gt_5 k_gs_0 k_gs_1
            refine (screens_is H _ _ _ _ _ HNH.out HGh2.out HGo2.out).mono ?_
            rintro e wq1 ⟨rfl, hq1⟩
            have HSs7 := hide (HSs6.out.below hq1 HSs6.out.lt)
            have HSt4 := hide (HSt3.out.below hq1 HSt3.out.lt)
            have HSh3 := hide (HSh2.out.below hq1 HSh2.out.lt)
            have HSo3 := hide (HSo2.out.below hq1 HSo2.out.lt)
            have HSf2 := hide (HSf1.out.below hq1 HSf1.out.lt)
            have HSn2 := hide (HSn1.out.below hq1 HSn1.out.lt)
            have HGs9 := hide (HGs8.out.low hq1)
            have HGt6 := hide (HGt5.out.low hq1)
            have HGh3 := hide (HGh2.out.low hq1)
            have HGo3 := hide (HGo2.out.low hq1)
            have HGf2 := hide (HGf1.out.low hq1)
            have HGn2 := hide (HGn1.out.low hq1)
            have LO10 := hide (LO9.out.trans (hq1.mono LO9.out.size))
            clear HSs6 HSt3 HSh2 HSo2 HSf1 HSn1 HGs8 HGt5 HGh2 HGo2 HGf1 HGn1 LO9 hq1
            have k_gf_3 := (show _ = some (.int .i64 ((S.g.rows : Int) - 1) : Value) from (HSf2.out.c3).trans (by first | (rw [EFR.out]; done) | (rw [EFR.out]; rfl)))
            have k_gf_4 := (show _ = some (.int .i64 ((S.g.cols : Int) - 1) : Value) from (HSf2.out.c4).trans (by first | (rw [EFC.out]; done) | (rw [EFC.out]; rfl)))
            have k_gn_3 := (show _ = some (.int .i64 0 : Value) from (HSn2.out.c3).trans (by first | (rw [EER.out]; done) | (rw [EER.out]; rfl)))
            have k_gn_4 := (show _ = some (.int .i64 0 : Value) from (HSn2.out.c4).trans (by first | (rw [EEC.out]; done) | (rw [EEC.out]; rfl)))
            have k_gs_0 := (show _ = some (.int .i64 (S.g.rows : Nat) : Value) from HSs7.out.c0)
            have k_gs_1 := (show _ = some (.int .i64 (S.g.cols : Nat) : Value) from HSs7.out.c1)
            go_wp2_with fail
            clear k_gf_3 k_gf_4 k_gn_3 k_gn_4 k_gs_0 k_gs_1
            refine (cursorRuns_any _ (HSP.out.below LO10.out (by exact SLT.out))).mono ?_
            rintro e wq2 ⟨rfl, hq2⟩
            have HSs8 := hide (HSs7.out.below hq2 HSs7.out.lt)
            have HSt5 := hide (HSt4.out.below hq2 HSt4.out.lt)
            have HSh4 := hide (HSh3.out.below hq2 HSh3.out.lt)
            have HSo4 := hide (HSo3.out.below hq2 HSo3.out.lt)
            have HSf3 := hide (HSf2.out.below hq2 HSf2.out.lt)
            have HSn3 := hide (HSn2.out.below hq2 HSn2.out.lt)
            have HGs10 := hide (HGs9.out.low hq2)
            have HGt7 := hide (HGt6.out.low hq2)
            have HGh4 := hide (HGh3.out.low hq2)
            have HGo4 := hide (HGo3.out.low hq2)
            have HGf3 := hide (HGf2.out.low hq2)
            have HGn3 := hide (HGn2.out.low hq2)
            have LO11 := hide (LO10.out.trans (hq2.mono LO10.out.size))
            clear HSs7 HSt4 HSh3 HSo3 HSf2 HSn2 HGs9 HGt6 HGh3 HGo3 HGf2 HGn2 LO10 hq2
            go_wp2_with fail
            go_ret
            exact ⟨rfl, LO11.out⟩
        · as_aux_lemma =>
            have hcm := hcmp
            rw [if_neg hmx] at hcm
            clear hcmp
            have k_gt_3 := (show _ = some (.int .i64 (a : Nat) : Value) from (HSt3.out.c3).trans (by first | (rw [ETR.out]; done) | (rw [ETR.out]; rfl)))
            have k_gt_4 := (show _ = some (.int .i64 (b : Nat) : Value) from (HSt3.out.c4).trans (by first | (rw [ETC.out]; done) | (rw [ETC.out]; rfl)))
            have k_gt_5 := (show _ = some (.bool false : Value) from (HSt3.out.c5).trans (by first | (rw [ETP.out]; done) | (rw [ETP.out]; rfl)))
            have k_gs_0 := (show _ = some (.int .i64 (S.g.rows : Nat) : Value) from HSs6.out.c0)
            have k_gs_1 := (show _ = some (.int .i64 (S.g.cols : Nat) : Value) from HSs6.out.c1)
            go_wp2_with (first | (refine wpList_load_scrG HSh2.out _ rfl (by rfl) rfl ?_) | (refine wpList_load_scrG HSo2.out _ rfl (by rfl) rfl ?_))
            clear k_gt_3 k_gt_4 k_gt_5 k_gs_0 k_gs_1
            refine (screens_is H _ _ _ _ _ HNH.out HGh2.out HGo2.out).mono ?_
            rintro e wq1 ⟨rfl, hq1⟩
            have HSs7 := hide (HSs6.out.below hq1 HSs6.out.lt)
            have HSt4 := hide (HSt3.out.below hq1 HSt3.out.lt)
            have HSh3 := hide (HSh2.out.below hq1 HSh2.out.lt)
            have HSo3 := hide (HSo2.out.below hq1 HSo2.out.lt)
            have HSf2 := hide (HSf1.out.below hq1 HSf1.out.lt)
            have HSn2 := hide (HSn1.out.below hq1 HSn1.out.lt)
            have HGs9 := hide (HGs8.out.low hq1)
            have HGt6 := hide (HGt5.out.low hq1)
            have HGh3 := hide (HGh2.out.low hq1)
            have HGo3 := hide (HGo2.out.low hq1)
            have HGf2 := hide (HGf1.out.low hq1)
            have HGn2 := hide (HGn1.out.low hq1)
            have LO10 := hide (LO9.out.trans (hq1.mono LO9.out.size))
            clear HSs6 HSt3 HSh2 HSo2 HSf1 HSn1 HGs8 HGt5 HGh2 HGo2 HGf1 HGn1 LO9 hq1
            have k_gf_3 := (show _ = some (.int .i64 ((S.g.rows : Int) - 1) : Value) from (HSf2.out.c3).trans (by first | (rw [EFR.out]; done) | (rw [EFR.out]; rfl)))
            have k_gf_4 := (show _ = some (.int .i64 ((S.g.cols : Int) - 1) : Value) from (HSf2.out.c4).trans (by first | (rw [EFC.out]; done) | (rw [EFC.out]; rfl)))
            have k_gn_3 := (show _ = some (.int .i64 0 : Value) from (HSn2.out.c3).trans (by first | (rw [EER.out]; done) | (rw [EER.out]; rfl)))
            have k_gn_4 := (show _ = some (.int .i64 0 : Value) from (HSn2.out.c4).trans (by first | (rw [EEC.out]; done) | (rw [EEC.out]; rfl)))
            have k_gs_0 := (show _ = some (.int .i64 (S.g.rows : Nat) : Value) from HSs7.out.c0)
            have k_gs_1 := (show _ = some (.int .i64 (S.g.cols : Nat) : Value) from HSs7.out.c1)
            go_wp2_with fail
            clear k_gf_3 k_gf_4 k_gn_3 k_gn_4 k_gs_0 k_gs_1
            refine (cursorRuns_any _ (HSP.out.below LO10.out (by exact SLT.out))).mono ?_
            rintro e wq2 ⟨rfl, hq2⟩
            have HSs8 := hide (HSs7.out.below hq2 HSs7.out.lt)
            have HSt5 := hide (HSt4.out.below hq2 HSt4.out.lt)
            have HSh4 := hide (HSh3.out.below hq2 HSh3.out.lt)
            have HSo4 := hide (HSo3.out.below hq2 HSo3.out.lt)
            have HSf3 := hide (HSf2.out.below hq2 HSf2.out.lt)
            have HSn3 := hide (HSn2.out.below hq2 HSn2.out.lt)
            have HGs10 := hide (HGs9.out.low hq2)
            have HGt7 := hide (HGt6.out.low hq2)
            have HGh4 := hide (HGh3.out.low hq2)
            have HGo4 := hide (HGo3.out.low hq2)
            have HGf3 := hide (HGf2.out.low hq2)
            have HGn3 := hide (HGn2.out.low hq2)
            have LO11 := hide (LO10.out.trans (hq2.mono LO10.out.size))
            clear HSs7 HSt4 HSh3 HSo3 HSf2 HSn2 HGs9 HGt6 HGh3 HGo3 HGf2 HGn2 LO10 hq2
            go_wp2_with fail
            go_ret
            exact ⟨rfl, LO11.out⟩
  | true =>
    rw [hO, if_pos rfl] at hgo
    have EA6 := hide (show (if ((S.bot : Int) < (S.top : Int) + (y : Int)) then (S.bot : Int) else (S.top : Int) + (y : Int)) = ((a : Nat) : Int) by split <;> omega)
    clear hgo ha
    go_enter Tryd.func7, Tryd.ntmps7
    go_wp2_with (first | (refine wpList_box_ks hk13 rfl _ rfl rfl ?_; intro gk wk hKB hbk hlk) | (refine wpList_load_ks hKB rfl _ rfl rfl ?_))
    have LO1 := hide (LO0.out.trans (hbk.mono LO0.out.size))
    clear LO0 hbk
    refine (KS.out _ LO1.out).mono ?_
    rintro e wb1 ⟨v1, rfl, ⟨x1, rfl, hg1⟩, hb1⟩
    have LO2 := hide (LO1.out.trans (hb1.mono LO1.out.size))
    clear LO1 hb1
    obtain ⟨A1, c1', rfl⟩ := gv_slice hg1
    have HGs1 := hide hg1
    clear hg1
    go_upto_region 2 with (first | (refine wpList_alloc_scr rfl rfl ?_; intro gs wags csgs hBgs hzgs hbgs hlgs) | (refine wpList_store_scr hBgs hzgs rfl _ _ rfl rfl rfl rfl ?_; intro wsgs hSgs hkgs hqgs))
    have le_gs : w.heap.size ≤ gs := by have := LO2.out.size; omega
    have HGs2 := hide (HGs1.out.low hbgs)
    have LO3 := hide (LO2.out.trans (hbgs.mono LO2.out.size))
    clear HGs1 LO2 hbgs
    have HGs3 := hide (HGs2.out.kept hBgs (by decide) hkgs)
    have LO4 := hide (LO3.out.trans (hkgs.toBelow LO3.out.size (fun k hh => by simp at hh; omega)))
    clear HGs2 LO3
    have HSs1 := hide hSgs
    clear hSgs hkgs hBgs hlgs
    go_wp2_with fail
    refine (WY.out _).mono ?_
    rintro e w' ⟨rfl, rfl⟩
    go_wp2_with fail
    refine (WX.out _).mono ?_
    rintro e w' ⟨rfl, rfl⟩
    go_wp2_with (first | (refine wpList_load_scr HSs1.out rfl _ rfl rfl ?_))
    refine (GT.out _ _ ⟨_, rfl, HGs3.out⟩).mono ?_
    rintro e wb2 ⟨v2, rfl, ⟨x2, rfl, hg2⟩, hb2⟩
    have HSs2 := hide (HSs1.out.below hb2 HSs1.out.lt)
    have HGs4 := hide (HGs3.out.low hb2)
    have LO5 := hide (LO4.out.trans (hb2.mono LO4.out.size))
    clear HSs1 HGs3 LO4 hb2
    obtain ⟨A2, c2, rfl⟩ := gv_slice hg2
    have HGt1 := hide hg2
    clear hg2
    go_upto_region 4 with (first | (refine wpList_alloc_scr rfl rfl ?_; intro gt wagt csgt hBgt hzgt hbgt hlgt) | (refine wpList_store_scr hBgt hzgt rfl _ _ rfl rfl rfl rfl ?_; intro wsgt hSgt hkgt hqgt))
    have ne_gs_gt : gs ≠ gt := by have := HSs2.out.lt; omega
    have le_gt : w.heap.size ≤ gt := by have := LO5.out.size; omega
    have HSs3 := hide (HSs2.out.below hbgt HSs2.out.lt)
    have HGs5 := hide (HGs4.out.low hbgt)
    have HGt2 := hide (HGt1.out.low hbgt)
    have LO6 := hide (LO5.out.trans (hbgt.mono LO5.out.size))
    clear HSs2 HGs4 HGt1 LO5 hbgt
    have HSs4 := hide (HSs3.out.kept hkgt (by simp; first | exact ne_gs_gt | exact Ne.symm ne_gt_gs))
    have HGs6 := hide (HGs5.out.kept hBgt (by decide) hkgt)
    have HGt3 := hide (HGt2.out.kept hBgt (by decide) hkgt)
    have LO7 := hide (LO6.out.trans (hkgt.toBelow LO6.out.size (fun k hh => by simp at hh; omega)))
    clear HSs3 HGs5 HGt2 LO6
    have HSt1 := hide hSgt
    clear hSgt hkgt hBgt hlgt
    have k_gs_0 := (show _ = some (.int .i64 (S.g.rows : Nat) : Value) from HSs4.out.c0)
    have k_gs_16 := (show _ = some (.bool true : Value) from (HSs4.out.c16).trans (by first | (rw [hO]; done) | (rw [hO]; rfl)))
    have k_gs_6 := (show _ = some (.int .i64 (S.top : Nat) : Value) from HSs4.out.c6)
    have k_gs_7 := (show _ = some (.int .i64 (S.bot : Nat) : Value) from HSs4.out.c7)
    go_upto_region 5 with fail
    simp only [EA4.out]
    go_upto_region 7 with fail
    simp only [EA6.out]
    clear k_gs_0 k_gs_16 k_gs_6 k_gs_7
    go_simp
    go_cut [12, 13] from 12 to 44 (fun ua ub wx => ∃ gh go_ A3a c3a A3b c3b, ua = .pointer (some ⟨gh, 0, none⟩) ∧ ub = .pointer (some ⟨go_, 0, none⟩) ∧ (wsgt.heap.size ≤ gh ∧ wsgt.heap.size ≤ go_ ∧ gh ≠ go_) ∧ SBox wx gh (.slice A3a (H.g.rows * H.g.cols) c3a) H ∧ SBox wx go_ (.slice A3b (H.g.rows * H.g.cols) c3b) H ∧ IsG wx H.g (gv H.g.rows H.g.cols (.slice A3a (H.g.rows * H.g.cols) c3a)) ∧ IsG wx H.g (gv H.g.rows H.g.cols (.slice A3b (H.g.rows * H.g.cols) c3b)) ∧ Below wsgt.heap.size wsgt wx)
    case first =>
      refine wp_region_gj (n := 105) [] (fun _ => #[]) [(0, 0, 0, 0, 0), (1, 0, 0, 0, 0), (0, 0, 0, 0, 0), (1, 0, 0, 0, 0), (2, 0, 0, 32, 29), (2, 0, 0, 32, 29), (3, 4, 1, 32, 29), (3, 5, 3, 32, 29)] (fun j => [(.agg (scA (.slice A1 (S.g.rows * S.g.cols) c1') S)), undef, (.agg (scA (.slice A1 (S.g.rows * S.g.cols) c1') S)), undef, undef, undef, undef, undef].getD j undef) [none, some (ScrV H), none, some (ScrV H)] (fun _ => 0) (by kernel_rfl) (by kernel_rfl) (by kernel_rfl) rfl (by kernel_rfl) (gno4 rfl) (fun i j h => by revert h; exact gno4 (p := fun _ => _) rfl i) (AllG.none_ (AllG.some_ (ScrV.stays (by kernel_rfl)) (AllG.none_ (AllG.some_ (ScrV.stays (by kernel_rfl)) (AllG.nil _))))) (fun hGS => cases8 ⟨?_, ?_, ?_, ?_, ?_, ?_, ?_, ?_⟩) ?_
      · intro L a w' hL hsame hsz hJ hdep hcl
        have hb := hJ.kept.toBelow (Nat.le_refl _) (by simp)
        have e0 : a.eval (.tmp 7) = (.pointer (some ⟨gs, 0, none⟩)) := eval_base hsame (by kernel_rfl)
        have hx := hJ.keptBox ((show Box _ gs 32 (scA (.slice A1 (S.g.rows * S.g.cols) c1') S) from HSs4.out)) (by simp)
        exact Step.val _ rfl rfl (wanted_none rfl) (.agg (scA (.slice A1 (S.g.rows * S.g.cols) c1') S)) w' (fun ρ hρ => exec_load_any hx rfl ρ _ rfl ((hρ _).symm.trans e0)) (hJ.val hGS hcl hL rfl (Below.refl _ _) _ rfl)
      · intro L a w' hL hsame hsz hJ hdep hcl
        have hb := hJ.kept.toBelow (Nat.le_refl _) (by simp)
        have e0 : a.eval (.tmp 41) = (.agg (scA (.slice A1 (S.g.rows * S.g.cols) c1') S)) := eval_slot (j := 0) (by kernel_rfl) (hJ.valOf (by decide) (dep_of hdep 0 (by kernel_rfl)) rfl rfl)
        refine Step.call _ rfl rfl (wanted_none rfl) 23 #[.agg (scA (.slice A1 (S.g.rows * S.g.cols) c1') S)] (fun ρ hρ => ?_) ?_
        · skip
          rw [hρ] at e0
          have ef : ρ (.func 23) = .func (.func 23) #[] #[] := (hρ _).symm
          clear hJ hsame hdep hcl hρ hsz hb
          go_simp
        · refine (HM.out _ _ ⟨_, rfl, (HGs6.out.low hb)⟩).mono ?_
          rintro e w2 ⟨v, rfl, hi, bb⟩
          exact ⟨_, rfl, hJ.pred hGS hcl hL rfl bb _ (scrV_of hi)⟩
      · intro L a w' hL hsame hsz hJ hdep hcl
        have hb := hJ.kept.toBelow (Nat.le_refl _) (by simp)
        have e0 : a.eval (.tmp 7) = (.pointer (some ⟨gs, 0, none⟩)) := eval_base hsame (by kernel_rfl)
        have hx := hJ.keptBox ((show Box _ gs 32 (scA (.slice A1 (S.g.rows * S.g.cols) c1') S) from HSs4.out)) (by simp)
        exact Step.val _ rfl rfl (wanted_none rfl) (.agg (scA (.slice A1 (S.g.rows * S.g.cols) c1') S)) w' (fun ρ hρ => exec_load_any hx rfl ρ _ rfl ((hρ _).symm.trans e0)) (hJ.val hGS hcl hL rfl (Below.refl _ _) _ rfl)
      · intro L a w' hL hsame hsz hJ hdep hcl
        have hb := hJ.kept.toBelow (Nat.le_refl _) (by simp)
        have e0 : a.eval (.tmp 43) = (.agg (scA (.slice A1 (S.g.rows * S.g.cols) c1') S)) := eval_slot (j := 2) (by kernel_rfl) (hJ.valOf (by decide) (dep_of hdep 2 (by kernel_rfl)) rfl rfl)
        refine Step.call _ rfl rfl (wanted_none rfl) 22 #[.agg (scA (.slice A1 (S.g.rows * S.g.cols) c1') S), .int .i64 0, .int .i64 0] (fun ρ hρ => ?_) ?_
        · skip
          rw [hρ] at e0
          have ec0 : ρ (.const (.int .i64 0)) = (.int .i64 0) := (hρ _).symm
          have ef : ρ (.func 22) = .func (.func 22) #[] #[] := (hρ _).symm
          clear hJ hsame hdep hcl hρ hsz hb
          go_simp
        · refine (GZ.out _ _ ⟨_, rfl, (HGs6.out.low hb)⟩).mono ?_
          rintro e w2 ⟨v, rfl, hi, bb⟩
          exact ⟨_, rfl, hJ.pred hGS hcl hL rfl bb _ (scrV_of hi)⟩
      · intro L a w' hL hsame hsz hJ hdep hcl
        have hb := hJ.kept.toBelow (Nat.le_refl _) (by simp)
        refine Step.val _ rfl rfl (wanted_none rfl) (.pointer (some ⟨w'.heap.size, 0, none⟩)) (w'.alloc (.cells #[.int .i64 0, .int .i64 0, .slice none 0 0, .int .i64 0, .int .i64 0, .bool false, .int .i64 0, .int .i64 0, .int .i64 0, .int .i64 0, .int .i64 0, .int .u64 0, .int .u8 0, .int .u8 0, .int .i64 0, .bool false, .bool false, .bool false, .bool false, .bool false, .int .i64 0, .int .i64 0, .int .i64 0, .int .i64 0, .int .i64 0, .int .u8 0, .int .u8 0, .int .i64 0, .bool false] 32)) (fun ρ hρ => ?_) (hJ.box hGS hcl hL rfl 32 rfl #[.int .i64 0, .int .i64 0, .slice none 0 0, .int .i64 0, .int .i64 0, .bool false, .int .i64 0, .int .i64 0, .int .i64 0, .int .i64 0, .int .i64 0, .int .u64 0, .int .u8 0, .int .u8 0, .int .i64 0, .bool false, .bool false, .bool false, .bool false, .bool false, .int .i64 0, .int .i64 0, .int .i64 0, .int .i64 0, .int .i64 0, .int .u8 0, .int .u8 0, .int .i64 0, .bool false] rfl)
        clear hJ hsame hdep hcl hρ hsz hb
        go_simp
      · intro L a w' hL hsame hsz hJ hdep hcl
        have hb := hJ.kept.toBelow (Nat.le_refl _) (by simp)
        refine Step.val _ rfl rfl (wanted_none rfl) (.pointer (some ⟨w'.heap.size, 0, none⟩)) (w'.alloc (.cells #[.int .i64 0, .int .i64 0, .slice none 0 0, .int .i64 0, .int .i64 0, .bool false, .int .i64 0, .int .i64 0, .int .i64 0, .int .i64 0, .int .i64 0, .int .u64 0, .int .u8 0, .int .u8 0, .int .i64 0, .bool false, .bool false, .bool false, .bool false, .bool false, .int .i64 0, .int .i64 0, .int .i64 0, .int .i64 0, .int .i64 0, .int .u8 0, .int .u8 0, .int .i64 0, .bool false] 32)) (fun ρ hρ => ?_) (hJ.box hGS hcl hL rfl 32 rfl #[.int .i64 0, .int .i64 0, .slice none 0 0, .int .i64 0, .int .i64 0, .bool false, .int .i64 0, .int .i64 0, .int .i64 0, .int .i64 0, .int .i64 0, .int .u64 0, .int .u8 0, .int .u8 0, .int .i64 0, .bool false, .bool false, .bool false, .bool false, .bool false, .int .i64 0, .int .i64 0, .int .i64 0, .int .i64 0, .int .i64 0, .int .u8 0, .int .u8 0, .int .i64 0, .bool false] rfl)
        clear hJ hsame hdep hcl hρ hsz hb
        go_simp
      · intro L a w' hL hsame hsz hJ hdep hcl
        have hb := hJ.kept.toBelow (Nat.le_refl _) (by simp)
        obtain ⟨A1', c1', hv1, hi1⟩ := (show (ScrV H) (valOf _ 1 a) w' from hJ.predOf (by decide) (dep_of hdep 1 (by kernel_rfl)) rfl)
        have es : a.eval (.tmp 42) = .agg (scA (.slice A1' (H.g.rows * H.g.cols) c1') H) := eval_slot (j := 1) (by kernel_rfl) hv1
        have la := dep_of hdep 4 (by kernel_rfl)
        obtain ⟨g, cs, hg, hg0, hx, hs⟩ := hJ.boxOf (j := 4) (by decide) la rfl
        have ea : a.eval (.tmp 12) = .pointer (some ⟨g, 0, none⟩) := eval_slot (j := 4) (by kernel_rfl) hg
        exact Step.skip _ rfl (wanted_none rfl) _ (fun ρ hρ => exec_store_any hx hs rfl (scA_one rfl _) ρ _ rfl ((hρ _).symm.trans ea) ((hρ _).symm.trans es)) (hJ.put hGS hcl hL rfl la (dep_of hdep 1 (by kernel_rfl)) hg rfl hv1)
      · intro L a w' hL hsame hsz hJ hdep hcl
        have hb := hJ.kept.toBelow (Nat.le_refl _) (by simp)
        obtain ⟨A3', c3', hv3, hi3⟩ := (show (ScrV H) (valOf _ 3 a) w' from hJ.predOf (by decide) (dep_of hdep 3 (by kernel_rfl)) rfl)
        have es : a.eval (.tmp 44) = .agg (scA (.slice A3' (H.g.rows * H.g.cols) c3') H) := eval_slot (j := 3) (by kernel_rfl) hv3
        have la := dep_of hdep 5 (by kernel_rfl)
        obtain ⟨g, cs, hg, hg0, hx, hs⟩ := hJ.boxOf (j := 5) (by decide) la rfl
        have ea : a.eval (.tmp 13) = .pointer (some ⟨g, 0, none⟩) := eval_slot (j := 5) (by kernel_rfl) hg
        exact Step.skip _ rfl (wanted_none rfl) _ (fun ρ hρ => exec_store_any hx hs rfl (scA_one rfl _) ρ _ rfl ((hρ _).symm.trans ea) ((hρ _).symm.trans es)) (hJ.put hGS hcl hL rfl la (dep_of hdep 3 (by kernel_rfl)) hg rfl hv3)
      · intro u w' hF
        change Exit.then _ _ Exit.normal (Act.put (Act.put (Act.put (Act.put (Act.put (Act.put (Act.put (Act.put (putAll _ u 0 _) (some 41) (u 0)) (some 42) (u 1)) (some 43) (u 2)) (some 44) (u 3)) (some 12) (u 4)) (some 13) (u 5)) none (u 6)) none (u 7)) _
        simp only [putAll]
        obtain ⟨Aa, ca, fa, hia⟩ := (show ScrV H (u 1) w' from hF.fin1 (j := 1) (by decide) rfl)
        obtain ⟨Ab, cb, fb, hib⟩ := (show ScrV H (u 3) w' from hF.fin1 (j := 3) (by decide) rfl)
        obtain ⟨ga, csa, va, la, _, _⟩ := (hF.all 4 (by decide) rfl).2.2.1 rfl
        obtain ⟨ga0, csa', va', fsa, hBa⟩ := (hF.all 6 (by decide) rfl).2.2.2.1 rfl
        obtain rfl : ga0 = ga := by
          have := va'.symm.trans va
          cases this
          rfl
        obtain rfl : csa' = scA (.slice Aa (H.g.rows * H.g.cols) ca) H := by
          have := fsa.symm.trans fa
          cases this
          rfl
        obtain ⟨gb, csb, vb, lb, _, _⟩ := (hF.all 5 (by decide) rfl).2.2.1 rfl
        obtain ⟨gb0, csb', vb', fsb, hBb⟩ := (hF.all 7 (by decide) rfl).2.2.2.1 rfl
        obtain rfl : gb0 = gb := by
          have := vb'.symm.trans vb
          cases this
          rfl
        obtain rfl : csb' = scA (.slice Ab (H.g.rows * H.g.cols) cb) H := by
          have := fsb.symm.trans fb
          cases this
          rfl
        have nab := hF.dist 4 5 rfl rfl rfl rfl (by decide)
        have hk := hF.kept.toBelow (Nat.le_refl _) (by simp)
        clear hF va' fsa vb' fsb
        generalize u 0 = y0
        generalize u 1 = y1 at fa ⊢
        generalize u 2 = y2
        generalize u 3 = y3 at fb ⊢
        generalize u 4 = y4 at va nab ⊢
        generalize u 5 = y5 at vb nab ⊢
        generalize u 6 = y6
        generalize u 7 = y7
        subst fa fb va vb
        have m1 : ga0 ≠ gb0 := fun e => nab (by rw [e])
        clear nab
        go_simp
        go_step
        go_meet
        exact ⟨ga0, gb0, Aa, ca, Ab, cb, rfl, rfl, ⟨la, lb, m1⟩, hBa, hBb, hia, hib, hk⟩
    case rest =>
      obtain ⟨gh, go_, A3a, c3a, A3b, c3b, rfl, rfl, ⟨lgh, lgo_, ne_gh_go_⟩, hBgh, hBgo_, high, higo_, hb3⟩ := hcut
      have ne_gs_gh : gs ≠ gh := by have := HSs4.out.lt; omega
      have ne_gs_go_ : gs ≠ go_ := by have := HSs4.out.lt; omega
      have ne_gt_gh : gt ≠ gh := by have := HSt1.out.lt; omega
      have ne_gt_go_ : gt ≠ go_ := by have := HSt1.out.lt; omega
      have le_gh : w.heap.size ≤ gh := by have := LO7.out.size; omega
      have le_go_ : w.heap.size ≤ go_ := by have := LO7.out.size; omega
      have HSs5 := hide (HSs4.out.below hb3 HSs4.out.lt)
      have HSt2 := hide (HSt1.out.below hb3 HSt1.out.lt)
      have HGs7 := hide (HGs6.out.low hb3)
      have HGt4 := hide (HGt3.out.low hb3)
      have LO8 := hide (LO7.out.trans (hb3.mono LO7.out.size))
      clear HSs4 HSt1 HGs6 HGt3 LO7 hb3
      have HSh1 := hide hBgh
      clear hBgh
      have HSo1 := hide hBgo_
      clear hBgo_
      have HGh1 := hide high
      clear high
      have HGo1 := hide higo_
      clear higo_
      rename World => wr3
      clear lgh lgo_
      go_upto_region 8 with fail
      go_simp
      go_cut [14, 15] from 14 to 48 (fun ua ub wx => ∃ gf gn A4a c4a A4b c4b, ua = .pointer (some ⟨gf, 0, none⟩) ∧ ub = .pointer (some ⟨gn, 0, none⟩) ∧ (wr3.heap.size ≤ gf ∧ wr3.heap.size ≤ gn ∧ gf ≠ gn) ∧ SBox wx gf (.slice A4a (F.g.rows * F.g.cols) c4a) F ∧ SBox wx gn (.slice A4b (E.g.rows * E.g.cols) c4b) E ∧ IsG wx F.g (gv F.g.rows F.g.cols (.slice A4a (F.g.rows * F.g.cols) c4a)) ∧ IsG wx E.g (gv E.g.rows E.g.cols (.slice A4b (E.g.rows * E.g.cols) c4b)) ∧ Below wr3.heap.size wr3 wx)
      case first =>
        refine wp_region_gj (n := 105) [] (fun _ => #[]) [(0, 0, 0, 0, 0), (1, 0, 0, 0, 0), (0, 0, 0, 0, 0), (1, 0, 0, 0, 0), (2, 0, 0, 32, 29), (2, 0, 0, 32, 29), (3, 4, 1, 32, 29), (3, 5, 3, 32, 29)] (fun j => [(.agg (scA (.slice A1 (S.g.rows * S.g.cols) c1') S)), undef, (.agg (scA (.slice A1 (S.g.rows * S.g.cols) c1') S)), undef, undef, undef, undef, undef].getD j undef) [none, some (ScrV F), none, some (ScrV E)] (fun _ => 0) (by kernel_rfl) (by kernel_rfl) (by kernel_rfl) rfl (by kernel_rfl) (gno4 rfl) (fun i j h => by revert h; exact gno4 (p := fun _ => _) rfl i) (AllG.none_ (AllG.some_ (ScrV.stays (by kernel_rfl)) (AllG.none_ (AllG.some_ (ScrV.stays (by kernel_rfl)) (AllG.nil _))))) (fun hGS => cases8 ⟨?_, ?_, ?_, ?_, ?_, ?_, ?_, ?_⟩) ?_
        · intro L a w' hL hsame hsz hJ hdep hcl
          have hb := hJ.kept.toBelow (Nat.le_refl _) (by simp)
          have e0 : a.eval (.tmp 7) = (.pointer (some ⟨gs, 0, none⟩)) := eval_base hsame (by kernel_rfl)
          have hx := hJ.keptBox ((show Box _ gs 32 (scA (.slice A1 (S.g.rows * S.g.cols) c1') S) from HSs5.out)) (by simp)
          exact Step.val _ rfl rfl (wanted_none rfl) (.agg (scA (.slice A1 (S.g.rows * S.g.cols) c1') S)) w' (fun ρ hρ => exec_load_any hx rfl ρ _ rfl ((hρ _).symm.trans e0)) (hJ.val hGS hcl hL rfl (Below.refl _ _) _ rfl)
        · intro L a w' hL hsame hsz hJ hdep hcl
          have hb := hJ.kept.toBelow (Nat.le_refl _) (by simp)
          have e0 : a.eval (.tmp 45) = (.agg (scA (.slice A1 (S.g.rows * S.g.cols) c1') S)) := eval_slot (j := 0) (by kernel_rfl) (hJ.valOf (by decide) (dep_of hdep 0 (by kernel_rfl)) rfl rfl)
          refine Step.call _ rfl rfl (wanted_none rfl) 15 #[.agg (scA (.slice A1 (S.g.rows * S.g.cols) c1') S), .int .i64 1073741824, .int .i64 1073741824] (fun ρ hρ => ?_) ?_
          · skip
            rw [hρ] at e0
            have ec0 : ρ (.const (.int .i64 1073741824)) = (.int .i64 1073741824) := (hρ _).symm
            have ef : ρ (.func 15) = .func (.func 15) #[] #[] := (hρ _).symm
            clear hJ hsame hdep hcl hρ hsz hb
            go_simp
          · refine (AF.out _ _ ⟨_, rfl, (HGs7.out.low hb)⟩).mono ?_
            rintro e w2 ⟨v, rfl, hi, bb⟩
            exact ⟨_, rfl, hJ.pred hGS hcl hL rfl bb _ (scrV_of hi)⟩
        · intro L a w' hL hsame hsz hJ hdep hcl
          have hb := hJ.kept.toBelow (Nat.le_refl _) (by simp)
          have e0 : a.eval (.tmp 7) = (.pointer (some ⟨gs, 0, none⟩)) := eval_base hsame (by kernel_rfl)
          have hx := hJ.keptBox ((show Box _ gs 32 (scA (.slice A1 (S.g.rows * S.g.cols) c1') S) from HSs5.out)) (by simp)
          exact Step.val _ rfl rfl (wanted_none rfl) (.agg (scA (.slice A1 (S.g.rows * S.g.cols) c1') S)) w' (fun ρ hρ => exec_load_any hx rfl ρ _ rfl ((hρ _).symm.trans e0)) (hJ.val hGS hcl hL rfl (Below.refl _ _) _ rfl)
        · intro L a w' hL hsame hsz hJ hdep hcl
          have hb := hJ.kept.toBelow (Nat.le_refl _) (by simp)
          have e0 : a.eval (.tmp 47) = (.agg (scA (.slice A1 (S.g.rows * S.g.cols) c1') S)) := eval_slot (j := 2) (by kernel_rfl) (hJ.valOf (by decide) (dep_of hdep 2 (by kernel_rfl)) rfl rfl)
          refine Step.call _ rfl rfl (wanted_none rfl) 15 #[.agg (scA (.slice A1 (S.g.rows * S.g.cols) c1') S), .int .i64 (-1073741824), .int .i64 (-1073741824)] (fun ρ hρ => ?_) ?_
          · skip
            rw [hρ] at e0
            have ec0 : ρ (.const (.int .i64 (-1073741824))) = (.int .i64 (-1073741824)) := (hρ _).symm
            have ef : ρ (.func 15) = .func (.func 15) #[] #[] := (hρ _).symm
            clear hJ hsame hdep hcl hρ hsz hb
            go_simp
          · refine (AN.out _ _ ⟨_, rfl, (HGs7.out.low hb)⟩).mono ?_
            rintro e w2 ⟨v, rfl, hi, bb⟩
            exact ⟨_, rfl, hJ.pred hGS hcl hL rfl bb _ (scrV_of hi)⟩
        · intro L a w' hL hsame hsz hJ hdep hcl
          have hb := hJ.kept.toBelow (Nat.le_refl _) (by simp)
          refine Step.val _ rfl rfl (wanted_none rfl) (.pointer (some ⟨w'.heap.size, 0, none⟩)) (w'.alloc (.cells #[.int .i64 0, .int .i64 0, .slice none 0 0, .int .i64 0, .int .i64 0, .bool false, .int .i64 0, .int .i64 0, .int .i64 0, .int .i64 0, .int .i64 0, .int .u64 0, .int .u8 0, .int .u8 0, .int .i64 0, .bool false, .bool false, .bool false, .bool false, .bool false, .int .i64 0, .int .i64 0, .int .i64 0, .int .i64 0, .int .i64 0, .int .u8 0, .int .u8 0, .int .i64 0, .bool false] 32)) (fun ρ hρ => ?_) (hJ.box hGS hcl hL rfl 32 rfl #[.int .i64 0, .int .i64 0, .slice none 0 0, .int .i64 0, .int .i64 0, .bool false, .int .i64 0, .int .i64 0, .int .i64 0, .int .i64 0, .int .i64 0, .int .u64 0, .int .u8 0, .int .u8 0, .int .i64 0, .bool false, .bool false, .bool false, .bool false, .bool false, .int .i64 0, .int .i64 0, .int .i64 0, .int .i64 0, .int .i64 0, .int .u8 0, .int .u8 0, .int .i64 0, .bool false] rfl)
          clear hJ hsame hdep hcl hρ hsz hb
          go_simp
        · intro L a w' hL hsame hsz hJ hdep hcl
          have hb := hJ.kept.toBelow (Nat.le_refl _) (by simp)
          refine Step.val _ rfl rfl (wanted_none rfl) (.pointer (some ⟨w'.heap.size, 0, none⟩)) (w'.alloc (.cells #[.int .i64 0, .int .i64 0, .slice none 0 0, .int .i64 0, .int .i64 0, .bool false, .int .i64 0, .int .i64 0, .int .i64 0, .int .i64 0, .int .i64 0, .int .u64 0, .int .u8 0, .int .u8 0, .int .i64 0, .bool false, .bool false, .bool false, .bool false, .bool false, .int .i64 0, .int .i64 0, .int .i64 0, .int .i64 0, .int .i64 0, .int .u8 0, .int .u8 0, .int .i64 0, .bool false] 32)) (fun ρ hρ => ?_) (hJ.box hGS hcl hL rfl 32 rfl #[.int .i64 0, .int .i64 0, .slice none 0 0, .int .i64 0, .int .i64 0, .bool false, .int .i64 0, .int .i64 0, .int .i64 0, .int .i64 0, .int .i64 0, .int .u64 0, .int .u8 0, .int .u8 0, .int .i64 0, .bool false, .bool false, .bool false, .bool false, .bool false, .int .i64 0, .int .i64 0, .int .i64 0, .int .i64 0, .int .i64 0, .int .u8 0, .int .u8 0, .int .i64 0, .bool false] rfl)
          clear hJ hsame hdep hcl hρ hsz hb
          go_simp
        · intro L a w' hL hsame hsz hJ hdep hcl
          have hb := hJ.kept.toBelow (Nat.le_refl _) (by simp)
          obtain ⟨A1', c1', hv1, hi1⟩ := (show (ScrV F) (valOf _ 1 a) w' from hJ.predOf (by decide) (dep_of hdep 1 (by kernel_rfl)) rfl)
          have es : a.eval (.tmp 46) = .agg (scA (.slice A1' (F.g.rows * F.g.cols) c1') F) := eval_slot (j := 1) (by kernel_rfl) hv1
          have la := dep_of hdep 4 (by kernel_rfl)
          obtain ⟨g, cs, hg, hg0, hx, hs⟩ := hJ.boxOf (j := 4) (by decide) la rfl
          have ea : a.eval (.tmp 14) = .pointer (some ⟨g, 0, none⟩) := eval_slot (j := 4) (by kernel_rfl) hg
          exact Step.skip _ rfl (wanted_none rfl) _ (fun ρ hρ => exec_store_any hx hs rfl (scA_one rfl _) ρ _ rfl ((hρ _).symm.trans ea) ((hρ _).symm.trans es)) (hJ.put hGS hcl hL rfl la (dep_of hdep 1 (by kernel_rfl)) hg rfl hv1)
        · intro L a w' hL hsame hsz hJ hdep hcl
          have hb := hJ.kept.toBelow (Nat.le_refl _) (by simp)
          obtain ⟨A3', c3', hv3, hi3⟩ := (show (ScrV E) (valOf _ 3 a) w' from hJ.predOf (by decide) (dep_of hdep 3 (by kernel_rfl)) rfl)
          have es : a.eval (.tmp 48) = .agg (scA (.slice A3' (E.g.rows * E.g.cols) c3') E) := eval_slot (j := 3) (by kernel_rfl) hv3
          have la := dep_of hdep 5 (by kernel_rfl)
          obtain ⟨g, cs, hg, hg0, hx, hs⟩ := hJ.boxOf (j := 5) (by decide) la rfl
          have ea : a.eval (.tmp 15) = .pointer (some ⟨g, 0, none⟩) := eval_slot (j := 5) (by kernel_rfl) hg
          exact Step.skip _ rfl (wanted_none rfl) _ (fun ρ hρ => exec_store_any hx hs rfl (scA_one rfl _) ρ _ rfl ((hρ _).symm.trans ea) ((hρ _).symm.trans es)) (hJ.put hGS hcl hL rfl la (dep_of hdep 3 (by kernel_rfl)) hg rfl hv3)
        · intro u w' hF
          change Exit.then _ _ Exit.normal (Act.put (Act.put (Act.put (Act.put (Act.put (Act.put (Act.put (Act.put (putAll _ u 0 _) (some 45) (u 0)) (some 46) (u 1)) (some 47) (u 2)) (some 48) (u 3)) (some 14) (u 4)) (some 15) (u 5)) none (u 6)) none (u 7)) _
          simp only [putAll]
          obtain ⟨Aa, ca, fa, hia⟩ := (show ScrV F (u 1) w' from hF.fin1 (j := 1) (by decide) rfl)
          obtain ⟨Ab, cb, fb, hib⟩ := (show ScrV E (u 3) w' from hF.fin1 (j := 3) (by decide) rfl)
          obtain ⟨ga, csa, va, la, _, _⟩ := (hF.all 4 (by decide) rfl).2.2.1 rfl
          obtain ⟨ga0, csa', va', fsa, hBa⟩ := (hF.all 6 (by decide) rfl).2.2.2.1 rfl
          obtain rfl : ga0 = ga := by
            have := va'.symm.trans va
            cases this
            rfl
          obtain rfl : csa' = scA (.slice Aa (F.g.rows * F.g.cols) ca) F := by
            have := fsa.symm.trans fa
            cases this
            rfl
          obtain ⟨gb, csb, vb, lb, _, _⟩ := (hF.all 5 (by decide) rfl).2.2.1 rfl
          obtain ⟨gb0, csb', vb', fsb, hBb⟩ := (hF.all 7 (by decide) rfl).2.2.2.1 rfl
          obtain rfl : gb0 = gb := by
            have := vb'.symm.trans vb
            cases this
            rfl
          obtain rfl : csb' = scA (.slice Ab (E.g.rows * E.g.cols) cb) E := by
            have := fsb.symm.trans fb
            cases this
            rfl
          have nab := hF.dist 4 5 rfl rfl rfl rfl (by decide)
          have hk := hF.kept.toBelow (Nat.le_refl _) (by simp)
          clear hF va' fsa vb' fsb
          generalize u 0 = y0
          generalize u 1 = y1 at fa ⊢
          generalize u 2 = y2
          generalize u 3 = y3 at fb ⊢
          generalize u 4 = y4 at va nab ⊢
          generalize u 5 = y5 at vb nab ⊢
          generalize u 6 = y6
          generalize u 7 = y7
          subst fa fb va vb
          have m1 : ga0 ≠ gb0 := fun e => nab (by rw [e])
          clear nab
          go_simp
          go_step
          go_meet
          exact ⟨ga0, gb0, Aa, ca, Ab, cb, rfl, rfl, ⟨la, lb, m1⟩, hBa, hBb, hia, hib, hk⟩
      case rest =>
        obtain ⟨gf, gn, A4a, c4a, A4b, c4b, rfl, rfl, ⟨lgf, lgn, ne_gf_gn⟩, hBgf, hBgn, higf, hign, hb4⟩ := hcut
        have ne_gs_gf : gs ≠ gf := by have := HSs5.out.lt; omega
        have ne_gs_gn : gs ≠ gn := by have := HSs5.out.lt; omega
        have ne_gt_gf : gt ≠ gf := by have := HSt2.out.lt; omega
        have ne_gt_gn : gt ≠ gn := by have := HSt2.out.lt; omega
        have ne_gh_gf : gh ≠ gf := by have := HSh1.out.lt; omega
        have ne_gh_gn : gh ≠ gn := by have := HSh1.out.lt; omega
        have ne_go__gf : go_ ≠ gf := by have := HSo1.out.lt; omega
        have ne_go__gn : go_ ≠ gn := by have := HSo1.out.lt; omega
        have le_gf : w.heap.size ≤ gf := by have := LO8.out.size; omega
        have le_gn : w.heap.size ≤ gn := by have := LO8.out.size; omega
        have HSs6 := hide (HSs5.out.below hb4 HSs5.out.lt)
        have HSt3 := hide (HSt2.out.below hb4 HSt2.out.lt)
        have HSh2 := hide (HSh1.out.below hb4 HSh1.out.lt)
        have HSo2 := hide (HSo1.out.below hb4 HSo1.out.lt)
        have HGs8 := hide (HGs7.out.low hb4)
        have HGt5 := hide (HGt4.out.low hb4)
        have HGh2 := hide (HGh1.out.low hb4)
        have HGo2 := hide (HGo1.out.low hb4)
        have LO9 := hide (LO8.out.trans (hb4.mono LO8.out.size))
        clear HSs5 HSt2 HSh1 HSo1 HGs7 HGt4 HGh1 HGo1 LO8 hb4
        have HSf1 := hide hBgf
        clear hBgf
        have HSn1 := hide hBgn
        clear hBgn
        have HGf1 := hide higf
        clear higf
        have HGn1 := hide hign
        clear hign
        rename World => wr4
        clear lgf lgn
        by_cases hmx : (S.g.cols : Int) - 1 < (x : Int)
        · as_aux_lemma =>
            have hcm := hcmp
            rw [if_pos hmx] at hcm
            clear hcmp
            have k_gt_3 := (show _ = some (.int .i64 (a : Nat) : Value) from (HSt3.out.c3).trans (by first | (rw [ETR.out]; done) | (rw [ETR.out]; rfl)))
            have k_gt_4 := (show _ = some (.int .i64 (b : Nat) : Value) from (HSt3.out.c4).trans (by first | (rw [ETC.out]; done) | (rw [ETC.out]; rfl)))
            have k_gt_5 := (show _ = some (.bool false : Value) from (HSt3.out.c5).trans (by first | (rw [ETP.out]; done) | (rw [ETP.out]; rfl)))
            have k_gs_0 := (show _ = some (.int .i64 (S.g.rows : Nat) : Value) from HSs6.out.c0)
            have k_gs_1 := (show _ = some (.int .i64 (S.g.cols : Nat) : Value) from HSs6.out.c1)
            go_wp2_with (first | (refine wpList_load_scrG HSh2.out _ rfl (by rfl) rfl ?_) | (refine wpList_load_scrG HSo2.out _ rfl (by rfl) rfl ?_))
            clear k_gt_3 k_gt_4 k_gt_5 k_gs_0 k_gs_1
            refine (screens_is H _ _ _ _ _ HNH.out HGh2.out HGo2.out).mono ?_
            rintro e wq1 ⟨rfl, hq1⟩
            have HSs7 := hide (HSs6.out.below hq1 HSs6.out.lt)
            have HSt4 := hide (HSt3.out.below hq1 HSt3.out.lt)
            have HSh3 := hide (HSh2.out.below hq1 HSh2.out.lt)
            have HSo3 := hide (HSo2.out.below hq1 HSo2.out.lt)
            have HSf2 := hide (HSf1.out.below hq1 HSf1.out.lt)
            have HSn2 := hide (HSn1.out.below hq1 HSn1.out.lt)
            have HGs9 := hide (HGs8.out.low hq1)
            have HGt6 := hide (HGt5.out.low hq1)
            have HGh3 := hide (HGh2.out.low hq1)
            have HGo3 := hide (HGo2.out.low hq1)
            have HGf2 := hide (HGf1.out.low hq1)
            have HGn2 := hide (HGn1.out.low hq1)
            have LO10 := hide (LO9.out.trans (hq1.mono LO9.out.size))
            clear HSs6 HSt3 HSh2 HSo2 HSf1 HSn1 HGs8 HGt5 HGh2 HGo2 HGf1 HGn1 LO9 hq1
            have k_gf_3 := (show _ = some (.int .i64 ((S.g.rows : Int) - 1) : Value) from (HSf2.out.c3).trans (by first | (rw [EFR.out]; done) | (rw [EFR.out]; rfl)))
            have k_gf_4 := (show _ = some (.int .i64 ((S.g.cols : Int) - 1) : Value) from (HSf2.out.c4).trans (by first | (rw [EFC.out]; done) | (rw [EFC.out]; rfl)))
            have k_gn_3 := (show _ = some (.int .i64 0 : Value) from (HSn2.out.c3).trans (by first | (rw [EER.out]; done) | (rw [EER.out]; rfl)))
            have k_gn_4 := (show _ = some (.int .i64 0 : Value) from (HSn2.out.c4).trans (by first | (rw [EEC.out]; done) | (rw [EEC.out]; rfl)))
            have k_gs_0 := (show _ = some (.int .i64 (S.g.rows : Nat) : Value) from HSs7.out.c0)
            have k_gs_1 := (show _ = some (.int .i64 (S.g.cols : Nat) : Value) from HSs7.out.c1)
            go_wp2_with fail
            clear k_gf_3 k_gf_4 k_gn_3 k_gn_4 k_gs_0 k_gs_1
            refine (cursorRuns_any _ (HSP.out.below LO10.out (by exact SLT.out))).mono ?_
            rintro e wq2 ⟨rfl, hq2⟩
            have HSs8 := hide (HSs7.out.below hq2 HSs7.out.lt)
            have HSt5 := hide (HSt4.out.below hq2 HSt4.out.lt)
            have HSh4 := hide (HSh3.out.below hq2 HSh3.out.lt)
            have HSo4 := hide (HSo3.out.below hq2 HSo3.out.lt)
            have HSf3 := hide (HSf2.out.below hq2 HSf2.out.lt)
            have HSn3 := hide (HSn2.out.below hq2 HSn2.out.lt)
            have HGs10 := hide (HGs9.out.low hq2)
            have HGt7 := hide (HGt6.out.low hq2)
            have HGh4 := hide (HGh3.out.low hq2)
            have HGo4 := hide (HGo3.out.low hq2)
            have HGf3 := hide (HGf2.out.low hq2)
            have HGn3 := hide (HGn2.out.low hq2)
            have LO11 := hide (LO10.out.trans (hq2.mono LO10.out.size))
            clear HSs7 HSt4 HSh3 HSo3 HSf2 HSn2 HGs9 HGt6 HGh3 HGo3 HGf2 HGn2 LO10 hq2
            go_wp2_with fail
            go_ret
            exact ⟨rfl, LO11.out⟩
        · as_aux_lemma =>
            have hcm := hcmp
            rw [if_neg hmx] at hcm
            clear hcmp
            have k_gt_3 := (show _ = some (.int .i64 (a : Nat) : Value) from (HSt3.out.c3).trans (by first | (rw [ETR.out]; done) | (rw [ETR.out]; rfl)))
            have k_gt_4 := (show _ = some (.int .i64 (b : Nat) : Value) from (HSt3.out.c4).trans (by first | (rw [ETC.out]; done) | (rw [ETC.out]; rfl)))
            have k_gt_5 := (show _ = some (.bool false : Value) from (HSt3.out.c5).trans (by first | (rw [ETP.out]; done) | (rw [ETP.out]; rfl)))
            have k_gs_0 := (show _ = some (.int .i64 (S.g.rows : Nat) : Value) from HSs6.out.c0)
            have k_gs_1 := (show _ = some (.int .i64 (S.g.cols : Nat) : Value) from HSs6.out.c1)
            go_wp2_with (first | (refine wpList_load_scrG HSh2.out _ rfl (by rfl) rfl ?_) | (refine wpList_load_scrG HSo2.out _ rfl (by rfl) rfl ?_))
            clear k_gt_3 k_gt_4 k_gt_5 k_gs_0 k_gs_1
            refine (screens_is H _ _ _ _ _ HNH.out HGh2.out HGo2.out).mono ?_
            rintro e wq1 ⟨rfl, hq1⟩
            have HSs7 := hide (HSs6.out.below hq1 HSs6.out.lt)
            have HSt4 := hide (HSt3.out.below hq1 HSt3.out.lt)
            have HSh3 := hide (HSh2.out.below hq1 HSh2.out.lt)
            have HSo3 := hide (HSo2.out.below hq1 HSo2.out.lt)
            have HSf2 := hide (HSf1.out.below hq1 HSf1.out.lt)
            have HSn2 := hide (HSn1.out.below hq1 HSn1.out.lt)
            have HGs9 := hide (HGs8.out.low hq1)
            have HGt6 := hide (HGt5.out.low hq1)
            have HGh3 := hide (HGh2.out.low hq1)
            have HGo3 := hide (HGo2.out.low hq1)
            have HGf2 := hide (HGf1.out.low hq1)
            have HGn2 := hide (HGn1.out.low hq1)
            have LO10 := hide (LO9.out.trans (hq1.mono LO9.out.size))
            clear HSs6 HSt3 HSh2 HSo2 HSf1 HSn1 HGs8 HGt5 HGh2 HGo2 HGf1 HGn1 LO9 hq1
            have k_gf_3 := (show _ = some (.int .i64 ((S.g.rows : Int) - 1) : Value) from (HSf2.out.c3).trans (by first | (rw [EFR.out]; done) | (rw [EFR.out]; rfl)))
            have k_gf_4 := (show _ = some (.int .i64 ((S.g.cols : Int) - 1) : Value) from (HSf2.out.c4).trans (by first | (rw [EFC.out]; done) | (rw [EFC.out]; rfl)))
            have k_gn_3 := (show _ = some (.int .i64 0 : Value) from (HSn2.out.c3).trans (by first | (rw [EER.out]; done) | (rw [EER.out]; rfl)))
            have k_gn_4 := (show _ = some (.int .i64 0 : Value) from (HSn2.out.c4).trans (by first | (rw [EEC.out]; done) | (rw [EEC.out]; rfl)))
            have k_gs_0 := (show _ = some (.int .i64 (S.g.rows : Nat) : Value) from HSs7.out.c0)
            have k_gs_1 := (show _ = some (.int .i64 (S.g.cols : Nat) : Value) from HSs7.out.c1)
            go_wp2_with fail
            clear k_gf_3 k_gf_4 k_gn_3 k_gn_4 k_gs_0 k_gs_1
            refine (cursorRuns_any _ (HSP.out.below LO10.out (by exact SLT.out))).mono ?_
            rintro e wq2 ⟨rfl, hq2⟩
            have HSs8 := hide (HSs7.out.below hq2 HSs7.out.lt)
            have HSt5 := hide (HSt4.out.below hq2 HSt4.out.lt)
            have HSh4 := hide (HSh3.out.below hq2 HSh3.out.lt)
            have HSo4 := hide (HSo3.out.below hq2 HSo3.out.lt)
            have HSf3 := hide (HSf2.out.below hq2 HSf2.out.lt)
            have HSn3 := hide (HSn2.out.below hq2 HSn2.out.lt)
            have HGs10 := hide (HGs9.out.low hq2)
            have HGt7 := hide (HGt6.out.low hq2)
            have HGh4 := hide (HGh3.out.low hq2)
            have HGo4 := hide (HGo3.out.low hq2)
            have HGf3 := hide (HGf2.out.low hq2)
            have HGn3 := hide (HGn2.out.low hq2)
            have LO11 := hide (LO10.out.trans (hq2.mono LO10.out.size))
            clear HSs7 HSt4 HSh3 HSo3 HSf2 HSn2 HGs9 HGt6 HGh3 HGo3 HGf2 HGn2 LO10 hq2
            go_wp2_with fail
            go_ret
            exact ⟨rfl, LO11.out⟩
end Go.Proofs.YtbhnipepbckalaaDoor
