/- ScreenTells: any screen: cut to any size; which are the same, which look the same; what isn't right. (written by tools/genscreentells.py) -/
import Derived.Test.YtoffiekpmomfcaaDoorScreenRuns
import Derived.Test.YtoffiekpmomfcaaDoorScreenEq
import Derived.Test.YtoffiekpmomfcaaDoorScreenVal
import Derived.Test.YtoffiekpmomfcaaDoorKept
import Derived.Test.YtoffiekpmomfcaaDoorPenEq
import Derived.Deep.DeepCutAuto
import Derived.Deep.CutBlock
set_option maxRecDepth 100000
namespace Go.Proofs.YtoffiekpmomfcaaDoor
open Go.RowKit
set_option linter.unusedVariables false
theorem same_self (q : SN.Rw) : q.same q = true := by simp [SN.Rw.same]
set_option maxHeartbeats 16000000 in
theorem screenTells_t (kcs : Array Value) (r1 c1' wt by1 : Int) (hh ww bn wn : Nat) (S T F : SN.Sc) (w : World) (hk13 : kcs.size = 13) (hS : SN.RightS S) (hh1 : 1 ≤ hh) (hh7 : hh ≤ 7) (ww1 : 1 ≤ ww) (ww12 : ww ≤ 12) (hwn : wn ≤ 7) (hbn : bn ≤ 1099511627776) (hsp : Spans w)
    (hT : SN.sized S hh ww = T) (hF : SN.full hh ww = F)
    (KS : Hid (∀ w', Below w.heap.size w w' → Calls Tryd.prog 11 #[.agg kcs] w' (GotS w' S)))
    (WH : Hid (∀ w', Calls Tryd.prog 12 #[.int .i64 r1, .int .i64 1, .int .i64 7] w' fun e w'' => e = .returned (.int .i64 (hh : Nat)) ∧ w' = w''))
    (WW : Hid (∀ w', Calls Tryd.prog 12 #[.int .i64 c1', .int .i64 1, .int .i64 12] w' fun e w'' => e = .returned (.int .i64 (ww : Nat)) ∧ w' = w''))
    (WY : Hid (∀ w', Calls Tryd.prog 12 #[.int .i64 by1, .int .i64 0, .int .i64 1099511627776] w' fun e w'' => e = .returned (.int .i64 (bn : Nat)) ∧ w' = w''))
    (WN : Hid (∀ w', Calls Tryd.prog 12 #[.int .i64 wt, .int .i64 0, .int .i64 7] w' fun e w'' => e = .returned (.int .i64 (wn : Nat)) ∧ w' = w'')) :
    Calls Tryd.prog 4 #[.agg kcs, .int .i64 r1, .int .i64 c1', .int .i64 wt, .int .i64 by1] w fun e w' => e = .returned (.bool true) ∧ Below w.heap.size w w' := by
  have q1 := hS.g.1
  have q2 := hS.g.2.2.1
  have hTr : SN.RightS T := hT ▸ SN.right_sized hS (by omega) (by omega) (by omega) (by omega)
  have RS := hide hS
  have RT := hide hTr
  have hnT : T.g.rows * T.g.cols ≤ 1099511627776 := by
    have e : T.g.rows * T.g.cols = hh * ww := by subst hT; rfl
    have : hh * ww ≤ 7 * 12 := Nat.mul_le_mul hh7 ww12
    omega
  have hnF : F.g.rows * F.g.cols ≤ 1099511627776 := by
    have e : F.g.rows * F.g.cols = hh * ww := by subst hF; rfl
    have : hh * ww ≤ 7 * 12 := Nat.mul_le_mul hh7 ww12
    omega
  have HNT := hide hnT
  have HNF := hide hnF
  have SZT := hide (fun w' v h => by
    have := ssized_is S v (hh : Int) (ww : Int) hh ww (by unfold SN.cut; omega) (by unfold SN.cut; omega) (by omega) (by omega) hS w' h
    rw [hT] at this
    exact this)
  have RSZ := hide (fun w' v h => by
    have := rsized_is S v hh ww w' hS h hh1 (by omega) ww1 (by omega)
    rw [hT] at this
    exact this)
  have NWF := hide (fun w' => by
    have := snew_is (hh : Int) (ww : Int) hh ww (by unfold SN.cut; omega) (by unfold SN.cut; omega) (by omega) (by omega) w'
    rw [hF] at this
    exact this)
  have RFF := hide (fun w' => by
    have := rfull_is hh ww w' hh1 (by omega) ww1 (by omega)
    rw [hF] at this
    exact this)
  have ep : ∀ w' : World, (binOp .eql 26 (.agg #[.int .i64 (-1), .int .i64 S.pen.2.1, .int .i64 0]) (.agg #[.int .i64 (-1), .int .i64 S.pen.2.1, .int .i64 0])).run Tryd.prog w' = .ok (.bool true) w' := fun w' => by rw [eql_pen]; simp
  have pg := pen_guard
  have HSP := hide hsp
  have SLT := hide hsp.lt
  have LO0 := hide (Below.refl w.heap.size w)
  clear hsp hTr hT hF hnT hnF
  go_enter Tryd.func4, Tryd.ntmps4
  go_wp2_with (first | (refine wpList_box_ks hk13 rfl _ rfl rfl ?_; intro gk wk hKB hbk hlk) | (refine wpList_load_ks hKB rfl _ rfl rfl ?_))
  have LO1 := hide (LO0.out.trans (hbk.mono LO0.out.size))
  clear LO0 hbk
  refine (KS.out _ LO1.out).mono ?_
  rintro e wb1 ⟨v1, rfl, ⟨x1, rfl, hg1⟩, hb1⟩
  have LO2 := hide (LO1.out.trans (hb1.mono LO1.out.size))
  clear LO1 hb1
  obtain ⟨A1, c1, rfl⟩ := gv_slice hg1
  have HGs1 := hide hg1
  clear hg1
  go_upto_region 2 with (first | (refine wpList_alloc_scr rfl rfl ?_; intro gs wags csgs hBgs hzgs hbgs hlgs) | (refine wpList_store_scr hBgs hzgs rfl _ _ rfl rfl rfl rfl ?_; intro wsgs hSgs hkgs hqgs))
  have le_gs : w.heap.size ≤ gs := by have := LO2.out.size; omega
  have HGs2 := hide (HGs1.out.low hbgs)
  have LO3 := hide (LO2.out.trans (hbgs.mono LO2.out.size))
  clear HGs1 LO2 hbgs
  have HGs3 := hide (HGs2.out.kept hBgs (by decide) hkgs)
  have LO4 := hide (LO3.out.trans (hkgs.toBelow LO3.out.size (fun k hh => by simp at hh; omega)))
  clear HGs2 LO3
  have HSs1 := hide hSgs
  clear hSgs hkgs hBgs hlgs
  go_wp2_with fail
  refine (WH.out _).mono ?_
  rintro e w' ⟨rfl, rfl⟩
  go_wp2_with fail
  refine (WW.out _).mono ?_
  rintro e w' ⟨rfl, rfl⟩
  go_wp2_with (first | (refine wpList_load_scr HSs1.out rfl _ rfl rfl ?_))
  refine (SZT.out _ _ ⟨_, rfl, HGs3.out⟩).mono ?_
  rintro e wb2 ⟨v2, rfl, ⟨x2, rfl, hg2⟩, hb2⟩
  have HSs2 := hide (HSs1.out.below hb2 HSs1.out.lt)
  have HGs4 := hide (HGs3.out.low hb2)
  have LO5 := hide (LO4.out.trans (hb2.mono LO4.out.size))
  clear HSs1 HGs3 LO4 hb2
  obtain ⟨A2, c2, rfl⟩ := gv_slice hg2
  have HGt1 := hide hg2
  clear hg2
  go_upto_region 4 with (first | (refine wpList_alloc_scr rfl rfl ?_; intro gt wagt csgt hBgt hzgt hbgt hlgt) | (refine wpList_store_scr hBgt hzgt rfl _ _ rfl rfl rfl rfl ?_; intro wsgt hSgt hkgt hqgt))
  have ne_gs_gt : gs ≠ gt := by have := HSs2.out.lt; omega
  have le_gt : w.heap.size ≤ gt := by have := LO5.out.size; omega
  have HSs3 := hide (HSs2.out.below hbgt HSs2.out.lt)
  have HGs5 := hide (HGs4.out.low hbgt)
  have HGt2 := hide (HGt1.out.low hbgt)
  have LO6 := hide (LO5.out.trans (hbgt.mono LO5.out.size))
  clear HSs2 HGs4 HGt1 LO5 hbgt
  have HSs4 := hide (HSs3.out.kept hkgt (by simp; first | exact ne_gs_gt | exact Ne.symm ne_gt_gs))
  have HGs6 := hide (HGs5.out.kept hBgt (by decide) hkgt)
  have HGt3 := hide (HGt2.out.kept hBgt (by decide) hkgt)
  have LO7 := hide (LO6.out.trans (hkgt.toBelow LO6.out.size (fun k hh => by simp at hh; omega)))
  clear HSs3 HGs5 HGt2 LO6
  have HSt1 := hide hSgt
  clear hSgt hkgt hBgt hlgt
  go_simp
  go_cut [60] from 27 to 60 (fun u wx => u = .bool false ∧ Below wsgt.heap.size wsgt wx)
  case first =>
    refine wp_region_gj (n := 132) [] (fun _ => #[]) [(0, 0, 0, 0, 0), (0, 0, 0, 0, 0), (0, 0, 0, 0, 0), (0, 0, 0, 0, 0), (1, 0, 0, 0, 0), (0, 0, 0, 0, 0), (0, 0, 0, 0, 0), (0, 0, 0, 0, 0), (0, 0, 0, 0, 0), (0, 0, 0, 0, 0), (1, 0, 0, 0, 0), (0, 0, 0, 0, 0), (0, 0, 0, 0, 0), (1, 0, 0, 0, 0), (0, 0, 0, 0, 0), (0, 0, 0, 0, 0), (0, 0, 0, 0, 0), (0, 0, 0, 0, 0), (0, 0, 0, 0, 0), (0, 0, 0, 0, 0), (0, 0, 0, 0, 0), (0, 0, 0, 0, 0), (0, 0, 0, 0, 0), (0, 0, 0, 0, 0), (0, 0, 0, 0, 0), (0, 0, 0, 0, 0), (0, 0, 0, 0, 0), (0, 0, 0, 0, 0), (0, 0, 0, 0, 0), (0, 0, 0, 0, 0), (1, 0, 0, 0, 0), (0, 0, 0, 0, 0), (0, 0, 0, 0, 0), (0, 0, 0, 0, 0)] (fun j => [(.agg (scA (.slice A2 (T.g.rows * T.g.cols) c2) T)), (.agg (scA (.slice A1 (S.g.rows * S.g.cols) c1) S)), (.int .i64 (hh : Nat)), (.int .i64 (ww : Nat)), undef, (.bool true), (.bool false), (.bool false), (.int .i64 (hh : Nat)), (.int .i64 (ww : Nat)), undef, (.int .i64 (hh : Nat)), (.int .i64 (ww : Nat)), undef, (.bool true), (.bool false), (.bool false), (.bool false), (.agg (scA (.slice A1 (S.g.rows * S.g.cols) c1) S)), (.bool true), (.bool false), (.bool false), (.bool false), (.agg (scA (.slice A2 (T.g.rows * T.g.cols) c2) T)), (.bool true), (.bool false), (.bool false), (.bool false), (.agg (scA (.slice A1 (S.g.rows * S.g.cols) c1) S)), (.agg (scA (.slice A1 (S.g.rows * S.g.cols) c1) S)), undef, (.bool true), (.bool false), (.bool false)].getD j undef) [none, none, none, none, some (ScrV T), none, none, none, none, none, some (ScrV F), none, none, some (ScrV F), none, none, none, none, none, none, none, none, none, none, none, none, none, none, none, none, some (ScrV S)] (fun _ => 0) (by kernel_rfl) (by kernel_rfl) (by kernel_rfl) rfl (by kernel_rfl) (gno4 rfl) (fun i j h => by revert h; exact gno4 (p := fun _ => _) rfl i) (AllG.none_ (AllG.none_ (AllG.none_ (AllG.none_ (AllG.some_ (ScrV.stays (by kernel_rfl)) (AllG.none_ (AllG.none_ (AllG.none_ (AllG.none_ (AllG.none_ (AllG.some_ (ScrV.stays (by kernel_rfl)) (AllG.none_ (AllG.none_ (AllG.some_ (ScrV.stays (by kernel_rfl)) (AllG.none_ (AllG.none_ (AllG.none_ (AllG.none_ (AllG.none_ (AllG.none_ (AllG.none_ (AllG.none_ (AllG.none_ (AllG.none_ (AllG.none_ (AllG.none_ (AllG.none_ (AllG.none_ (AllG.none_ (AllG.none_ (AllG.some_ (ScrV.stays (by kernel_rfl)) (AllG.nil _)))))))))))))))))))))))))))))))) (fun hGS => cases34 ⟨?_, ?_, ?_, ?_, ?_, ?_, ?_, ?_, ?_, ?_, ?_, ?_, ?_, ?_, ?_, ?_, ?_, ?_, ?_, ?_, ?_, ?_, ?_, ?_, ?_, ?_, ?_, ?_, ?_, ?_, ?_, ?_, ?_, ?_⟩) ?_
    · intro L a w' hL hsame hsz hJ hdep hcl
      have hb := hJ.kept.toBelow (Nat.le_refl _) (by simp)
      have e0 : a.eval (.tmp 14) = (.pointer (some ⟨gt, 0, none⟩)) := eval_base hsame (by kernel_rfl)
      have hx := hJ.keptBox ((show Box _ gt 32 (scA (.slice A2 (T.g.rows * T.g.cols) c2) T) from HSt1.out)) (by simp)
      exact Step.val _ rfl rfl (wanted_none rfl) (.agg (scA (.slice A2 (T.g.rows * T.g.cols) c2) T)) w' (fun ρ hρ => exec_load_any hx rfl ρ _ rfl ((hρ _).symm.trans e0)) (hJ.val hGS hcl hL rfl (Below.refl _ _) _ rfl)
    · intro L a w' hL hsame hsz hJ hdep hcl
      have hb := hJ.kept.toBelow (Nat.le_refl _) (by simp)
      have e0 : a.eval (.tmp 11) = (.pointer (some ⟨gs, 0, none⟩)) := eval_base hsame (by kernel_rfl)
      have hx := hJ.keptBox ((show Box _ gs 32 (scA (.slice A1 (S.g.rows * S.g.cols) c1) S) from HSs4.out)) (by simp)
      exact Step.val _ rfl rfl (wanted_none rfl) (.agg (scA (.slice A1 (S.g.rows * S.g.cols) c1) S)) w' (fun ρ hρ => exec_load_any hx rfl ρ _ rfl ((hρ _).symm.trans e0)) (hJ.val hGS hcl hL rfl (Below.refl _ _) _ rfl)
    · intro L a w' hL hsame hsz hJ hdep hcl
      have hb := hJ.kept.toBelow (Nat.le_refl _) (by simp)
      have e0 : a.eval (.tmp 12) = (.int .i64 (hh : Nat)) := eval_base hsame (by kernel_rfl)
      refine Step.val _ rfl rfl (wanted_none rfl) (.int .i64 (hh : Nat)) w' (fun ρ hρ => ?_) (hJ.val hGS hcl hL rfl (Below.refl _ _) _ rfl)
      rw [hρ] at e0
      clear hJ hsame hdep hcl hρ hsz hb
      go_simp
    · intro L a w' hL hsame hsz hJ hdep hcl
      have hb := hJ.kept.toBelow (Nat.le_refl _) (by simp)
      have e0 : a.eval (.tmp 13) = (.int .i64 (ww : Nat)) := eval_base hsame (by kernel_rfl)
      refine Step.val _ rfl rfl (wanted_none rfl) (.int .i64 (ww : Nat)) w' (fun ρ hρ => ?_) (hJ.val hGS hcl hL rfl (Below.refl _ _) _ rfl)
      rw [hρ] at e0
      clear hJ hsame hdep hcl hρ hsz hb
      go_simp
    · intro L a w' hL hsame hsz hJ hdep hcl
      have hb := hJ.kept.toBelow (Nat.le_refl _) (by simp)
      have e0 : a.eval (.tmp 28) = (.agg (scA (.slice A1 (S.g.rows * S.g.cols) c1) S)) := eval_slot (j := 1) (by kernel_rfl) (hJ.valOf (by decide) (dep_of hdep 1 (by kernel_rfl)) rfl rfl)
      have e1 : a.eval (.tmp 29) = (.int .i64 (hh : Nat)) := eval_slot (j := 2) (by kernel_rfl) (hJ.valOf (by decide) (dep_of hdep 2 (by kernel_rfl)) rfl rfl)
      have e2 : a.eval (.tmp 30) = (.int .i64 (ww : Nat)) := eval_slot (j := 3) (by kernel_rfl) (hJ.valOf (by decide) (dep_of hdep 3 (by kernel_rfl)) rfl rfl)
      refine Step.call _ rfl rfl (wanted_none rfl) 14 #[.agg (scA (.slice A1 (S.g.rows * S.g.cols) c1) S), .int .i64 (hh : Nat), .int .i64 (ww : Nat)] (fun ρ hρ => ?_) ?_
      · skip
        rw [hρ] at e0 e1 e2
        have ef : ρ (.func 14) = .func (.func 14) #[] #[] := (hρ _).symm
        clear hJ hsame hdep hcl hρ hsz hb
        go_simp
      · refine (RSZ.out _ _ ⟨_, rfl, (HGs6.out.low hb)⟩).mono ?_
        rintro e w2 ⟨v, rfl, hi, bb⟩
        exact ⟨_, rfl, hJ.pred hGS hcl hL rfl bb _ (scrV_of hi)⟩
    · intro L a w' hL hsame hsz hJ hdep hcl
      have hb := hJ.kept.toBelow (Nat.le_refl _) (by simp)
      have e0 : a.eval (.tmp 27) = (.agg (scA (.slice A2 (T.g.rows * T.g.cols) c2) T)) := eval_slot (j := 0) (by kernel_rfl) (hJ.valOf (by decide) (dep_of hdep 0 (by kernel_rfl)) rfl rfl)
      obtain ⟨A4', c4', hv4, hi4⟩ := (show (ScrV T) (valOf _ 4 a) w' from hJ.predOf (by decide) (dep_of hdep 4 (by kernel_rfl)) rfl)
      have e1 : a.eval (.tmp 31) = .agg (scA (.slice A4' (T.g.rows * T.g.cols) c4') T) := eval_slot (j := 4) (by kernel_rfl) hv4
      refine Step.call _ rfl rfl (wanted_none rfl) 13 #[.agg (scA (.slice A2 (T.g.rows * T.g.cols) c2) T), .agg (scA (.slice A4' (T.g.rows * T.g.cols) c4') T)] (fun ρ hρ => ?_) ?_
      · skip
        rw [hρ] at e0 e1
        have ef : ρ (.func 13) = .func (.func 13) #[] #[] := (hρ _).symm
        clear hJ hsame hdep hcl hρ hsz hb
        go_simp
      · refine (screens_is T _ _ _ _ _ HNT.out (HGt3.out.low hb) hi4).mono ?_
        rintro e w2 ⟨rfl, bb⟩
        exact ⟨_, rfl, hJ.val hGS hcl hL rfl bb _ rfl⟩
    · intro L a w' hL hsame hsz hJ hdep hcl
      have hb := hJ.kept.toBelow (Nat.le_refl _) (by simp)
      have e0 : a.eval (.tmp 32) = (.bool true) := eval_slot (j := 5) (by kernel_rfl) (hJ.valOf (by decide) (dep_of hdep 5 (by kernel_rfl)) rfl rfl)
      refine Step.val _ rfl rfl (wanted_none rfl) (.bool false) w' (fun ρ hρ => ?_) (hJ.val hGS hcl hL rfl (Below.refl _ _) _ rfl)
      rw [hρ] at e0
      clear hJ hsame hdep hcl hρ hsz hb
      go_simp
    · intro L a w' hL hsame hsz hJ hdep hcl
      have hb := hJ.kept.toBelow (Nat.le_refl _) (by simp)
      have e0 : a.eval (.tmp 33) = (.bool false) := eval_slot (j := 6) (by kernel_rfl) (hJ.valOf (by decide) (dep_of hdep 6 (by kernel_rfl)) rfl rfl)
      refine Step.val _ rfl rfl (wanted_none rfl) (.bool false) w' (fun ρ hρ => ?_) (hJ.val hGS hcl hL rfl (Below.refl _ _) _ rfl)
      rw [hρ] at e0
      clear hJ hsame hdep hcl hρ hsz hb
      go_simp
    · intro L a w' hL hsame hsz hJ hdep hcl
      have gd : valOf _ 7 a = .bool false := hJ.valOf (by decide) (dep_of hdep 7 (by kernel_rfl)) rfl rfl
      have hb := hJ.kept.toBelow (Nat.le_refl _) (by simp)
      have e0 : a.eval (.tmp 12) = (.int .i64 (hh : Nat)) := eval_base hsame (by kernel_rfl)
      refine Step.val _ rfl rfl (wanted_some (g := 7) (b := false) rfl gd) (.int .i64 (hh : Nat)) w' (fun ρ hρ => ?_) (hJ.val hGS hcl hL rfl (Below.refl _ _) _ rfl)
      rw [hρ] at e0
      clear hJ hsame hdep hcl hρ hsz hb gd
      go_simp
    · intro L a w' hL hsame hsz hJ hdep hcl
      have gd : valOf _ 7 a = .bool false := hJ.valOf (by decide) (dep_of hdep 7 (by kernel_rfl)) rfl rfl
      have hb := hJ.kept.toBelow (Nat.le_refl _) (by simp)
      have e0 : a.eval (.tmp 13) = (.int .i64 (ww : Nat)) := eval_base hsame (by kernel_rfl)
      refine Step.val _ rfl rfl (wanted_some (g := 7) (b := false) rfl gd) (.int .i64 (ww : Nat)) w' (fun ρ hρ => ?_) (hJ.val hGS hcl hL rfl (Below.refl _ _) _ rfl)
      rw [hρ] at e0
      clear hJ hsame hdep hcl hρ hsz hb gd
      go_simp
    · intro L a w' hL hsame hsz hJ hdep hcl
      have gd : valOf _ 7 a = .bool false := hJ.valOf (by decide) (dep_of hdep 7 (by kernel_rfl)) rfl rfl
      have hb := hJ.kept.toBelow (Nat.le_refl _) (by simp)
      have e0 : a.eval (.tmp 35) = (.int .i64 (hh : Nat)) := eval_slot (j := 8) (by kernel_rfl) (hJ.valOf (by decide) (dep_of hdep 8 (by kernel_rfl)) rfl rfl)
      have e1 : a.eval (.tmp 36) = (.int .i64 (ww : Nat)) := eval_slot (j := 9) (by kernel_rfl) (hJ.valOf (by decide) (dep_of hdep 9 (by kernel_rfl)) rfl rfl)
      refine Step.call _ rfl rfl (wanted_some (g := 7) (b := false) rfl gd) 7 #[.int .i64 (hh : Nat), .int .i64 (ww : Nat)] (fun ρ hρ => ?_) ?_
      · skip
        rw [hρ] at e0 e1
        have ef : ρ (.func 7) = .func (.func 7) #[] #[] := (hρ _).symm
        clear hJ hsame hdep hcl hρ hsz hb gd
        go_simp
      · refine (NWF.out _).mono ?_
        rintro e w2 ⟨v, rfl, hi, bb⟩
        exact ⟨_, rfl, hJ.pred hGS hcl hL rfl bb _ (scrV_of hi)⟩
    · intro L a w' hL hsame hsz hJ hdep hcl
      have gd : valOf _ 7 a = .bool false := hJ.valOf (by decide) (dep_of hdep 7 (by kernel_rfl)) rfl rfl
      have hb := hJ.kept.toBelow (Nat.le_refl _) (by simp)
      have e0 : a.eval (.tmp 12) = (.int .i64 (hh : Nat)) := eval_base hsame (by kernel_rfl)
      refine Step.val _ rfl rfl (wanted_some (g := 7) (b := false) rfl gd) (.int .i64 (hh : Nat)) w' (fun ρ hρ => ?_) (hJ.val hGS hcl hL rfl (Below.refl _ _) _ rfl)
      rw [hρ] at e0
      clear hJ hsame hdep hcl hρ hsz hb gd
      go_simp
    · intro L a w' hL hsame hsz hJ hdep hcl
      have gd : valOf _ 7 a = .bool false := hJ.valOf (by decide) (dep_of hdep 7 (by kernel_rfl)) rfl rfl
      have hb := hJ.kept.toBelow (Nat.le_refl _) (by simp)
      have e0 : a.eval (.tmp 13) = (.int .i64 (ww : Nat)) := eval_base hsame (by kernel_rfl)
      refine Step.val _ rfl rfl (wanted_some (g := 7) (b := false) rfl gd) (.int .i64 (ww : Nat)) w' (fun ρ hρ => ?_) (hJ.val hGS hcl hL rfl (Below.refl _ _) _ rfl)
      rw [hρ] at e0
      clear hJ hsame hdep hcl hρ hsz hb gd
      go_simp
    · intro L a w' hL hsame hsz hJ hdep hcl
      have gd : valOf _ 7 a = .bool false := hJ.valOf (by decide) (dep_of hdep 7 (by kernel_rfl)) rfl rfl
      have hb := hJ.kept.toBelow (Nat.le_refl _) (by simp)
      have e0 : a.eval (.tmp 38) = (.int .i64 (hh : Nat)) := eval_slot (j := 11) (by kernel_rfl) (hJ.valOf (by decide) (dep_of hdep 11 (by kernel_rfl)) rfl rfl)
      have e1 : a.eval (.tmp 39) = (.int .i64 (ww : Nat)) := eval_slot (j := 12) (by kernel_rfl) (hJ.valOf (by decide) (dep_of hdep 12 (by kernel_rfl)) rfl rfl)
      refine Step.call _ rfl rfl (wanted_some (g := 7) (b := false) rfl gd) 15 #[.int .i64 (hh : Nat), .int .i64 (ww : Nat)] (fun ρ hρ => ?_) ?_
      · skip
        rw [hρ] at e0 e1
        have ef : ρ (.func 15) = .func (.func 15) #[] #[] := (hρ _).symm
        clear hJ hsame hdep hcl hρ hsz hb gd
        go_simp
      · refine (RFF.out _).mono ?_
        rintro e w2 ⟨v, rfl, hi, bb⟩
        exact ⟨_, rfl, hJ.pred hGS hcl hL rfl bb _ (scrV_of hi)⟩
    · intro L a w' hL hsame hsz hJ hdep hcl
      have gd : valOf _ 7 a = .bool false := hJ.valOf (by decide) (dep_of hdep 7 (by kernel_rfl)) rfl rfl
      have hb := hJ.kept.toBelow (Nat.le_refl _) (by simp)
      obtain ⟨A10', c10', hv10, hi10⟩ := (show (ScrV F) (valOf _ 10 a) w' from hJ.predOf (by decide) (dep_of hdep 10 (by kernel_rfl)) rfl)
      have e0 : a.eval (.tmp 37) = .agg (scA (.slice A10' (F.g.rows * F.g.cols) c10') F) := eval_slot (j := 10) (by kernel_rfl) hv10
      obtain ⟨A13', c13', hv13, hi13⟩ := (show (ScrV F) (valOf _ 13 a) w' from hJ.predOf (by decide) (dep_of hdep 13 (by kernel_rfl)) rfl)
      have e1 : a.eval (.tmp 40) = .agg (scA (.slice A13' (F.g.rows * F.g.cols) c13') F) := eval_slot (j := 13) (by kernel_rfl) hv13
      refine Step.call _ rfl rfl (wanted_some (g := 7) (b := false) rfl gd) 13 #[.agg (scA (.slice A10' (F.g.rows * F.g.cols) c10') F), .agg (scA (.slice A13' (F.g.rows * F.g.cols) c13') F)] (fun ρ hρ => ?_) ?_
      · skip
        rw [hρ] at e0 e1
        have ef : ρ (.func 13) = .func (.func 13) #[] #[] := (hρ _).symm
        clear hJ hsame hdep hcl hρ hsz hb gd
        go_simp
      · refine (screens_is F _ _ _ _ _ HNF.out hi10 hi13).mono ?_
        rintro e w2 ⟨rfl, bb⟩
        exact ⟨_, rfl, hJ.val hGS hcl hL rfl bb _ rfl⟩
    · intro L a w' hL hsame hsz hJ hdep hcl
      have gd : valOf _ 7 a = .bool false := hJ.valOf (by decide) (dep_of hdep 7 (by kernel_rfl)) rfl rfl
      have hb := hJ.kept.toBelow (Nat.le_refl _) (by simp)
      have e0 : a.eval (.tmp 41) = (.bool true) := eval_slot (j := 14) (by kernel_rfl) (hJ.valOf (by decide) (dep_of hdep 14 (by kernel_rfl)) rfl rfl)
      refine Step.val _ rfl rfl (wanted_some (g := 7) (b := false) rfl gd) (.bool false) w' (fun ρ hρ => ?_) (hJ.val hGS hcl hL rfl (Below.refl _ _) _ rfl)
      rw [hρ] at e0
      clear hJ hsame hdep hcl hρ hsz hb gd
      go_simp
    · intro L a w' hL hsame hsz hJ hdep hcl
      have hb := hJ.kept.toBelow (Nat.le_refl _) (by simp)
      have e0 : a.eval (.tmp 34) = (.bool false) := eval_slot (j := 7) (by kernel_rfl) (hJ.valOf (by decide) (dep_of hdep 7 (by kernel_rfl)) rfl rfl)
      have e2 : a.eval (.tmp 42) = (.bool false) := eval_slot (j := 15) (by kernel_rfl) (hJ.valOf (by decide) (dep_of hdep 15 (by kernel_rfl)) rfl rfl)
      refine Step.val _ rfl rfl (wanted_none rfl) (.bool false) w' (fun ρ hρ => ?_) (hJ.val hGS hcl hL rfl (Below.refl _ _) _ rfl)
      rw [hρ] at e0 e2
      have ec0 : ρ (.const (.bool true)) = (.bool true) := (hρ _).symm
      clear hJ hsame hdep hcl hρ hsz hb
      go_simp
    · intro L a w' hL hsame hsz hJ hdep hcl
      have hb := hJ.kept.toBelow (Nat.le_refl _) (by simp)
      have e0 : a.eval (.tmp 43) = (.bool false) := eval_slot (j := 16) (by kernel_rfl) (hJ.valOf (by decide) (dep_of hdep 16 (by kernel_rfl)) rfl rfl)
      refine Step.val _ rfl rfl (wanted_none rfl) (.bool false) w' (fun ρ hρ => ?_) (hJ.val hGS hcl hL rfl (Below.refl _ _) _ rfl)
      rw [hρ] at e0
      clear hJ hsame hdep hcl hρ hsz hb
      go_simp
    · intro L a w' hL hsame hsz hJ hdep hcl
      have gd : valOf _ 17 a = .bool false := hJ.valOf (by decide) (dep_of hdep 17 (by kernel_rfl)) rfl rfl
      have hb := hJ.kept.toBelow (Nat.le_refl _) (by simp)
      have e0 : a.eval (.tmp 11) = (.pointer (some ⟨gs, 0, none⟩)) := eval_base hsame (by kernel_rfl)
      have hx := hJ.keptBox ((show Box _ gs 32 (scA (.slice A1 (S.g.rows * S.g.cols) c1) S) from HSs4.out)) (by simp)
      exact Step.val _ rfl rfl (wanted_some (g := 17) (b := false) rfl gd) (.agg (scA (.slice A1 (S.g.rows * S.g.cols) c1) S)) w' (fun ρ hρ => exec_load_any hx rfl ρ _ rfl ((hρ _).symm.trans e0)) (hJ.val hGS hcl hL rfl (Below.refl _ _) _ rfl)
    · intro L a w' hL hsame hsz hJ hdep hcl
      have gd : valOf _ 17 a = .bool false := hJ.valOf (by decide) (dep_of hdep 17 (by kernel_rfl)) rfl rfl
      have hb := hJ.kept.toBelow (Nat.le_refl _) (by simp)
      have e0 : a.eval (.tmp 45) = (.agg (scA (.slice A1 (S.g.rows * S.g.cols) c1) S)) := eval_slot (j := 18) (by kernel_rfl) (hJ.valOf (by decide) (dep_of hdep 18 (by kernel_rfl)) rfl rfl)
      refine Step.call _ rfl rfl (wanted_some (g := 17) (b := false) rfl gd) 9 #[.agg (scA (.slice A1 (S.g.rows * S.g.cols) c1) S)] (fun ρ hρ => ?_) ?_
      · skip
        rw [hρ] at e0
        have ef : ρ (.func 9) = .func (.func 9) #[] #[] := (hρ _).symm
        clear hJ hsame hdep hcl hρ hsz hb gd
        go_simp
      · refine (sright_is S _ RS.out _ (HGs6.out.low hb) (HSP.out.below (LO7.out.trans (hb.mono LO7.out.size)) (by exact SLT.out))).mono ?_
        rintro e w2 ⟨rfl, bb⟩
        exact ⟨_, rfl, hJ.val hGS hcl hL rfl bb _ rfl⟩
    · intro L a w' hL hsame hsz hJ hdep hcl
      have gd : valOf _ 17 a = .bool false := hJ.valOf (by decide) (dep_of hdep 17 (by kernel_rfl)) rfl rfl
      have hb := hJ.kept.toBelow (Nat.le_refl _) (by simp)
      have e0 : a.eval (.tmp 46) = (.bool true) := eval_slot (j := 19) (by kernel_rfl) (hJ.valOf (by decide) (dep_of hdep 19 (by kernel_rfl)) rfl rfl)
      refine Step.val _ rfl rfl (wanted_some (g := 17) (b := false) rfl gd) (.bool false) w' (fun ρ hρ => ?_) (hJ.val hGS hcl hL rfl (Below.refl _ _) _ rfl)
      rw [hρ] at e0
      clear hJ hsame hdep hcl hρ hsz hb gd
      go_simp
    · intro L a w' hL hsame hsz hJ hdep hcl
      have hb := hJ.kept.toBelow (Nat.le_refl _) (by simp)
      have e0 : a.eval (.tmp 44) = (.bool false) := eval_slot (j := 17) (by kernel_rfl) (hJ.valOf (by decide) (dep_of hdep 17 (by kernel_rfl)) rfl rfl)
      have e2 : a.eval (.tmp 47) = (.bool false) := eval_slot (j := 20) (by kernel_rfl) (hJ.valOf (by decide) (dep_of hdep 20 (by kernel_rfl)) rfl rfl)
      refine Step.val _ rfl rfl (wanted_none rfl) (.bool false) w' (fun ρ hρ => ?_) (hJ.val hGS hcl hL rfl (Below.refl _ _) _ rfl)
      rw [hρ] at e0 e2
      have ec0 : ρ (.const (.bool true)) = (.bool true) := (hρ _).symm
      clear hJ hsame hdep hcl hρ hsz hb
      go_simp
    · intro L a w' hL hsame hsz hJ hdep hcl
      have hb := hJ.kept.toBelow (Nat.le_refl _) (by simp)
      have e0 : a.eval (.tmp 48) = (.bool false) := eval_slot (j := 21) (by kernel_rfl) (hJ.valOf (by decide) (dep_of hdep 21 (by kernel_rfl)) rfl rfl)
      refine Step.val _ rfl rfl (wanted_none rfl) (.bool false) w' (fun ρ hρ => ?_) (hJ.val hGS hcl hL rfl (Below.refl _ _) _ rfl)
      rw [hρ] at e0
      clear hJ hsame hdep hcl hρ hsz hb
      go_simp
    · intro L a w' hL hsame hsz hJ hdep hcl
      have gd : valOf _ 22 a = .bool false := hJ.valOf (by decide) (dep_of hdep 22 (by kernel_rfl)) rfl rfl
      have hb := hJ.kept.toBelow (Nat.le_refl _) (by simp)
      have e0 : a.eval (.tmp 14) = (.pointer (some ⟨gt, 0, none⟩)) := eval_base hsame (by kernel_rfl)
      have hx := hJ.keptBox ((show Box _ gt 32 (scA (.slice A2 (T.g.rows * T.g.cols) c2) T) from HSt1.out)) (by simp)
      exact Step.val _ rfl rfl (wanted_some (g := 22) (b := false) rfl gd) (.agg (scA (.slice A2 (T.g.rows * T.g.cols) c2) T)) w' (fun ρ hρ => exec_load_any hx rfl ρ _ rfl ((hρ _).symm.trans e0)) (hJ.val hGS hcl hL rfl (Below.refl _ _) _ rfl)
    · intro L a w' hL hsame hsz hJ hdep hcl
      have gd : valOf _ 22 a = .bool false := hJ.valOf (by decide) (dep_of hdep 22 (by kernel_rfl)) rfl rfl
      have hb := hJ.kept.toBelow (Nat.le_refl _) (by simp)
      have e0 : a.eval (.tmp 50) = (.agg (scA (.slice A2 (T.g.rows * T.g.cols) c2) T)) := eval_slot (j := 23) (by kernel_rfl) (hJ.valOf (by decide) (dep_of hdep 23 (by kernel_rfl)) rfl rfl)
      refine Step.call _ rfl rfl (wanted_some (g := 22) (b := false) rfl gd) 9 #[.agg (scA (.slice A2 (T.g.rows * T.g.cols) c2) T)] (fun ρ hρ => ?_) ?_
      · skip
        rw [hρ] at e0
        have ef : ρ (.func 9) = .func (.func 9) #[] #[] := (hρ _).symm
        clear hJ hsame hdep hcl hρ hsz hb gd
        go_simp
      · refine (sright_is T _ RT.out _ (HGt3.out.low hb) (HSP.out.below (LO7.out.trans (hb.mono LO7.out.size)) (by exact SLT.out))).mono ?_
        rintro e w2 ⟨rfl, bb⟩
        exact ⟨_, rfl, hJ.val hGS hcl hL rfl bb _ rfl⟩
    · intro L a w' hL hsame hsz hJ hdep hcl
      have gd : valOf _ 22 a = .bool false := hJ.valOf (by decide) (dep_of hdep 22 (by kernel_rfl)) rfl rfl
      have hb := hJ.kept.toBelow (Nat.le_refl _) (by simp)
      have e0 : a.eval (.tmp 51) = (.bool true) := eval_slot (j := 24) (by kernel_rfl) (hJ.valOf (by decide) (dep_of hdep 24 (by kernel_rfl)) rfl rfl)
      refine Step.val _ rfl rfl (wanted_some (g := 22) (b := false) rfl gd) (.bool false) w' (fun ρ hρ => ?_) (hJ.val hGS hcl hL rfl (Below.refl _ _) _ rfl)
      rw [hρ] at e0
      clear hJ hsame hdep hcl hρ hsz hb gd
      go_simp
    · intro L a w' hL hsame hsz hJ hdep hcl
      have hb := hJ.kept.toBelow (Nat.le_refl _) (by simp)
      have e0 : a.eval (.tmp 49) = (.bool false) := eval_slot (j := 22) (by kernel_rfl) (hJ.valOf (by decide) (dep_of hdep 22 (by kernel_rfl)) rfl rfl)
      have e2 : a.eval (.tmp 52) = (.bool false) := eval_slot (j := 25) (by kernel_rfl) (hJ.valOf (by decide) (dep_of hdep 25 (by kernel_rfl)) rfl rfl)
      refine Step.val _ rfl rfl (wanted_none rfl) (.bool false) w' (fun ρ hρ => ?_) (hJ.val hGS hcl hL rfl (Below.refl _ _) _ rfl)
      rw [hρ] at e0 e2
      have ec0 : ρ (.const (.bool true)) = (.bool true) := (hρ _).symm
      clear hJ hsame hdep hcl hρ hsz hb
      go_simp
    · intro L a w' hL hsame hsz hJ hdep hcl
      have hb := hJ.kept.toBelow (Nat.le_refl _) (by simp)
      have e0 : a.eval (.tmp 53) = (.bool false) := eval_slot (j := 26) (by kernel_rfl) (hJ.valOf (by decide) (dep_of hdep 26 (by kernel_rfl)) rfl rfl)
      refine Step.val _ rfl rfl (wanted_none rfl) (.bool false) w' (fun ρ hρ => ?_) (hJ.val hGS hcl hL rfl (Below.refl _ _) _ rfl)
      rw [hρ] at e0
      clear hJ hsame hdep hcl hρ hsz hb
      go_simp
    · intro L a w' hL hsame hsz hJ hdep hcl
      have gd : valOf _ 27 a = .bool false := hJ.valOf (by decide) (dep_of hdep 27 (by kernel_rfl)) rfl rfl
      have hb := hJ.kept.toBelow (Nat.le_refl _) (by simp)
      have e0 : a.eval (.tmp 11) = (.pointer (some ⟨gs, 0, none⟩)) := eval_base hsame (by kernel_rfl)
      have hx := hJ.keptBox ((show Box _ gs 32 (scA (.slice A1 (S.g.rows * S.g.cols) c1) S) from HSs4.out)) (by simp)
      exact Step.val _ rfl rfl (wanted_some (g := 27) (b := false) rfl gd) (.agg (scA (.slice A1 (S.g.rows * S.g.cols) c1) S)) w' (fun ρ hρ => exec_load_any hx rfl ρ _ rfl ((hρ _).symm.trans e0)) (hJ.val hGS hcl hL rfl (Below.refl _ _) _ rfl)
    · intro L a w' hL hsame hsz hJ hdep hcl
      have gd : valOf _ 27 a = .bool false := hJ.valOf (by decide) (dep_of hdep 27 (by kernel_rfl)) rfl rfl
      have hb := hJ.kept.toBelow (Nat.le_refl _) (by simp)
      have e0 : a.eval (.tmp 11) = (.pointer (some ⟨gs, 0, none⟩)) := eval_base hsame (by kernel_rfl)
      have hx := hJ.keptBox ((show Box _ gs 32 (scA (.slice A1 (S.g.rows * S.g.cols) c1) S) from HSs4.out)) (by simp)
      exact Step.val _ rfl rfl (wanted_some (g := 27) (b := false) rfl gd) (.agg (scA (.slice A1 (S.g.rows * S.g.cols) c1) S)) w' (fun ρ hρ => exec_load_any hx rfl ρ _ rfl ((hρ _).symm.trans e0)) (hJ.val hGS hcl hL rfl (Below.refl _ _) _ rfl)
    · intro L a w' hL hsame hsz hJ hdep hcl
      have gd : valOf _ 27 a = .bool false := hJ.valOf (by decide) (dep_of hdep 27 (by kernel_rfl)) rfl rfl
      have hb := hJ.kept.toBelow (Nat.le_refl _) (by simp)
      have e0 : a.eval (.tmp 56) = (.agg (scA (.slice A1 (S.g.rows * S.g.cols) c1) S)) := eval_slot (j := 29) (by kernel_rfl) (hJ.valOf (by decide) (dep_of hdep 29 (by kernel_rfl)) rfl rfl)
      refine Step.call _ rfl rfl (wanted_some (g := 27) (b := false) rfl gd) 17 #[.agg (scA (.slice A1 (S.g.rows * S.g.cols) c1) S)] (fun ρ hρ => ?_) ?_
      · skip
        rw [hρ] at e0
        have ef : ρ (.func 17) = .func (.func 17) #[] #[] := (hρ _).symm
        clear hJ hsame hdep hcl hρ hsz hb gd
        go_simp
      · refine (scopy_is S _ RS.out _ ⟨_, rfl, (HGs6.out.low hb)⟩).mono ?_
        rintro e w2 ⟨x, rfl, ho, bb⟩
        obtain ⟨A, c, rfl, _⟩ := own_form' ho
        exact ⟨_, rfl, hJ.pred hGS hcl hL rfl bb _ ⟨A, c, rfl, ⟨_, rfl, own_base' ho (Nat.zero_le _)⟩⟩⟩
    · intro L a w' hL hsame hsz hJ hdep hcl
      have gd : valOf _ 27 a = .bool false := hJ.valOf (by decide) (dep_of hdep 27 (by kernel_rfl)) rfl rfl
      have hb := hJ.kept.toBelow (Nat.le_refl _) (by simp)
      have e0 : a.eval (.tmp 55) = (.agg (scA (.slice A1 (S.g.rows * S.g.cols) c1) S)) := eval_slot (j := 28) (by kernel_rfl) (hJ.valOf (by decide) (dep_of hdep 28 (by kernel_rfl)) rfl rfl)
      obtain ⟨A30', c30', hv30, hi30⟩ := (show (ScrV S) (valOf _ 30 a) w' from hJ.predOf (by decide) (dep_of hdep 30 (by kernel_rfl)) rfl)
      have e1 : a.eval (.tmp 57) = .agg (scA (.slice A30' (S.g.rows * S.g.cols) c30') S) := eval_slot (j := 30) (by kernel_rfl) hv30
      refine Step.call _ rfl rfl (wanted_some (g := 27) (b := false) rfl gd) 16 #[.agg (scA (.slice A1 (S.g.rows * S.g.cols) c1) S), .agg (scA (.slice A30' (S.g.rows * S.g.cols) c30') S)] (fun ρ hρ => ?_) ?_
      · skip
        rw [hρ] at e0 e1
        have ef : ρ (.func 16) = .func (.func 16) #[] #[] := (hρ _).symm
        clear hJ hsame hdep hcl hρ hsz hb gd
        go_simp
      · refine (ssame_raw (SN.raw S) (SN.raw S) _ _ true true ⟨fun _ => PG.Alike.refl _, fun _ => rfl⟩ (by rw [same_self]; rfl) RS.out.g _ (HGs6.out.low hb) hi30).mono ?_
        rintro e w2 ⟨rfl, bb⟩
        exact ⟨_, rfl, hJ.val hGS hcl hL rfl bb _ rfl⟩
    · intro L a w' hL hsame hsz hJ hdep hcl
      have gd : valOf _ 27 a = .bool false := hJ.valOf (by decide) (dep_of hdep 27 (by kernel_rfl)) rfl rfl
      have hb := hJ.kept.toBelow (Nat.le_refl _) (by simp)
      have e0 : a.eval (.tmp 58) = (.bool true) := eval_slot (j := 31) (by kernel_rfl) (hJ.valOf (by decide) (dep_of hdep 31 (by kernel_rfl)) rfl rfl)
      refine Step.val _ rfl rfl (wanted_some (g := 27) (b := false) rfl gd) (.bool false) w' (fun ρ hρ => ?_) (hJ.val hGS hcl hL rfl (Below.refl _ _) _ rfl)
      rw [hρ] at e0
      clear hJ hsame hdep hcl hρ hsz hb gd
      go_simp
    · intro L a w' hL hsame hsz hJ hdep hcl
      have hb := hJ.kept.toBelow (Nat.le_refl _) (by simp)
      have e0 : a.eval (.tmp 54) = (.bool false) := eval_slot (j := 27) (by kernel_rfl) (hJ.valOf (by decide) (dep_of hdep 27 (by kernel_rfl)) rfl rfl)
      have e2 : a.eval (.tmp 59) = (.bool false) := eval_slot (j := 32) (by kernel_rfl) (hJ.valOf (by decide) (dep_of hdep 32 (by kernel_rfl)) rfl rfl)
      refine Step.val _ rfl rfl (wanted_none rfl) (.bool false) w' (fun ρ hρ => ?_) (hJ.val hGS hcl hL rfl (Below.refl _ _) _ rfl)
      rw [hρ] at e0 e2
      have ec0 : ρ (.const (.bool true)) = (.bool true) := (hρ _).symm
      clear hJ hsame hdep hcl hρ hsz hb
      go_simp
    · intro u w' hF
      change Exit.then _ _ Exit.normal (Act.put (Act.put (Act.put (Act.put (Act.put (Act.put (Act.put (Act.put (Act.put (Act.put (Act.put (Act.put (Act.put (Act.put (Act.put (Act.put (Act.put (Act.put (Act.put (Act.put (Act.put (Act.put (Act.put (Act.put (Act.put (Act.put (Act.put (Act.put (Act.put (Act.put (Act.put (Act.put (Act.put (Act.put (putAll _ u 0 _) (some 27) (u 0)) (some 28) (u 1)) (some 29) (u 2)) (some 30) (u 3)) (some 31) (u 4)) (some 32) (u 5)) (some 33) (u 6)) (some 34) (u 7)) (some 35) (u 8)) (some 36) (u 9)) (some 37) (u 10)) (some 38) (u 11)) (some 39) (u 12)) (some 40) (u 13)) (some 41) (u 14)) (some 42) (u 15)) (some 43) (u 16)) (some 44) (u 17)) (some 45) (u 18)) (some 46) (u 19)) (some 47) (u 20)) (some 48) (u 21)) (some 49) (u 22)) (some 50) (u 23)) (some 51) (u 24)) (some 52) (u 25)) (some 53) (u 26)) (some 54) (u 27)) (some 55) (u 28)) (some 56) (u 29)) (some 57) (u 30)) (some 58) (u 31)) (some 59) (u 32)) (some 60) (u 33)) _
      simp only [putAll]
      have f : u 33 = .bool false := hF.fin0 (j := 33) (by decide) rfl rfl
      have hk := hF.kept.toBelow (Nat.le_refl _) (by simp)
      clear hF
      generalize u 0 = y0
      generalize u 1 = y1
      generalize u 2 = y2
      generalize u 3 = y3
      generalize u 4 = y4
      generalize u 5 = y5
      generalize u 6 = y6
      generalize u 7 = y7
      generalize u 8 = y8
      generalize u 9 = y9
      generalize u 10 = y10
      generalize u 11 = y11
      generalize u 12 = y12
      generalize u 13 = y13
      generalize u 14 = y14
      generalize u 15 = y15
      generalize u 16 = y16
      generalize u 17 = y17
      generalize u 18 = y18
      generalize u 19 = y19
      generalize u 20 = y20
      generalize u 21 = y21
      generalize u 22 = y22
      generalize u 23 = y23
      generalize u 24 = y24
      generalize u 25 = y25
      generalize u 26 = y26
      generalize u 27 = y27
      generalize u 28 = y28
      generalize u 29 = y29
      generalize u 30 = y30
      generalize u 31 = y31
      generalize u 32 = y32
      generalize u 33 = y33 at f ⊢
      go_simp
      go_step
      go_meet
      exact ⟨by first | rfl | exact f, hk⟩
  case rest =>
    obtain ⟨rfl, hb4⟩ := hcut
    have HSs5 := hide (HSs4.out.below hb4 HSs4.out.lt)
    have HSt2 := hide (HSt1.out.below hb4 HSt1.out.lt)
    have HGs7 := hide (HGs6.out.low hb4)
    have HGt4 := hide (HGt3.out.low hb4)
    have LO8 := hide (LO7.out.trans (hb4.mono LO7.out.size))
    clear HSs4 HSt1 HGs6 HGt3 LO7 hb4
    go_wp2_with fail
    refine (WY.out _).mono ?_
    rintro e w' ⟨rfl, rfl⟩
    go_upto_region 7 with fail
    go_upto_region 8 with (first | (refine wpList_alloc_scr rfl rfl ?_; intro gB wagB csgB hBgB hzgB hbgB hlgB) | (refine wpList_store_scr hBgB hzgB rfl _ _ rfl rfl rfl rfl ?_; intro wsgB hSgB hkgB hqgB) | (refine wpList_load_scr HSs5.out rfl _ rfl rfl ?_))
    have ne_gs_gB : gs ≠ gB := by have := HSs5.out.lt; omega
    have ne_gt_gB : gt ≠ gB := by have := HSt2.out.lt; omega
    have le_gB : w.heap.size ≤ gB := by have := LO8.out.size; omega
    have HSs6 := hide (HSs5.out.below hbgB HSs5.out.lt)
    have HSt3 := hide (HSt2.out.below hbgB HSt2.out.lt)
    have HGs8 := hide (HGs7.out.low hbgB)
    have HGt5 := hide (HGt4.out.low hbgB)
    have LO9 := hide (LO8.out.trans (hbgB.mono LO8.out.size))
    clear HSs5 HSt2 HGs7 HGt4 LO8 hbgB
    have HSs7 := hide (HSs6.out.kept hkgB (by simp; first | exact ne_gs_gB | exact Ne.symm ne_gB_gs))
    have HSt4 := hide (HSt3.out.kept hkgB (by simp; first | exact ne_gt_gB | exact Ne.symm ne_gB_gt))
    have HGs9 := hide (HGs8.out.kept hBgB (by decide) hkgB)
    have HGt6 := hide (HGt5.out.kept hBgB (by decide) hkgB)
    have LO10 := hide (LO9.out.trans (hkgB.toBelow LO9.out.size (fun k hh => by simp at hh; omega)))
    clear HSs6 HSt3 HGs8 HGt5 LO9
    have HSB1 := hide hSgB
    clear hSgB hkgB hBgB hlgB
    go_wp2_with fail
    refine (WN.out _).mono ?_
    rintro e w' ⟨rfl, rfl⟩
    go_upto_block 0 with fail
    go_cut [] from 67 to 110 (fun wx => ∃ q : SN.Rw, Box wx gB 32 (rwA (.slice A1 (S.g.rows * S.g.cols) c1) q) ∧ q.g = S.g ∧ q.right = false ∧ q.same (SN.raw S) = false ∧ Kept [some gB] wsgB wx)
    case first =>
      have k3 := HSB1.out.c3
      have z3 := HSB1.out.fz 3
      have k4 := HSB1.out.c4
      have z4 := HSB1.out.fz 4
      have k6 := HSB1.out.c6
      have z6 := HSB1.out.fz 6
      have k10 := HSB1.out.c10
      have z10 := HSB1.out.fz 10
      have k13 := HSB1.out.c13
      have z13 := HSB1.out.fz 13
      have k14 := HSB1.out.c14
      have z14 := HSB1.out.fz 14
      have k5 := HSB1.out.c5
      have z5 := HSB1.out.fz 5
      have k15 := HSB1.out.c15
      have z15 := HSB1.out.fz 15
      have k20 := HSB1.out.c20
      have z20 := HSB1.out.fz 20
      have r0 := (show _ = some (.int .i64 (S.g.rows : Nat) : Value) from HSs7.out.c0)
      have r7 := (show _ = some (.int .i64 (S.bot : Nat) : Value) from HSs7.out.c7)
      have hrow := hS.row
      have hbot := hS.bot
      have hgr := hS.g.2.1
      have hn : (1 : Int) ≤ 1 + (bn : Int) := by omega
      have cs : wn = 0 ∨ wn = 1 ∨ wn = 2 ∨ wn = 3 ∨ wn = 4 ∨ wn = 5 ∨ wn = 6 ∨ wn = 7 := by omega
      rcases cs with rfl | rfl | rfl | rfl | rfl | rfl | rfl | rfl
      · as_aux_lemma =>
          go_wp2_with fail
          go_meet
          exact ⟨{ SN.raw S with row := (S.g.rows : Int) - 1 + (1 + (bn : Int)) }, (Box.set (show Box _ gB _ _ from HSB1.out) 3 _), rfl, (SN.bad0 hS hn).1, (SN.bad0 hS hn).2, ((Kept.refl [some gB] wsgB).setCell (p := ⟨gB, 3, none⟩) (From.mem (by simp)) _)⟩
      · as_aux_lemma =>
          go_wp2_with fail
          go_meet
          exact ⟨{ SN.raw S with col := -(1 + (bn : Int)) }, (Box.set (show Box _ gB _ _ from HSB1.out) 4 _), rfl, (SN.bad1 hS hn).1, (SN.bad1 hS hn).2, ((Kept.refl [some gB] wsgB).setCell (p := ⟨gB, 4, none⟩) (From.mem (by simp)) _)⟩
      · as_aux_lemma =>
          go_wp2_with fail
          go_meet
          exact ⟨{ SN.raw S with top := (S.bot : Int) + (1 + (bn : Int)) }, (Box.set (show Box _ gB _ _ from HSB1.out) 6 _), rfl, (SN.bad2 hS hn).1, (SN.bad2 hS hn).2, ((Kept.refl [some gB] wsgB).setCell (p := ⟨gB, 6, none⟩) (From.mem (by simp)) _)⟩
      · as_aux_lemma =>
          go_wp2_with fail
          go_meet
          exact ⟨{ SN.raw S with pen := (S.pen.1, S.pen.2.1, 255 + (1 + (bn : Int))) }, (Box.set (show Box _ gB _ _ from HSB1.out) 10 _), rfl, (SN.bad3 hS hn).1, (SN.bad3 hS hn).2, ((Kept.refl [some gB] wsgB).setCell (p := ⟨gB, 10, none⟩) (From.mem (by simp)) _)⟩
      · as_aux_lemma =>
          go_wp2_with fail
          go_meet
          exact ⟨{ SN.raw S with s1 := 65 }, (Box.set (show Box _ gB _ _ from HSB1.out) 13 _), rfl, (SN.bad4 hS hn).1, (SN.bad4 hS hn).2, ((Kept.refl [some gB] wsgB).setCell (p := ⟨gB, 13, none⟩) (From.mem (by simp)) _)⟩
      · as_aux_lemma =>
          go_wp2_with fail
          go_meet
          exact ⟨{ SN.raw S with sh := 1 + (1 + (bn : Int)) }, (Box.set (show Box _ gB _ _ from HSB1.out) 14 _), rfl, (SN.bad5 hS hn).1, (SN.bad5 hS hn).2, ((Kept.refl [some gB] wsgB).setCell (p := ⟨gB, 14, none⟩) (From.mem (by simp)) _)⟩
      · as_aux_lemma =>
          go_wp2_with fail
          go_meet
          exact ⟨{ SN.raw S with pend := true, wrap := false }, (Box.set (Box.set (show Box _ gB _ _ from HSB1.out) 5 _) 15 _), rfl, (SN.bad6 hS hn).1, (SN.bad6 hS hn).2, (((Kept.refl [some gB] wsgB).setCell (p := ⟨gB, 5, none⟩) (From.mem (by simp)) _).setCell (p := ⟨gB, 15, none⟩) (From.mem (by simp)) _)⟩
      · as_aux_lemma =>
          go_wp2_with fail
          go_meet
          exact ⟨{ SN.raw S with svrow := -(1 + (bn : Int)) }, (Box.set (show Box _ gB _ _ from HSB1.out) 20 _), rfl, (SN.bad7 hS hn).1, (SN.bad7 hS hn).2, ((Kept.refl [some gB] wsgB).setCell (p := ⟨gB, 20, none⟩) (From.mem (by simp)) _)⟩
    case rest =>
      obtain ⟨q, hq, hqg, hqr, hqs, hkq⟩ := hcut
      have HSs8 := hide (HSs7.out.kept hkq (by simp; first | exact ne_gs_gB | exact Ne.symm ne_gB_gs))
      have HSt5 := hide (HSt4.out.kept hkq (by simp; first | exact ne_gt_gB | exact Ne.symm ne_gB_gt))
      have HGs10 := hide (HGs9.out.kept HSB1.out (by decide) hkq)
      have HGt7 := hide (HGt6.out.kept HSB1.out (by decide) hkq)
      have LO11 := hide (LO10.out.trans (hkq.toBelow LO10.out.size (fun k hh => by simp at hh; omega)))
      clear HSs7 HSt4 HGs9 HGt6 LO10
      have HGq0 : Hid (IsG wc q.g (gv q.g.rows q.g.cols (.slice A1 (S.g.rows * S.g.cols) c1))) := hide (by rw [hqg]; exact HGs10.out)
      have HBQ := hide hq
      have HQR := hide hqr
      have HQS := hide hqs
      have HQG := hide hqg
      clear hq hqr hqs hqg hkq
      go_upto_region 24 with fail
      go_cut [10] from 111 to 131 (fun u wx => u = .bool true ∧ Below wc.heap.size wc wx)
      case first =>
        refine wp_region_gj (n := 132) [] (fun _ => #[]) [(0, 0, 0, 0, 0), (0, 0, 0, 0, 0), (0, 0, 0, 0, 0), (0, 0, 0, 0, 0), (0, 0, 0, 0, 0), (0, 0, 0, 0, 0), (0, 0, 0, 0, 0), (0, 0, 0, 0, 0), (0, 0, 0, 0, 0), (0, 0, 0, 0, 0), (0, 0, 0, 0, 0), (0, 0, 0, 0, 0), (0, 0, 0, 0, 0), (0, 0, 0, 0, 0), (0, 0, 0, 0, 0), (0, 0, 0, 0, 0), (0, 0, 0, 0, 0), (0, 0, 0, 0, 0), (0, 0, 0, 0, 0), (0, 0, 0, 0, 0), (0, 0, 0, 0, 0), (0, 0, 0, 0, 0)] (fun j => [(.agg (rwA (.slice A1 (S.g.rows * S.g.cols) c1) q)), (.bool false), (.bool true), (.bool true), (.agg (rwA (.slice A1 (S.g.rows * S.g.cols) c1) q)), (.agg (scA (.slice A1 (S.g.rows * S.g.cols) c1) S)), (.bool false), (.bool true), (.bool true), (.bool true), (.agg (scA (.slice A1 (S.g.rows * S.g.cols) c1) S)), (.agg #[.int .i64 (-1), .int .i64 S.pen.2.1, .int .i64 0]), (.pointer (some ⟨gs, 8, none⟩)), (.pointer (some ⟨gs, 9, none⟩)), (.int .i64 S.pen.2.1), (.agg #[.int .i64 (-1), .int .i64 S.pen.2.1, .int .i64 0]), (.bool true), (.bool true), (.bool true), (.bool true), (.bool true), (.bool true)].getD j undef) [] (fun _ => 0) (by kernel_rfl) (by kernel_rfl) (by kernel_rfl) rfl (by kernel_rfl) (gno4 rfl) (fun i j h => by revert h; exact gno4 (p := fun _ => _) rfl i) (AllG.nil _) (fun hGS => cases22 ⟨?_, ?_, ?_, ?_, ?_, ?_, ?_, ?_, ?_, ?_, ?_, ?_, ?_, ?_, ?_, ?_, ?_, ?_, ?_, ?_, ?_, ?_⟩) ?_
        · intro L a w' hL hsame hsz hJ hdep hcl
          have hb := hJ.kept.toBelow (Nat.le_refl _) (by simp)
          have e0 : a.eval (.tmp 16) = (.pointer (some ⟨gB, 0, none⟩)) := eval_base hsame (by kernel_rfl)
          have hx := hJ.keptBox (HBQ.out) (by simp)
          exact Step.val _ rfl rfl (wanted_none rfl) (.agg (rwA (.slice A1 (S.g.rows * S.g.cols) c1) q)) w' (fun ρ hρ => exec_load_any hx rfl ρ _ rfl ((hρ _).symm.trans e0)) (hJ.val hGS hcl hL rfl (Below.refl _ _) _ rfl)
        · intro L a w' hL hsame hsz hJ hdep hcl
          have hb := hJ.kept.toBelow (Nat.le_refl _) (by simp)
          have e0 : a.eval (.tmp 111) = (.agg (rwA (.slice A1 (S.g.rows * S.g.cols) c1) q)) := eval_slot (j := 0) (by kernel_rfl) (hJ.valOf (by decide) (dep_of hdep 0 (by kernel_rfl)) rfl rfl)
          refine Step.call _ rfl rfl (wanted_none rfl) 9 #[.agg (rwA (.slice A1 (S.g.rows * S.g.cols) c1) q)] (fun ρ hρ => ?_) ?_
          · skip
            rw [hρ] at e0
            have ef : ρ (.func 9) = .func (.func 9) #[] #[] := (hρ _).symm
            clear hJ hsame hdep hcl hρ hsz hb
            go_simp
          · refine (sright_raw q _ false HQR.out (HQG.out ▸ RS.out.g) _ (HGq0.out.low hb) (HSP.out.below (LO11.out.trans (hb.mono LO11.out.size)) (by exact SLT.out))).mono ?_
            rintro e w2 ⟨rfl, bb⟩
            exact ⟨_, rfl, hJ.val hGS hcl hL rfl bb _ rfl⟩
        · intro L a w' hL hsame hsz hJ hdep hcl
          have hb := hJ.kept.toBelow (Nat.le_refl _) (by simp)
          have e0 : a.eval (.tmp 112) = (.bool false) := eval_slot (j := 1) (by kernel_rfl) (hJ.valOf (by decide) (dep_of hdep 1 (by kernel_rfl)) rfl rfl)
          refine Step.val _ rfl rfl (wanted_none rfl) (.bool true) w' (fun ρ hρ => ?_) (hJ.val hGS hcl hL rfl (Below.refl _ _) _ rfl)
          rw [hρ] at e0
          clear hJ hsame hdep hcl hρ hsz hb
          go_simp
        · intro L a w' hL hsame hsz hJ hdep hcl
          have hb := hJ.kept.toBelow (Nat.le_refl _) (by simp)
          have e0 : a.eval (.tmp 113) = (.bool true) := eval_slot (j := 2) (by kernel_rfl) (hJ.valOf (by decide) (dep_of hdep 2 (by kernel_rfl)) rfl rfl)
          refine Step.val _ rfl rfl (wanted_none rfl) (.bool true) w' (fun ρ hρ => ?_) (hJ.val hGS hcl hL rfl (Below.refl _ _) _ rfl)
          rw [hρ] at e0
          clear hJ hsame hdep hcl hρ hsz hb
          go_simp
        · intro L a w' hL hsame hsz hJ hdep hcl
          have gd : valOf _ 3 a = .bool true := hJ.valOf (by decide) (dep_of hdep 3 (by kernel_rfl)) rfl rfl
          have hb := hJ.kept.toBelow (Nat.le_refl _) (by simp)
          have e0 : a.eval (.tmp 16) = (.pointer (some ⟨gB, 0, none⟩)) := eval_base hsame (by kernel_rfl)
          have hx := hJ.keptBox (HBQ.out) (by simp)
          exact Step.val _ rfl rfl (wanted_some (g := 3) (b := true) rfl gd) (.agg (rwA (.slice A1 (S.g.rows * S.g.cols) c1) q)) w' (fun ρ hρ => exec_load_any hx rfl ρ _ rfl ((hρ _).symm.trans e0)) (hJ.val hGS hcl hL rfl (Below.refl _ _) _ rfl)
        · intro L a w' hL hsame hsz hJ hdep hcl
          have gd : valOf _ 3 a = .bool true := hJ.valOf (by decide) (dep_of hdep 3 (by kernel_rfl)) rfl rfl
          have hb := hJ.kept.toBelow (Nat.le_refl _) (by simp)
          have e0 : a.eval (.tmp 11) = (.pointer (some ⟨gs, 0, none⟩)) := eval_base hsame (by kernel_rfl)
          have hx := hJ.keptBox ((show Box _ gs 32 (scA (.slice A1 (S.g.rows * S.g.cols) c1) S) from HSs8.out)) (by simp)
          exact Step.val _ rfl rfl (wanted_some (g := 3) (b := true) rfl gd) (.agg (scA (.slice A1 (S.g.rows * S.g.cols) c1) S)) w' (fun ρ hρ => exec_load_any hx rfl ρ _ rfl ((hρ _).symm.trans e0)) (hJ.val hGS hcl hL rfl (Below.refl _ _) _ rfl)
        · intro L a w' hL hsame hsz hJ hdep hcl
          have gd : valOf _ 3 a = .bool true := hJ.valOf (by decide) (dep_of hdep 3 (by kernel_rfl)) rfl rfl
          have hb := hJ.kept.toBelow (Nat.le_refl _) (by simp)
          have e0 : a.eval (.tmp 115) = (.agg (rwA (.slice A1 (S.g.rows * S.g.cols) c1) q)) := eval_slot (j := 4) (by kernel_rfl) (hJ.valOf (by decide) (dep_of hdep 4 (by kernel_rfl)) rfl rfl)
          have e1 : a.eval (.tmp 116) = (.agg (scA (.slice A1 (S.g.rows * S.g.cols) c1) S)) := eval_slot (j := 5) (by kernel_rfl) (hJ.valOf (by decide) (dep_of hdep 5 (by kernel_rfl)) rfl rfl)
          refine Step.call _ rfl rfl (wanted_some (g := 3) (b := true) rfl gd) 16 #[.agg (rwA (.slice A1 (S.g.rows * S.g.cols) c1) q), .agg (scA (.slice A1 (S.g.rows * S.g.cols) c1) S)] (fun ρ hρ => ?_) ?_
          · skip
            rw [hρ] at e0 e1
            have ef : ρ (.func 16) = .func (.func 16) #[] #[] := (hρ _).symm
            clear hJ hsame hdep hcl hρ hsz hb gd
            go_simp
          · refine (ssame_raw q (SN.raw S) _ _ true false ⟨fun _ => HQG.out ▸ PG.Alike.refl _, fun _ => rfl⟩ (by rw [HQS.out]; rfl) (HQG.out ▸ RS.out.g) _ (HGq0.out.low hb) (HGs10.out.low hb)).mono ?_
            rintro e w2 ⟨rfl, bb⟩
            exact ⟨_, rfl, hJ.val hGS hcl hL rfl bb _ rfl⟩
        · intro L a w' hL hsame hsz hJ hdep hcl
          have gd : valOf _ 3 a = .bool true := hJ.valOf (by decide) (dep_of hdep 3 (by kernel_rfl)) rfl rfl
          have hb := hJ.kept.toBelow (Nat.le_refl _) (by simp)
          have e0 : a.eval (.tmp 117) = (.bool false) := eval_slot (j := 6) (by kernel_rfl) (hJ.valOf (by decide) (dep_of hdep 6 (by kernel_rfl)) rfl rfl)
          refine Step.val _ rfl rfl (wanted_some (g := 3) (b := true) rfl gd) (.bool true) w' (fun ρ hρ => ?_) (hJ.val hGS hcl hL rfl (Below.refl _ _) _ rfl)
          rw [hρ] at e0
          clear hJ hsame hdep hcl hρ hsz hb gd
          go_simp
        · intro L a w' hL hsame hsz hJ hdep hcl
          have hb := hJ.kept.toBelow (Nat.le_refl _) (by simp)
          have e0 : a.eval (.tmp 114) = (.bool true) := eval_slot (j := 3) (by kernel_rfl) (hJ.valOf (by decide) (dep_of hdep 3 (by kernel_rfl)) rfl rfl)
          have e1 : a.eval (.tmp 118) = (.bool true) := eval_slot (j := 7) (by kernel_rfl) (hJ.valOf (by decide) (dep_of hdep 7 (by kernel_rfl)) rfl rfl)
          refine Step.val _ rfl rfl (wanted_none rfl) (.bool true) w' (fun ρ hρ => ?_) (hJ.val hGS hcl hL rfl (Below.refl _ _) _ rfl)
          rw [hρ] at e0 e1
          have ec0 : ρ (.const (.bool false)) = (.bool false) := (hρ _).symm
          clear hJ hsame hdep hcl hρ hsz hb
          go_simp
        · intro L a w' hL hsame hsz hJ hdep hcl
          have hb := hJ.kept.toBelow (Nat.le_refl _) (by simp)
          have e0 : a.eval (.tmp 119) = (.bool true) := eval_slot (j := 8) (by kernel_rfl) (hJ.valOf (by decide) (dep_of hdep 8 (by kernel_rfl)) rfl rfl)
          refine Step.val _ rfl rfl (wanted_none rfl) (.bool true) w' (fun ρ hρ => ?_) (hJ.val hGS hcl hL rfl (Below.refl _ _) _ rfl)
          rw [hρ] at e0
          clear hJ hsame hdep hcl hρ hsz hb
          go_simp
        · intro L a w' hL hsame hsz hJ hdep hcl
          have gd : valOf _ 9 a = .bool true := hJ.valOf (by decide) (dep_of hdep 9 (by kernel_rfl)) rfl rfl
          have hb := hJ.kept.toBelow (Nat.le_refl _) (by simp)
          have e0 : a.eval (.tmp 11) = (.pointer (some ⟨gs, 0, none⟩)) := eval_base hsame (by kernel_rfl)
          have hx := hJ.keptBox ((show Box _ gs 32 (scA (.slice A1 (S.g.rows * S.g.cols) c1) S) from HSs8.out)) (by simp)
          exact Step.val _ rfl rfl (wanted_some (g := 9) (b := true) rfl gd) (.agg (scA (.slice A1 (S.g.rows * S.g.cols) c1) S)) w' (fun ρ hρ => exec_load_any hx rfl ρ _ rfl ((hρ _).symm.trans e0)) (hJ.val hGS hcl hL rfl (Below.refl _ _) _ rfl)
        · intro L a w' hL hsame hsz hJ hdep hcl
          have gd : valOf _ 9 a = .bool true := hJ.valOf (by decide) (dep_of hdep 9 (by kernel_rfl)) rfl rfl
          have hb := hJ.kept.toBelow (Nat.le_refl _) (by simp)
          have e0 : a.eval (.tmp 121) = (.agg (scA (.slice A1 (S.g.rows * S.g.cols) c1) S)) := eval_slot (j := 10) (by kernel_rfl) (hJ.valOf (by decide) (dep_of hdep 10 (by kernel_rfl)) rfl rfl)
          refine Step.call _ rfl rfl (wanted_some (g := 9) (b := true) rfl gd) 18 #[.agg (scA (.slice A1 (S.g.rows * S.g.cols) c1) S)] (fun ρ hρ => ?_) ?_
          · skip
            rw [hρ] at e0
            have ef : ρ (.func 18) = .func (.func 18) #[] #[] := (hρ _).symm
            clear hJ hsame hdep hcl hρ hsz hb gd
            go_simp
          · refine (sfill_is S _ _).mono ?_
            rintro e w2 ⟨rfl, bb⟩
            exact ⟨_, rfl, hJ.val hGS hcl hL rfl bb _ rfl⟩
        · intro L a w' hL hsame hsz hJ hdep hcl
          have gd : valOf _ 9 a = .bool true := hJ.valOf (by decide) (dep_of hdep 9 (by kernel_rfl)) rfl rfl
          have hb := hJ.kept.toBelow (Nat.le_refl _) (by simp)
          have e0 : a.eval (.tmp 11) = (.pointer (some ⟨gs, 0, none⟩)) := eval_base hsame (by kernel_rfl)
          refine Step.val _ rfl rfl (wanted_some (g := 9) (b := true) rfl gd) (.pointer (some ⟨gs, 8, none⟩)) w' (fun ρ hρ => ?_) (hJ.val hGS hcl hL rfl (Below.refl _ _) _ rfl)
          rw [hρ] at e0
          clear hJ hsame hdep hcl hρ hsz hb gd
          go_simp
        · intro L a w' hL hsame hsz hJ hdep hcl
          have gd : valOf _ 9 a = .bool true := hJ.valOf (by decide) (dep_of hdep 9 (by kernel_rfl)) rfl rfl
          have hb := hJ.kept.toBelow (Nat.le_refl _) (by simp)
          have e0 : a.eval (.tmp 123) = (.pointer (some ⟨gs, 8, none⟩)) := eval_slot (j := 12) (by kernel_rfl) (hJ.valOf (by decide) (dep_of hdep 12 (by kernel_rfl)) rfl rfl)
          refine Step.val _ rfl rfl (wanted_some (g := 9) (b := true) rfl gd) (.pointer (some ⟨gs, 9, none⟩)) w' (fun ρ hρ => ?_) (hJ.val hGS hcl hL rfl (Below.refl _ _) _ rfl)
          rw [hρ] at e0
          clear hJ hsame hdep hcl hρ hsz hb gd
          go_simp
        · intro L a w' hL hsame hsz hJ hdep hcl
          have gd : valOf _ 9 a = .bool true := hJ.valOf (by decide) (dep_of hdep 9 (by kernel_rfl)) rfl rfl
          have hb := hJ.kept.toBelow (Nat.le_refl _) (by simp)
          have e0 : a.eval (.tmp 124) = (.pointer (some ⟨gs, 9, none⟩)) := eval_slot (j := 13) (by kernel_rfl) (hJ.valOf (by decide) (dep_of hdep 13 (by kernel_rfl)) rfl rfl)
          have hx := hJ.keptBox ((show Box _ gs 32 (scA (.slice A1 (S.g.rows * S.g.cols) c1) S) from HSs8.out)) (by simp)
          have q0 : w'.cell? ⟨gs, 9, none⟩ = some (.int .i64 S.pen.2.1) := hx.cell 9
          refine Step.val _ rfl rfl (wanted_some (g := 9) (b := true) rfl gd) (.int .i64 S.pen.2.1) w' (fun ρ hρ => ?_) (hJ.val hGS hcl hL rfl (Below.refl _ _) _ rfl)
          clear hx
          rw [hρ] at e0
          clear hJ hsame hdep hcl hρ hsz hb gd
          go_simp
        · intro L a w' hL hsame hsz hJ hdep hcl
          have gd : valOf _ 9 a = .bool true := hJ.valOf (by decide) (dep_of hdep 9 (by kernel_rfl)) rfl rfl
          have hb := hJ.kept.toBelow (Nat.le_refl _) (by simp)
          have e1 : a.eval (.tmp 125) = (.int .i64 S.pen.2.1) := eval_slot (j := 14) (by kernel_rfl) (hJ.valOf (by decide) (dep_of hdep 14 (by kernel_rfl)) rfl rfl)
          refine Step.val _ rfl rfl (wanted_some (g := 9) (b := true) rfl gd) (.agg #[.int .i64 (-1), .int .i64 S.pen.2.1, .int .i64 0]) w' (fun ρ hρ => ?_) (hJ.val hGS hcl hL rfl (Below.refl _ _) _ rfl)
          rw [hρ] at e1
          have ec0 : ρ (.const (.int .i64 (-1))) = (.int .i64 (-1)) := (hρ _).symm
          clear hJ hsame hdep hcl hρ hsz hb gd
          go_simp
        · intro L a w' hL hsame hsz hJ hdep hcl
          have gd : valOf _ 9 a = .bool true := hJ.valOf (by decide) (dep_of hdep 9 (by kernel_rfl)) rfl rfl
          have hb := hJ.kept.toBelow (Nat.le_refl _) (by simp)
          have e0 : a.eval (.tmp 122) = (.agg #[.int .i64 (-1), .int .i64 S.pen.2.1, .int .i64 0]) := eval_slot (j := 11) (by kernel_rfl) (hJ.valOf (by decide) (dep_of hdep 11 (by kernel_rfl)) rfl rfl)
          have e1 : a.eval (.tmp 126) = (.agg #[.int .i64 (-1), .int .i64 S.pen.2.1, .int .i64 0]) := eval_slot (j := 15) (by kernel_rfl) (hJ.valOf (by decide) (dep_of hdep 15 (by kernel_rfl)) rfl rfl)
          refine Step.val _ rfl rfl (wanted_some (g := 9) (b := true) rfl gd) (.bool true) w' (fun ρ hρ => ?_) (hJ.val hGS hcl hL rfl (Below.refl _ _) _ rfl)
          rw [hρ] at e0 e1
          clear hJ hsame hdep hcl hρ hsz hb gd
          go_simp
        · intro L a w' hL hsame hsz hJ hdep hcl
          have hb := hJ.kept.toBelow (Nat.le_refl _) (by simp)
          have e0 : a.eval (.tmp 120) = (.bool true) := eval_slot (j := 9) (by kernel_rfl) (hJ.valOf (by decide) (dep_of hdep 9 (by kernel_rfl)) rfl rfl)
          have e1 : a.eval (.tmp 127) = (.bool true) := eval_slot (j := 16) (by kernel_rfl) (hJ.valOf (by decide) (dep_of hdep 16 (by kernel_rfl)) rfl rfl)
          refine Step.val _ rfl rfl (wanted_none rfl) (.bool true) w' (fun ρ hρ => ?_) (hJ.val hGS hcl hL rfl (Below.refl _ _) _ rfl)
          rw [hρ] at e0 e1
          have ec0 : ρ (.const (.bool false)) = (.bool false) := (hρ _).symm
          clear hJ hsame hdep hcl hρ hsz hb
          go_simp
        · intro L a w' hL hsame hsz hJ hdep hcl
          have hb := hJ.kept.toBelow (Nat.le_refl _) (by simp)
          have e0 : a.eval (.tmp 128) = (.bool true) := eval_slot (j := 17) (by kernel_rfl) (hJ.valOf (by decide) (dep_of hdep 17 (by kernel_rfl)) rfl rfl)
          refine Step.val _ rfl rfl (wanted_none rfl) (.bool true) w' (fun ρ hρ => ?_) (hJ.val hGS hcl hL rfl (Below.refl _ _) _ rfl)
          rw [hρ] at e0
          clear hJ hsame hdep hcl hρ hsz hb
          go_simp
        · intro L a w' hL hsame hsz hJ hdep hcl
          have gd : valOf _ 18 a = .bool true := hJ.valOf (by decide) (dep_of hdep 18 (by kernel_rfl)) rfl rfl
          have hb := hJ.kept.toBelow (Nat.le_refl _) (by simp)
          refine Step.call _ rfl rfl (wanted_some (g := 18) (b := true) rfl gd) 3 #[] (fun ρ hρ => ?_) ?_
          · skip
            have ef : ρ (.func 3) = .func (.func 3) #[] #[] := (hρ _).symm
            clear hJ hsame hdep hcl hρ hsz hb gd
            go_simp
          · refine (screenRuns_any _ (HSP.out.below (LO11.out.trans (hb.mono LO11.out.size)) (by exact SLT.out))).mono ?_
            rintro e w2 ⟨rfl, bb⟩
            exact ⟨_, rfl, hJ.val hGS hcl hL rfl bb _ rfl⟩
        · intro L a w' hL hsame hsz hJ hdep hcl
          have hb := hJ.kept.toBelow (Nat.le_refl _) (by simp)
          have e0 : a.eval (.tmp 129) = (.bool true) := eval_slot (j := 18) (by kernel_rfl) (hJ.valOf (by decide) (dep_of hdep 18 (by kernel_rfl)) rfl rfl)
          have e1 : a.eval (.tmp 130) = (.bool true) := eval_slot (j := 19) (by kernel_rfl) (hJ.valOf (by decide) (dep_of hdep 19 (by kernel_rfl)) rfl rfl)
          refine Step.val _ rfl rfl (wanted_none rfl) (.bool true) w' (fun ρ hρ => ?_) (hJ.val hGS hcl hL rfl (Below.refl _ _) _ rfl)
          rw [hρ] at e0 e1
          have ec0 : ρ (.const (.bool false)) = (.bool false) := (hρ _).symm
          clear hJ hsame hdep hcl hρ hsz hb
          go_simp
        · intro L a w' hL hsame hsz hJ hdep hcl
          have hb := hJ.kept.toBelow (Nat.le_refl _) (by simp)
          have e0 : a.eval (.tmp 131) = (.bool true) := eval_slot (j := 20) (by kernel_rfl) (hJ.valOf (by decide) (dep_of hdep 20 (by kernel_rfl)) rfl rfl)
          refine Step.val _ rfl rfl (wanted_none rfl) (.bool true) w' (fun ρ hρ => ?_) (hJ.val hGS hcl hL rfl (Below.refl _ _) _ rfl)
          rw [hρ] at e0
          clear hJ hsame hdep hcl hρ hsz hb
          go_simp
        · intro u w' hF
          change Exit.then _ _ Exit.normal (Act.put (Act.put (Act.put (Act.put (Act.put (Act.put (Act.put (Act.put (Act.put (Act.put (Act.put (Act.put (Act.put (Act.put (Act.put (Act.put (Act.put (Act.put (Act.put (Act.put (Act.put (Act.put (putAll _ u 0 _) (some 111) (u 0)) (some 112) (u 1)) (some 113) (u 2)) (some 114) (u 3)) (some 115) (u 4)) (some 116) (u 5)) (some 117) (u 6)) (some 118) (u 7)) (some 119) (u 8)) (some 120) (u 9)) (some 121) (u 10)) (some 122) (u 11)) (some 123) (u 12)) (some 124) (u 13)) (some 125) (u 14)) (some 126) (u 15)) (some 127) (u 16)) (some 128) (u 17)) (some 129) (u 18)) (some 130) (u 19)) (some 131) (u 20)) (some 10) (u 21)) _
          simp only [putAll]
          have f : u 21 = .bool true := hF.fin0 (j := 21) (by decide) rfl rfl
          have hk := hF.kept.toBelow (Nat.le_refl _) (by simp)
          clear hF
          generalize u 0 = y0
          generalize u 1 = y1
          generalize u 2 = y2
          generalize u 3 = y3
          generalize u 4 = y4
          generalize u 5 = y5
          generalize u 6 = y6
          generalize u 7 = y7
          generalize u 8 = y8
          generalize u 9 = y9
          generalize u 10 = y10
          generalize u 11 = y11
          generalize u 12 = y12
          generalize u 13 = y13
          generalize u 14 = y14
          generalize u 15 = y15
          generalize u 16 = y16
          generalize u 17 = y17
          generalize u 18 = y18
          generalize u 19 = y19
          generalize u 20 = y20
          generalize u 21 = y21 at f ⊢
          go_simp
          go_step
          go_meet
          exact ⟨by first | rfl | exact f, hk⟩
      case rest =>
        obtain ⟨rfl, hb9⟩ := hcut
        have hfin := LO11.out.trans (hb9.mono LO11.out.size)
        go_wp2_with fail
        go_ret
        exact ⟨rfl, hfin⟩
end Go.Proofs.YtoffiekpmomfcaaDoor
