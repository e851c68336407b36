/- CursorLaws: up and down within the margins stays within; saved and restored it is where it was; feeds from the top to the bottom move nothing, the next one does. (written by tools/gencursorlaws.py) -/
import Derived.Test.YtbhnipepbckalaaDoorCursorRuns
import Derived.Test.YtbhnipepbckalaaDoorScrStore
import Derived.Test.YtbhnipepbckalaaDoorGridRefNew
import Derived.Test.YtbhnipepbckalaaDoorPenEq
import Derived.Deep.DeepCutAuto
set_option maxRecDepth 100000
namespace Go.Proofs.YtbhnipepbckalaaDoor
open Go Go.RowKit
set_option linter.unusedVariables false
theorem exec_field_row {x : Value} {s : SN.Sc} {w : World} (ρ : Operand → Value) (o : Oper) {y : Operand} (ho : o.op = .field 32 y 1) (hy : ρ y = .agg (scA x s)) : (execOp ρ o).run Tryd.prog w = .ok (.value (.int .i64 s.row)) w := by
  have e : (Instr.field 32 (.agg (scA x s)) 1).run Tryd.prog w = .ok (.int .i64 s.row) w := by kernel_rfl
  unfold execOp
  simp only [ho, hy, Sem.run_bind, e, Result.andThen_ok, Sem.run_pure]
theorem exec_field_col {x : Value} {s : SN.Sc} {w : World} (ρ : Operand → Value) (o : Oper) {y : Operand} (ho : o.op = .field 32 y 2) (hy : ρ y = .agg (scA x s)) : (execOp ρ o).run Tryd.prog w = .ok (.value (.int .i64 s.col)) w := by
  have e : (Instr.field 32 (.agg (scA x s)) 2).run Tryd.prog w = .ok (.int .i64 s.col) w := by kernel_rfl
  unfold execOp
  simp only [ho, hy, Sem.run_bind, e, Result.andThen_ok, Sem.run_pure]
theorem exec_field_pend {x : Value} {s : SN.Sc} {w : World} (ρ : Operand → Value) (o : Oper) {y : Operand} (ho : o.op = .field 32 y 3) (hy : ρ y = .agg (scA x s)) : (execOp ρ o).run Tryd.prog w = .ok (.value (.bool s.pend)) w := by
  have e : (Instr.field 32 (.agg (scA x s)) 3).run Tryd.prog w = .ok (.bool s.pend) w := by kernel_rfl
  unfold execOp
  simp only [ho, hy, Sem.run_bind, e, Result.andThen_ok, Sem.run_pure]
set_option maxHeartbeats 16000000 in
theorem cursorLaws_t (kcs : Array Value) (n1 : Int) (m : Nat) (S : SN.Sc) (w : World) (hk13 : kcs.size = 13) (hS : SN.RightS S) (hR5 : S.g.rows ≤ 5) (hK9 : S.g.cols ≤ 9) (hsp : Spans w) (hm : m ≤ 9)
    (KS : Hid (∀ w', Below w.heap.size w w' → Calls Tryd.prog 12 #[.agg kcs] w' (GotS w' S)))
    (WM : Hid (∀ w', Calls Tryd.prog 13 #[.int .i64 n1, .int .i64 0, .int .i64 9] w' fun e w'' => e = .returned (.int .i64 (m : Nat)) ∧ w' = w'')) :
    Calls Tryd.prog 5 #[.agg kcs, .int .i64 n1] w fun e w' => e = .returned (.bool true) ∧ Below w.heap.size w w' := by
  have q1 := hS.g.1
  have q2 := hS.g.2.2.1
  have htop := SN.top_bot hS
  have hbot := hS.bot
  have hrow := hS.row
  have hcol := hS.col
  have hN : S.g.rows * S.g.cols ≤ 45 := Nat.mul_le_mul hR5 hK9
  have CU := hide (fun w' v h => cup_is S v m w' (by omega) hS h)
  have CD := hide (fun w' v h => cdown_is S v m w' (by omega) hS h)
  obtain ⟨u1, u2⟩ := SN.up_row hS m
  obtain ⟨d1, d2⟩ := SN.down_row hS m
  have u3 := SN.up_col hS m
  have hug : (SN.upS S m).g = S.g := rfl
  have CSV := hide (fun w' v h => csave_is S v w' hS h)
  have hRs := SN.right_save hS
  have CAT := hide (fun w' v h => cat_is (SN.saveS S) v (m : Int) (m : Int) w' hRs (by omega) (by omega) h)
  have CRS := hide (fun w' v h => (SN.rest_save hS m m) ▸ crest_is (SN.atS (SN.saveS S) m m) v w' (SN.right_at hRs m m) h)
  have v1 : ((SN.saveS S).u5 false).row = S.row := rfl
  have v2 : ((SN.saveS S).u5 false).col = S.col := rfl
  have v3 : ((SN.saveS S).u5 false).pen = S.pen := rfl
  have v4 : ((SN.saveS S).u5 false).org = S.org := rfl
  have v5 : ((SN.saveS S).u5 false).pend = false := rfl
  obtain ⟨TF, hTF⟩ : ∃ TF : Nat → SN.Sc, TF = fun k : Nat => SN.atS S (k : Int) 0 := ⟨_, rfl⟩
  have hTR : ∀ k, SN.RightS (TF k) := fun k => by rw [hTF]; exact SN.right_at hS k 0
  have hTG : ∀ k, (TF k).g = S.g := fun k => by rw [hTF]; rfl
  have CT0 := hide (fun w' v h => (show Calls Tryd.prog 15 #[v, .int .i64 S.top, .int .i64 0] w' (GotS w' (TF S.top)) from hTF ▸ cat_is S v (S.top : Int) 0 w' hS (by omega) (by omega) h))
  have CFD := hide (fun (k : Nat) (hk : k < S.bot) w' v (h : IsS w' (TF k) v) => (show Calls Tryd.prog 10 #[v] w' (GotS w' (TF (k + 1))) from by
    have e : SN.feedS (TF k) = TF (k + 1) := by
      rw [hTF]
      exact (SN.feed_in hS hk).trans rfl
    rw [← e]
    exact cfeed_is (TF k) v w' (hTR k) h))
  have hTr : (TF S.bot).row = S.bot := by rw [hTF]; exact SN.pin_nat hbot
  have CT2 := hide (fun w' v h => cat_is (TF S.bot) v (S.top : Int) 0 w' (hTR _) (by omega) (by omega) h)
  have hx1 := SN.right_at (hTR S.bot) (S.top : Int) 0
  have hx2 : (SN.atS (TF S.bot) (S.top : Int) 0).row = S.top := SN.pin_nat (by rw [hTG]; omega)
  have hx3 : (SN.atS (TF S.bot) (S.top : Int) 0).top = S.top := by rw [hTF]; rfl
  have CBK := hide (fun w' v h => cback_is _ v w' hx1 h)
  have hw1 : (SN.backS (SN.atS (TF S.bot) (S.top : Int) 0)).row = S.top := by
    rw [SN.back_top (hx2.trans hx3.symm)]
    exact hx2
  have CFB := hide (fun w' v h => cfeed_is (TF S.bot) v w' (hTR _) h)
  have hf1 : (SN.feedS (TF S.bot)).row = S.bot := by
    have : (TF S.bot).bot = S.bot := by rw [hTF]; rfl
    rw [SN.feed_bot (hTr.trans this.symm)]
    exact hTr
  have CHM := hide (fun w' v h => chome_is S v w' hS h)
  have hh1 : (SN.homeS S).col = 0 := SN.pin_nat (r := 0) q2
  have hh2 : (SN.homeS S).pend = false := rfl
  generalize SN.upS S m = U at CU u1 u2 u3 hug
  generalize SN.downS S m = D at CD d1 d2
  generalize SN.atS (SN.saveS S) m m = V2 at CAT CRS
  generalize (SN.saveS S).u5 false = V at CRS v1 v2 v3 v4 v5
  generalize SN.saveS S = V1 at CSV CAT
  generalize SN.backS (SN.atS (TF S.bot) (S.top : Int) 0) = Wb at CBK hw1
  generalize SN.atS (TF S.bot) (S.top : Int) 0 = Wa at CT2 CBK
  generalize SN.feedS (TF S.bot) = FB at CFB hf1
  generalize SN.homeS S = H at CHM hh1 hh2
  have EUG := hide hug
  have EUC := hide u3
  have EV1 := hide v1
  have EV2 := hide v2
  have EV3 := hide v3
  have EV4 := hide v4
  have EV5 := hide v5
  have ETG := hide hTG
  have ETR := hide hTr
  have EWR := hide hw1
  have EFR := hide hf1
  have EHC := hide hh1
  have EHP := hide hh2
  have enp : ∀ w' : World, (binOp .neq 26 (.agg #[.int .i64 S.pen.1, .int .i64 S.pen.2.1, .int .i64 S.pen.2.2]) (.agg #[.int .i64 S.pen.1, .int .i64 S.pen.2.1, .int .i64 S.pen.2.2])).run Tryd.prog w' = .ok (.bool false) w' := fun w' => by rw [neq_pen]; simp
  have pg := pen_guard
  have HSP := hide hsp
  have SLT := hide hsp.lt
  have LO0 := hide (Below.refl w.heap.size w)
  clear hsp hug u3 v1 v2 v3 v4 v5 hTF hTR hTG hTr hx1 hx2 hx3 hw1 hf1 hh1 hh2 hRs
  go_enter Tryd.func5, Tryd.ntmps5
  go_wp2_with (first | (refine wpList_box_ks hk13 rfl _ rfl rfl ?_; intro gk wk hKB hbk hlk) | (refine wpList_load_ks hKB rfl _ rfl rfl ?_))
  have LO1 := hide (LO0.out.trans (hbk.mono LO0.out.size))
  clear LO0 hbk
  refine (KS.out _ LO1.out).mono ?_
  rintro e wb1 ⟨v1, rfl, ⟨x1, rfl, hg1⟩, hb1⟩
  have LO2 := hide (LO1.out.trans (hb1.mono LO1.out.size))
  clear LO1 hb1
  obtain ⟨A1, c1, rfl⟩ := gv_slice hg1
  have HGs1 := hide hg1
  clear hg1
  go_upto_region 2 with (first | (refine wpList_alloc_scr rfl rfl ?_; intro gs wags csgs hBgs hzgs hbgs hlgs) | (refine wpList_store_scr hBgs hzgs rfl _ _ rfl rfl rfl rfl ?_; intro wsgs hSgs hkgs hqgs))
  have le_gs : w.heap.size ≤ gs := by have := LO2.out.size; omega
  have HGs2 := hide (HGs1.out.low hbgs)
  have LO3 := hide (LO2.out.trans (hbgs.mono LO2.out.size))
  clear HGs1 LO2 hbgs
  have HGs3 := hide (HGs2.out.kept hBgs (by decide) hkgs)
  have LO4 := hide (LO3.out.trans (hkgs.toBelow LO3.out.size (fun k hh => by simp at hh; omega)))
  clear HGs2 LO3
  have HSs1 := hide hSgs
  clear hSgs hkgs hBgs hlgs
  go_wp2_with fail
  refine (WM.out _).mono ?_
  rintro e w' ⟨rfl, rfl⟩
  go_upto_region 3 with fail
  go_simp
  go_cut [7, 8] from 7 to 22 (fun ua ub wx => ∃ gu gd A3a c3a A3b c3b, ua = .pointer (some ⟨gu, 0, none⟩) ∧ ub = .pointer (some ⟨gd, 0, none⟩) ∧ (wsgs.heap.size ≤ gu ∧ wsgs.heap.size ≤ gd ∧ gu ≠ gd) ∧ SBox wx gu (.slice A3a (U.g.rows * U.g.cols) c3a) U ∧ SBox wx gd (.slice A3b (D.g.rows * D.g.cols) c3b) D ∧ IsG wx U.g (gv U.g.rows U.g.cols (.slice A3a (U.g.rows * U.g.cols) c3a)) ∧ IsG wx D.g (gv D.g.rows D.g.cols (.slice A3b (D.g.rows * D.g.cols) c3b)) ∧ Below wsgs.heap.size wsgs wx)
  case first =>
    refine wp_region_gj (n := 178) [] (fun _ => #[]) [(0, 0, 0, 0, 0), (0, 0, 0, 0, 0), (1, 0, 0, 0, 0), (0, 0, 0, 0, 0), (0, 0, 0, 0, 0), (1, 0, 0, 0, 0), (2, 0, 0, 32, 29), (2, 0, 0, 32, 29), (3, 6, 2, 32, 29), (3, 7, 5, 32, 29)] (fun j => [(.agg (scA (.slice A1 (S.g.rows * S.g.cols) c1) S)), (.int .i64 (m : Nat)), undef, (.agg (scA (.slice A1 (S.g.rows * S.g.cols) c1) S)), (.int .i64 (m : Nat)), undef, undef, undef, undef, undef].getD j undef) [none, none, some (ScrV U), none, none, some (ScrV D)] (fun _ => 0) (by kernel_rfl) (by kernel_rfl) (by kernel_rfl) rfl (by kernel_rfl) (gno4 rfl) (fun i j h => by revert h; exact gno4 (p := fun _ => _) rfl i) (AllG.none_ (AllG.none_ (AllG.some_ (ScrV.stays (by kernel_rfl)) (AllG.none_ (AllG.none_ (AllG.some_ (ScrV.stays (by kernel_rfl)) (AllG.nil _))))))) (fun hGS => cases10 ⟨?_, ?_, ?_, ?_, ?_, ?_, ?_, ?_, ?_, ?_⟩) ?_
    · intro L a w' hL hsame hsz hJ hdep hcl
      have hb := hJ.kept.toBelow (Nat.le_refl _) (by simp)
      have e0 : a.eval (.tmp 5) = (.pointer (some ⟨gs, 0, none⟩)) := eval_base hsame (by kernel_rfl)
      have hx := hJ.keptBox ((show Box _ gs 32 (scA (.slice A1 (S.g.rows * S.g.cols) c1) S) from HSs1.out)) (by simp)
      exact Step.val _ rfl rfl (wanted_none rfl) (.agg (scA (.slice A1 (S.g.rows * S.g.cols) c1) S)) w' (fun ρ hρ => exec_load_any hx rfl ρ _ rfl ((hρ _).symm.trans e0)) (hJ.val hGS hcl hL rfl (Below.refl _ _) _ rfl)
    · intro L a w' hL hsame hsz hJ hdep hcl
      have hb := hJ.kept.toBelow (Nat.le_refl _) (by simp)
      have e0 : a.eval (.tmp 6) = (.int .i64 (m : Nat)) := eval_base hsame (by kernel_rfl)
      refine Step.val _ rfl rfl (wanted_none rfl) (.int .i64 (m : Nat)) w' (fun ρ hρ => ?_) (hJ.val hGS hcl hL rfl (Below.refl _ _) _ rfl)
      rw [hρ] at e0
      clear hJ hsame hdep hcl hρ hsz hb
      go_simp
    · intro L a w' hL hsame hsz hJ hdep hcl
      have hb := hJ.kept.toBelow (Nat.le_refl _) (by simp)
      have e0 : a.eval (.tmp 17) = (.agg (scA (.slice A1 (S.g.rows * S.g.cols) c1) S)) := eval_slot (j := 0) (by kernel_rfl) (hJ.valOf (by decide) (dep_of hdep 0 (by kernel_rfl)) rfl rfl)
      have e1 : a.eval (.tmp 18) = (.int .i64 (m : Nat)) := eval_slot (j := 1) (by kernel_rfl) (hJ.valOf (by decide) (dep_of hdep 1 (by kernel_rfl)) rfl rfl)
      refine Step.call _ rfl rfl (wanted_none rfl) 19 #[.agg (scA (.slice A1 (S.g.rows * S.g.cols) c1) S), .int .i64 (m : Nat)] (fun ρ hρ => ?_) ?_
      · skip
        rw [hρ] at e0 e1
        have ef : ρ (.func 19) = .func (.func 19) #[] #[] := (hρ _).symm
        clear hJ hsame hdep hcl hρ hsz hb
        go_simp
      · refine (CU.out _ _ ⟨_, rfl, (HGs3.out.low hb)⟩).mono ?_
        rintro e w2 ⟨v, rfl, hi, bb⟩
        exact ⟨_, rfl, hJ.pred hGS hcl hL rfl bb _ (scrV_of hi)⟩
    · intro L a w' hL hsame hsz hJ hdep hcl
      have hb := hJ.kept.toBelow (Nat.le_refl _) (by simp)
      have e0 : a.eval (.tmp 5) = (.pointer (some ⟨gs, 0, none⟩)) := eval_base hsame (by kernel_rfl)
      have hx := hJ.keptBox ((show Box _ gs 32 (scA (.slice A1 (S.g.rows * S.g.cols) c1) S) from HSs1.out)) (by simp)
      exact Step.val _ rfl rfl (wanted_none rfl) (.agg (scA (.slice A1 (S.g.rows * S.g.cols) c1) S)) w' (fun ρ hρ => exec_load_any hx rfl ρ _ rfl ((hρ _).symm.trans e0)) (hJ.val hGS hcl hL rfl (Below.refl _ _) _ rfl)
    · intro L a w' hL hsame hsz hJ hdep hcl
      have hb := hJ.kept.toBelow (Nat.le_refl _) (by simp)
      have e0 : a.eval (.tmp 6) = (.int .i64 (m : Nat)) := eval_base hsame (by kernel_rfl)
      refine Step.val _ rfl rfl (wanted_none rfl) (.int .i64 (m : Nat)) w' (fun ρ hρ => ?_) (hJ.val hGS hcl hL rfl (Below.refl _ _) _ rfl)
      rw [hρ] at e0
      clear hJ hsame hdep hcl hρ hsz hb
      go_simp
    · intro L a w' hL hsame hsz hJ hdep hcl
      have hb := hJ.kept.toBelow (Nat.le_refl _) (by simp)
      have e0 : a.eval (.tmp 20) = (.agg (scA (.slice A1 (S.g.rows * S.g.cols) c1) S)) := eval_slot (j := 3) (by kernel_rfl) (hJ.valOf (by decide) (dep_of hdep 3 (by kernel_rfl)) rfl rfl)
      have e1 : a.eval (.tmp 21) = (.int .i64 (m : Nat)) := eval_slot (j := 4) (by kernel_rfl) (hJ.valOf (by decide) (dep_of hdep 4 (by kernel_rfl)) rfl rfl)
      refine Step.call _ rfl rfl (wanted_none rfl) 21 #[.agg (scA (.slice A1 (S.g.rows * S.g.cols) c1) S), .int .i64 (m : Nat)] (fun ρ hρ => ?_) ?_
      · skip
        rw [hρ] at e0 e1
        have ef : ρ (.func 21) = .func (.func 21) #[] #[] := (hρ _).symm
        clear hJ hsame hdep hcl hρ hsz hb
        go_simp
      · refine (CD.out _ _ ⟨_, rfl, (HGs3.out.low hb)⟩).mono ?_
        rintro e w2 ⟨v, rfl, hi, bb⟩
        exact ⟨_, rfl, hJ.pred hGS hcl hL rfl bb _ (scrV_of hi)⟩
    · intro L a w' hL hsame hsz hJ hdep hcl
      have hb := hJ.kept.toBelow (Nat.le_refl _) (by simp)
      refine Step.val _ rfl rfl (wanted_none rfl) (.pointer (some ⟨w'.heap.size, 0, none⟩)) (w'.alloc (.cells #[.int .i64 0, .int .i64 0, .slice none 0 0, .int .i64 0, .int .i64 0, .bool false, .int .i64 0, .int .i64 0, .int .i64 0, .int .i64 0, .int .i64 0, .int .u64 0, .int .u8 0, .int .u8 0, .int .i64 0, .bool false, .bool false, .bool false, .bool false, .bool false, .int .i64 0, .int .i64 0, .int .i64 0, .int .i64 0, .int .i64 0, .int .u8 0, .int .u8 0, .int .i64 0, .bool false] 32)) (fun ρ hρ => ?_) (hJ.box hGS hcl hL rfl 32 rfl #[.int .i64 0, .int .i64 0, .slice none 0 0, .int .i64 0, .int .i64 0, .bool false, .int .i64 0, .int .i64 0, .int .i64 0, .int .i64 0, .int .i64 0, .int .u64 0, .int .u8 0, .int .u8 0, .int .i64 0, .bool false, .bool false, .bool false, .bool false, .bool false, .int .i64 0, .int .i64 0, .int .i64 0, .int .i64 0, .int .i64 0, .int .u8 0, .int .u8 0, .int .i64 0, .bool false] rfl)
      clear hJ hsame hdep hcl hρ hsz hb
      go_simp
    · intro L a w' hL hsame hsz hJ hdep hcl
      have hb := hJ.kept.toBelow (Nat.le_refl _) (by simp)
      refine Step.val _ rfl rfl (wanted_none rfl) (.pointer (some ⟨w'.heap.size, 0, none⟩)) (w'.alloc (.cells #[.int .i64 0, .int .i64 0, .slice none 0 0, .int .i64 0, .int .i64 0, .bool false, .int .i64 0, .int .i64 0, .int .i64 0, .int .i64 0, .int .i64 0, .int .u64 0, .int .u8 0, .int .u8 0, .int .i64 0, .bool false, .bool false, .bool false, .bool false, .bool false, .int .i64 0, .int .i64 0, .int .i64 0, .int .i64 0, .int .i64 0, .int .u8 0, .int .u8 0, .int .i64 0, .bool false] 32)) (fun ρ hρ => ?_) (hJ.box hGS hcl hL rfl 32 rfl #[.int .i64 0, .int .i64 0, .slice none 0 0, .int .i64 0, .int .i64 0, .bool false, .int .i64 0, .int .i64 0, .int .i64 0, .int .i64 0, .int .i64 0, .int .u64 0, .int .u8 0, .int .u8 0, .int .i64 0, .bool false, .bool false, .bool false, .bool false, .bool false, .int .i64 0, .int .i64 0, .int .i64 0, .int .i64 0, .int .i64 0, .int .u8 0, .int .u8 0, .int .i64 0, .bool false] rfl)
      clear hJ hsame hdep hcl hρ hsz hb
      go_simp
    · intro L a w' hL hsame hsz hJ hdep hcl
      have hb := hJ.kept.toBelow (Nat.le_refl _) (by simp)
      obtain ⟨A2', c2', hv2, hi2⟩ := (show (ScrV U) (valOf _ 2 a) w' from hJ.predOf (by decide) (dep_of hdep 2 (by kernel_rfl)) rfl)
      have es : a.eval (.tmp 19) = .agg (scA (.slice A2' (U.g.rows * U.g.cols) c2') U) := eval_slot (j := 2) (by kernel_rfl) hv2
      have la := dep_of hdep 6 (by kernel_rfl)
      obtain ⟨g, cs, hg, hg0, hx, hs⟩ := hJ.boxOf (j := 6) (by decide) la rfl
      have ea : a.eval (.tmp 7) = .pointer (some ⟨g, 0, none⟩) := eval_slot (j := 6) (by kernel_rfl) hg
      exact Step.skip _ rfl (wanted_none rfl) _ (fun ρ hρ => exec_store_any hx hs rfl (scA_one rfl _) ρ _ rfl ((hρ _).symm.trans ea) ((hρ _).symm.trans es)) (hJ.put hGS hcl hL rfl la (dep_of hdep 2 (by kernel_rfl)) hg rfl hv2)
    · intro L a w' hL hsame hsz hJ hdep hcl
      have hb := hJ.kept.toBelow (Nat.le_refl _) (by simp)
      obtain ⟨A5', c5', hv5, hi5⟩ := (show (ScrV D) (valOf _ 5 a) w' from hJ.predOf (by decide) (dep_of hdep 5 (by kernel_rfl)) rfl)
      have es : a.eval (.tmp 22) = .agg (scA (.slice A5' (D.g.rows * D.g.cols) c5') D) := eval_slot (j := 5) (by kernel_rfl) hv5
      have la := dep_of hdep 7 (by kernel_rfl)
      obtain ⟨g, cs, hg, hg0, hx, hs⟩ := hJ.boxOf (j := 7) (by decide) la rfl
      have ea : a.eval (.tmp 8) = .pointer (some ⟨g, 0, none⟩) := eval_slot (j := 7) (by kernel_rfl) hg
      exact Step.skip _ rfl (wanted_none rfl) _ (fun ρ hρ => exec_store_any hx hs rfl (scA_one rfl _) ρ _ rfl ((hρ _).symm.trans ea) ((hρ _).symm.trans es)) (hJ.put hGS hcl hL rfl la (dep_of hdep 5 (by kernel_rfl)) hg rfl hv5)
    · intro u w' hF
      change Exit.then _ _ Exit.normal (Act.put (Act.put (Act.put (Act.put (Act.put (Act.put (Act.put (Act.put (Act.put (Act.put (putAll _ u 0 _) (some 17) (u 0)) (some 18) (u 1)) (some 19) (u 2)) (some 20) (u 3)) (some 21) (u 4)) (some 22) (u 5)) (some 7) (u 6)) (some 8) (u 7)) none (u 8)) none (u 9)) _
      simp only [putAll]
      obtain ⟨Aa, ca, fa, hia⟩ := (show ScrV U (u 2) w' from hF.fin1 (j := 2) (by decide) rfl)
      obtain ⟨Ab, cb, fb, hib⟩ := (show ScrV D (u 5) w' from hF.fin1 (j := 5) (by decide) rfl)
      obtain ⟨ga, csa, va, la, _, _⟩ := (hF.all 6 (by decide) rfl).2.2.1 rfl
      obtain ⟨ga0, csa', va', fsa, hBa⟩ := (hF.all 8 (by decide) rfl).2.2.2.1 rfl
      obtain rfl : ga0 = ga := by
        have := va'.symm.trans va
        cases this
        rfl
      obtain rfl : csa' = scA (.slice Aa (U.g.rows * U.g.cols) ca) U := by
        have := fsa.symm.trans fa
        cases this
        rfl
      obtain ⟨gb, csb, vb, lb, _, _⟩ := (hF.all 7 (by decide) rfl).2.2.1 rfl
      obtain ⟨gb0, csb', vb', fsb, hBb⟩ := (hF.all 9 (by decide) rfl).2.2.2.1 rfl
      obtain rfl : gb0 = gb := by
        have := vb'.symm.trans vb
        cases this
        rfl
      obtain rfl : csb' = scA (.slice Ab (D.g.rows * D.g.cols) cb) D := by
        have := fsb.symm.trans fb
        cases this
        rfl
      have nab := hF.dist 6 7 rfl rfl rfl rfl (by decide)
      have hk := hF.kept.toBelow (Nat.le_refl _) (by simp)
      clear hF va' fsa vb' fsb
      generalize u 0 = y0
      generalize u 1 = y1
      generalize u 2 = y2 at fa ⊢
      generalize u 3 = y3
      generalize u 4 = y4
      generalize u 5 = y5 at fb ⊢
      generalize u 6 = y6 at va nab ⊢
      generalize u 7 = y7 at vb nab ⊢
      generalize u 8 = y8
      generalize u 9 = y9
      subst fa fb va vb
      have m1 : ga0 ≠ gb0 := fun e => nab (by rw [e])
      clear nab
      go_simp
      go_step
      go_meet
      exact ⟨ga0, gb0, Aa, ca, Ab, cb, rfl, rfl, ⟨la, lb, m1⟩, hBa, hBb, hia, hib, hk⟩
  case rest =>
    obtain ⟨gu, gd, A3a, c3a, A3b, c3b, rfl, rfl, ⟨lgu, lgd, ne_gu_gd⟩, hBgu, hBgd, higu, higd, hb3⟩ := hcut
    have ne_gs_gu : gs ≠ gu := by have := HSs1.out.lt; omega
    have ne_gs_gd : gs ≠ gd := by have := HSs1.out.lt; omega
    have le_gu : w.heap.size ≤ gu := by have := LO4.out.size; omega
    have le_gd : w.heap.size ≤ gd := by have := LO4.out.size; omega
    have HSs2 := hide (HSs1.out.below hb3 HSs1.out.lt)
    have HGs4 := hide (HGs3.out.low hb3)
    have LO5 := hide (LO4.out.trans (hb3.mono LO4.out.size))
    clear HSs1 HGs3 LO4 hb3
    have HSu1 := hide hBgu
    clear hBgu
    have HSd1 := hide hBgd
    clear hBgd
    have HGu1 := hide higu
    clear higu
    have HGd1 := hide higd
    clear higd
    rename World => wr3
    clear lgu lgd
    go_upto_region 4 with fail
    go_cut [79] from 23 to 79 (fun u wx => u = .bool false ∧ Below wr3.heap.size wr3 wx)
    case first =>
      have f1 : ¬ ((U.row : Int) > (S.row : Int)) := by omega
      have f2 : ¬ ((D.row : Int) < (S.row : Int)) := by omega
      have k_gu_3 := (show _ = some (.int .i64 (U.row : Nat) : Value) from HSu1.out.c3)
      have k_gu_4 := (show _ = some (.int .i64 (S.col : Nat) : Value) from (HSu1.out.c4).trans (by first | (rw [EUC.out]; done) | (rw [EUC.out]; rfl)))
      have k_gu_2 := (show _ = some (.slice A3a (U.g.rows * U.g.cols) c3a : Value) from HSu1.out.c2)
      have k_gd_3 := (show _ = some (.int .i64 (D.row : Nat) : Value) from HSd1.out.c3)
      have k_gs_3 := (show _ = some (.int .i64 (S.row : Nat) : Value) from HSs2.out.c3)
      have k_gs_4 := (show _ = some (.int .i64 (S.col : Nat) : Value) from HSs2.out.c4)
      have k_gs_6 := (show _ = some (.int .i64 (S.top : Nat) : Value) from HSs2.out.c6)
      have k_gs_7 := (show _ = some (.int .i64 (S.bot : Nat) : Value) from HSs2.out.c7)
      have k_gs_2 := (show _ = some (.slice A1 (S.g.rows * S.g.cols) c1 : Value) from HSs2.out.c2)
      have hx := (isg_seen HGu1.out).1
      have hxe : PG.cells U.g = PG.cells S.g := by rw [EUG.out]
      rw [hxe] at hx
      have hn3 : U.g.rows * U.g.cols ≤ 1099511627776 := by rw [EUG.out]; omega
      have SC := hide (fun c c' => same_cells _ _ _ _ _ _ c _ c' _ hx (isg_seen HGs4.out).1 hn3)
      clear hx hxe hn3
      by_cases b1 : S.top ≤ S.row
      · have f3 : ¬ ((U.row : Int) < (S.top : Int)) := by have := u2 b1; omega
        by_cases b2 : S.row ≤ S.bot
        · have f4 : ¬ ((D.row : Int) > (S.bot : Int)) := by have := d2 b2; omega
          go_wp2_with fail
          refine (SC.out _ _).mono ?_
          rintro e wq ⟨rfl, q, hq⟩
          have hbq : Below wr3.heap.size wr3 wq := by rw [← hq]; exact below_drewN (Below.refl _ _) q
          go_wp2_with fail
          go_meet
          exact ⟨rfl, hbq⟩
        · skip
          go_wp2_with fail
          refine (SC.out _ _).mono ?_
          rintro e wq ⟨rfl, q, hq⟩
          have hbq : Below wr3.heap.size wr3 wq := by rw [← hq]; exact below_drewN (Below.refl _ _) q
          go_wp2_with fail
          go_meet
          exact ⟨rfl, hbq⟩
      · by_cases b2 : S.row ≤ S.bot
        · have f4 : ¬ ((D.row : Int) > (S.bot : Int)) := by have := d2 b2; omega
          go_wp2_with fail
          refine (SC.out _ _).mono ?_
          rintro e wq ⟨rfl, q, hq⟩
          have hbq : Below wr3.heap.size wr3 wq := by rw [← hq]; exact below_drewN (Below.refl _ _) q
          go_wp2_with fail
          go_meet
          exact ⟨rfl, hbq⟩
        · exact absurd htop (by omega)
    case rest =>
      obtain ⟨rfl, hb4⟩ := hcut
      have HSs3 := hide (HSs2.out.below hb4 HSs2.out.lt)
      have HSu2 := hide (HSu1.out.below hb4 HSu1.out.lt)
      have HSd2 := hide (HSd1.out.below hb4 HSd1.out.lt)
      have HGs5 := hide (HGs4.out.low hb4)
      have HGu2 := hide (HGu1.out.low hb4)
      have HGd2 := hide (HGd1.out.low hb4)
      have LO6 := hide (LO5.out.trans (hb4.mono LO5.out.size))
      clear HSs2 HSu1 HSd1 HGs4 HGu1 HGd1 LO5 hb4
      rename World => wr4
      clear u1 u2 d1 d2
      go_wp2_with (first | (refine wpList_load_scr HSs3.out rfl _ rfl rfl ?_))
      refine (CSV.out _ _ ⟨_, rfl, HGs5.out⟩).mono ?_
      rintro e wb5 ⟨v5, rfl, ⟨x5, rfl, hg5⟩, hb5⟩
      have HSs4 := hide (HSs3.out.below hb5 HSs3.out.lt)
      have HSu3 := hide (HSu2.out.below hb5 HSu2.out.lt)
      have HSd3 := hide (HSd2.out.below hb5 HSd2.out.lt)
      have HGs6 := hide (HGs5.out.low hb5)
      have HGu3 := hide (HGu2.out.low hb5)
      have HGd3 := hide (HGd2.out.low hb5)
      have LO7 := hide (LO6.out.trans (hb5.mono LO6.out.size))
      clear HSs3 HSu2 HSd2 HGs5 HGu2 HGd2 LO6 hb5
      obtain ⟨A5, c5, rfl⟩ := gv_slice hg5
      have HGw1 := hide hg5
      clear hg5
      go_wp2_with fail
      refine (CAT.out _ _ ⟨_, rfl, HGw1.out⟩).mono ?_
      rintro e wb6 ⟨v6, rfl, ⟨x6, rfl, hg6⟩, hb6⟩
      have HSs5 := hide (HSs4.out.below hb6 HSs4.out.lt)
      have HSu4 := hide (HSu3.out.below hb6 HSu3.out.lt)
      have HSd4 := hide (HSd3.out.below hb6 HSd3.out.lt)
      have HGs7 := hide (HGs6.out.low hb6)
      have HGu4 := hide (HGu3.out.low hb6)
      have HGd4 := hide (HGd3.out.low hb6)
      have HGw2 := hide (HGw1.out.low hb6)
      have LO8 := hide (LO7.out.trans (hb6.mono LO7.out.size))
      clear HSs4 HSu3 HSd3 HGs6 HGu3 HGd3 HGw1 LO7 hb6
      obtain ⟨A6, c6, rfl⟩ := gv_slice hg6
      have HGy1 := hide hg6
      clear hg6
      go_wp2_with fail
      refine (CRS.out _ _ ⟨_, rfl, HGy1.out⟩).mono ?_
      rintro e wb7 ⟨v7, rfl, ⟨x7, rfl, hg7⟩, hb7⟩
      have HSs6 := hide (HSs5.out.below hb7 HSs5.out.lt)
      have HSu5 := hide (HSu4.out.below hb7 HSu4.out.lt)
      have HSd5 := hide (HSd4.out.below hb7 HSd4.out.lt)
      have HGs8 := hide (HGs7.out.low hb7)
      have HGu5 := hide (HGu4.out.low hb7)
      have HGd5 := hide (HGd4.out.low hb7)
      have HGw3 := hide (HGw2.out.low hb7)
      have HGy2 := hide (HGy1.out.low hb7)
      have LO9 := hide (LO8.out.trans (hb7.mono LO8.out.size))
      clear HSs5 HSu4 HSd4 HGs7 HGu4 HGd4 HGw2 HGy1 LO8 hb7
      obtain ⟨A7, c7, rfl⟩ := gv_slice hg7
      have HGv1 := hide hg7
      clear hg7
      go_upto_region 7 with (first | (refine wpList_alloc_scr rfl rfl ?_; intro gv_ wagv_ csgv_ hBgv_ hzgv_ hbgv_ hlgv_) | (refine wpList_store_scr hBgv_ hzgv_ rfl _ _ rfl rfl rfl rfl ?_; intro wsgv_ hSgv_ hkgv_ hqgv_))
      have ne_gs_gv_ : gs ≠ gv_ := by have := HSs6.out.lt; omega
      have ne_gu_gv_ : gu ≠ gv_ := by have := HSu5.out.lt; omega
      have ne_gd_gv_ : gd ≠ gv_ := by have := HSd5.out.lt; omega
      have le_gv_ : w.heap.size ≤ gv_ := by have := LO9.out.size; omega
      have HSs7 := hide (HSs6.out.below hbgv_ HSs6.out.lt)
      have HSu6 := hide (HSu5.out.below hbgv_ HSu5.out.lt)
      have HSd6 := hide (HSd5.out.below hbgv_ HSd5.out.lt)
      have HGs9 := hide (HGs8.out.low hbgv_)
      have HGu6 := hide (HGu5.out.low hbgv_)
      have HGd6 := hide (HGd5.out.low hbgv_)
      have HGw4 := hide (HGw3.out.low hbgv_)
      have HGy3 := hide (HGy2.out.low hbgv_)
      have HGv2 := hide (HGv1.out.low hbgv_)
      have LO10 := hide (LO9.out.trans (hbgv_.mono LO9.out.size))
      clear HSs6 HSu5 HSd5 HGs8 HGu5 HGd5 HGw3 HGy2 HGv1 LO9 hbgv_
      have HSs8 := hide (HSs7.out.kept hkgv_ (by simp; first | exact ne_gs_gv_ | exact Ne.symm ne_gv__gs))
      have HSu7 := hide (HSu6.out.kept hkgv_ (by simp; first | exact ne_gu_gv_ | exact Ne.symm ne_gv__gu))
      have HSd7 := hide (HSd6.out.kept hkgv_ (by simp; first | exact ne_gd_gv_ | exact Ne.symm ne_gv__gd))
      have HGs10 := hide (HGs9.out.kept hBgv_ (by decide) hkgv_)
      have HGu7 := hide (HGu6.out.kept hBgv_ (by decide) hkgv_)
      have HGd7 := hide (HGd6.out.kept hBgv_ (by decide) hkgv_)
      have HGw5 := hide (HGw4.out.kept hBgv_ (by decide) hkgv_)
      have HGy4 := hide (HGy3.out.kept hBgv_ (by decide) hkgv_)
      have HGv3 := hide (HGv2.out.kept hBgv_ (by decide) hkgv_)
      have LO11 := hide (LO10.out.trans (hkgv_.toBelow LO10.out.size (fun k hh => by simp at hh; omega)))
      clear HSs7 HSu6 HSd6 HGs9 HGu6 HGd6 HGw4 HGy3 HGv2 LO10
      have HSv1 := hide hSgv_
      clear hSgv_ hkgv_ hBgv_ hlgv_
      have k_gv__3 := (show _ = some (.int .i64 (S.row : Nat) : Value) from (HSv1.out.c3).trans (by first | (rw [EV1.out]; done) | (rw [EV1.out]; rfl)))
      have k_gv__4 := (show _ = some (.int .i64 (S.col : Nat) : Value) from (HSv1.out.c4).trans (by first | (rw [EV2.out]; done) | (rw [EV2.out]; rfl)))
      have k_gv__8 := (show _ = some (.int .i64 S.pen.1 : Value) from (HSv1.out.c8).trans (by first | (rw [EV3.out]; done) | (rw [EV3.out]; rfl)))
      have k_gv__9 := (show _ = some (.int .i64 S.pen.2.1 : Value) from (HSv1.out.c9).trans (by first | (rw [EV3.out]; done) | (rw [EV3.out]; rfl)))
      have k_gv__10 := (show _ = some (.int .i64 S.pen.2.2 : Value) from (HSv1.out.c10).trans (by first | (rw [EV3.out]; done) | (rw [EV3.out]; rfl)))
      have k_gv__16 := (show _ = some (.bool S.org : Value) from (HSv1.out.c16).trans (by first | (rw [EV4.out]; done) | (rw [EV4.out]; rfl)))
      have k_gv__5 := (show _ = some (.bool false : Value) from (HSv1.out.c5).trans (by first | (rw [EV5.out]; done) | (rw [EV5.out]; rfl)))
      have k_gs_3 := (show _ = some (.int .i64 (S.row : Nat) : Value) from HSs8.out.c3)
      have k_gs_4 := (show _ = some (.int .i64 (S.col : Nat) : Value) from HSs8.out.c4)
      have k_gs_8 := (show _ = some (.int .i64 S.pen.1 : Value) from HSs8.out.c8)
      have k_gs_9 := (show _ = some (.int .i64 S.pen.2.1 : Value) from HSs8.out.c9)
      have k_gs_10 := (show _ = some (.int .i64 S.pen.2.2 : Value) from HSs8.out.c10)
      have k_gs_16 := (show _ = some (.bool S.org : Value) from HSs8.out.c16)
      have k_gs_6 := (show _ = some (.int .i64 (S.top : Nat) : Value) from HSs8.out.c6)
      go_upto_region 9 with fail
      go_wp2_with (first | (refine wpList_load_scr HSs8.out rfl _ rfl rfl ?_))
      clear k_gv__3 k_gv__4 k_gv__8 k_gv__9 k_gv__10 k_gv__16 k_gv__5 k_gs_3 k_gs_4 k_gs_8 k_gs_9 k_gs_10 k_gs_16 k_gs_6
      refine (CT0.out _ _ ⟨_, rfl, HGs10.out⟩).mono ?_
      rintro e wb8 ⟨v8, rfl, ⟨x8, rfl, hg8⟩, hb8⟩
      have HSs9 := hide (HSs8.out.below hb8 HSs8.out.lt)
      have HSu8 := hide (HSu7.out.below hb8 HSu7.out.lt)
      have HSd8 := hide (HSd7.out.below hb8 HSd7.out.lt)
      have HSv2 := hide (HSv1.out.below hb8 HSv1.out.lt)
      have HGs11 := hide (HGs10.out.low hb8)
      have HGu8 := hide (HGu7.out.low hb8)
      have HGd8 := hide (HGd7.out.low hb8)
      have HGw6 := hide (HGw5.out.low hb8)
      have HGy5 := hide (HGy4.out.low hb8)
      have HGv4 := hide (HGv3.out.low hb8)
      have LO12 := hide (LO11.out.trans (hb8.mono LO11.out.size))
      clear HSs8 HSu7 HSd7 HSv1 HGs10 HGu7 HGd7 HGw5 HGy4 HGv3 LO11 hb8
      obtain ⟨A8, c8, rfl⟩ := gv_slice hg8
      have HGt1 := hide hg8
      clear hg8
      go_upto_region 10 with (first | (refine wpList_alloc_scr rfl rfl ?_; intro gt wagt csgt hBgt hzgt hbgt hlgt) | (refine wpList_store_scr hBgt hzgt rfl _ _ rfl rfl rfl rfl ?_; intro wsgt hSgt hkgt hqgt))
      have ne_gs_gt : gs ≠ gt := by have := HSs9.out.lt; omega
      have ne_gu_gt : gu ≠ gt := by have := HSu8.out.lt; omega
      have ne_gd_gt : gd ≠ gt := by have := HSd8.out.lt; omega
      have ne_gv__gt : gv_ ≠ gt := by have := HSv2.out.lt; omega
      have le_gt : w.heap.size ≤ gt := by have := LO12.out.size; omega
      have HSs10 := hide (HSs9.out.below hbgt HSs9.out.lt)
      have HSu9 := hide (HSu8.out.below hbgt HSu8.out.lt)
      have HSd9 := hide (HSd8.out.below hbgt HSd8.out.lt)
      have HSv3 := hide (HSv2.out.below hbgt HSv2.out.lt)
      have HGs12 := hide (HGs11.out.low hbgt)
      have HGu9 := hide (HGu8.out.low hbgt)
      have HGd9 := hide (HGd8.out.low hbgt)
      have HGw7 := hide (HGw6.out.low hbgt)
      have HGy6 := hide (HGy5.out.low hbgt)
      have HGv5 := hide (HGv4.out.low hbgt)
      have HGt2 := hide (HGt1.out.low hbgt)
      have LO13 := hide (LO12.out.trans (hbgt.mono LO12.out.size))
      clear HSs9 HSu8 HSd8 HSv2 HGs11 HGu8 HGd8 HGw6 HGy5 HGv4 HGt1 LO12 hbgt
      have HSs11 := hide (HSs10.out.kept hkgt (by simp; first | exact ne_gs_gt | exact Ne.symm ne_gt_gs))
      have HSu10 := hide (HSu9.out.kept hkgt (by simp; first | exact ne_gu_gt | exact Ne.symm ne_gt_gu))
      have HSd10 := hide (HSd9.out.kept hkgt (by simp; first | exact ne_gd_gt | exact Ne.symm ne_gt_gd))
      have HSv4 := hide (HSv3.out.kept hkgt (by simp; first | exact ne_gv__gt | exact Ne.symm ne_gt_gv_))
      have HGs13 := hide (HGs12.out.kept hBgt (by decide) hkgt)
      have HGu10 := hide (HGu9.out.kept hBgt (by decide) hkgt)
      have HGd10 := hide (HGd9.out.kept hBgt (by decide) hkgt)
      have HGw8 := hide (HGw7.out.kept hBgt (by decide) hkgt)
      have HGy7 := hide (HGy6.out.kept hBgt (by decide) hkgt)
      have HGv6 := hide (HGv5.out.kept hBgt (by decide) hkgt)
      have HGt3 := hide (HGt2.out.kept hBgt (by decide) hkgt)
      have LO14 := hide (LO13.out.trans (hkgt.toBelow LO13.out.size (fun k hh => by simp at hh; omega)))
      clear HSs10 HSu9 HSd9 HSv3 HGs12 HGu9 HGd9 HGw7 HGy6 HGv5 HGt2 LO13
      have HSt1 := hide hSgt
      clear hSgt hkgt hBgt hlgt
      have k_gs_6 := (show _ = some (.int .i64 (S.top : Nat) : Value) from HSs11.out.c6)
      go_wp2_with fail
      clear k_gs_6
      have HTG8 : Hid (IsG wsgt S.g (gv S.g.rows S.g.cols (.slice A8 (S.g.rows * S.g.cols) c8))) := hide (by have := HGt3.out; rw [ETG.out] at this; exact this)
      have HTS8 : Hid (SBox wsgt gt (.slice A8 (S.g.rows * S.g.cols) c8) (TF S.top)) := hide (by have := HSt1.out; rw [ETG.out] at this; exact this)
      skip
      go_loopw [11] (fun i wr => ∃ (k : Nat) (A : Option Addr) (c : Nat), S.top ≤ k ∧ k ≤ S.bot ∧ i = .int .i64 k ∧ Hid (SBox wr gt (.slice A (S.g.rows * S.g.cols) c) (TF k)) ∧ Hid (IsG wr S.g (gv S.g.rows S.g.cols (.slice A (S.g.rows * S.g.cols) c))) ∧ Hid (Kept [some gt] wsgt wr)) (fun i _ => S.bot - (intOf i).toNat)
      case atStart => exact ⟨S.top, A8, c8, Nat.le_refl _, htop, rfl, HTS8, HTG8, hide (Kept.refl _ _)⟩
      case round =>
        obtain ⟨k, A, c, hk1, hk2, rfl, HTk, HGk, HKk⟩ := hrel
        have k7 : wr.cell? ⟨gs, 7, none⟩ = some (.int .i64 (S.bot : Nat)) := (HSs11.out.kept HKk.out (by simp; exact ne_gs_gt)).c7
        by_cases hk : k < S.bot
        · skip
          go_wp2_with (refine wpList_load_scr HTk.out rfl _ rfl rfl ?_)
          refine (CFD.out k hk _ _ ⟨_, rfl, by rw [ETG.out]; exact HGk.out⟩).mono ?_
          rintro e wb9 ⟨v9, rfl, ⟨x9, rfl, hg9⟩, hb9⟩
          rw [ETG.out] at hg9
          obtain ⟨A9, c9, rfl⟩ := gv_slice hg9
          have HT9 := hide (HTk.out.below hb9 HTk.out.lt)
          have HK9 := hide (HKk.out.below hb9)
          go_wp2_with (refine wpList_store_scr HT9.out (scA_size _ _) rfl _ _ rfl rfl rfl rfl ?_; intro wsk hSk hkk hqk)
          go_roundw
          case rel => exact ⟨k + 1, A9, c9, by omega, by omega, by go_num, hide hSk, hide (hg9.kept HT9.out (by decide) hkk), hide (HK9.out.trans hkk (fun x hx => From.mem hx))⟩
          case measure => simp [intOf]; omega
        · skip
          obtain rfl : k = S.bot := by omega
          clear k7 hk hk1 hk2
          have HSs12 := hide (HSs11.out.kept HKk.out (by simp; first | exact ne_gs_gt | exact Ne.symm ne_gt_gs))
          have HSu11 := hide (HSu10.out.kept HKk.out (by simp; first | exact ne_gu_gt | exact Ne.symm ne_gt_gu))
          have HSd11 := hide (HSd10.out.kept HKk.out (by simp; first | exact ne_gd_gt | exact Ne.symm ne_gt_gd))
          have HSv5 := hide (HSv4.out.kept HKk.out (by simp; first | exact ne_gv__gt | exact Ne.symm ne_gt_gv_))
          have HGs14 := hide (HGs13.out.kept HSt1.out (by decide) HKk.out)
          have HGu11 := hide (HGu10.out.kept HSt1.out (by decide) HKk.out)
          have HGd11 := hide (HGd10.out.kept HSt1.out (by decide) HKk.out)
          have HGw9 := hide (HGw8.out.kept HSt1.out (by decide) HKk.out)
          have HGy8 := hide (HGy7.out.kept HSt1.out (by decide) HKk.out)
          have HGv7 := hide (HGv6.out.kept HSt1.out (by decide) HKk.out)
          have HGt4 := hide (HGt3.out.kept HSt1.out (by decide) HKk.out)
          have LO15 := hide (LO14.out.trans (HKk.out.toBelow LO14.out.size (fun k hh => by simp at hh; omega)))
          clear HSs11 HSu10 HSd10 HSv4 HGs13 HGu10 HGd10 HGw8 HGy7 HGv6 HGt3 LO14
          have HTk_0 := HTk
          clear HTk
          have HGk_0 := HGk
          clear HGk
          have k_gt_3 := (show _ = some (.int .i64 (S.bot : Nat) : Value) from (HTk_0.out.c3).trans (by first | (rw [ETR.out]; done) | (rw [ETR.out]; rfl)))
          have k_gt_2 := (show _ = some (.slice A (S.g.rows * S.g.cols) c : Value) from HTk_0.out.c2)
          have k_gs_7 := (show _ = some (.int .i64 (S.bot : Nat) : Value) from HSs12.out.c7)
          have k_gs_2 := (show _ = some (.slice A1 (S.g.rows * S.g.cols) c1 : Value) from HSs12.out.c2)
          have k_gs_6 := (show _ = some (.int .i64 (S.top : Nat) : Value) from HSs12.out.c6)
          have SC := hide (fun c c' => same_cells _ _ _ _ _ _ c _ c' _ (isg_seen HGk_0.out).1 (isg_seen HGs14.out).1 (by omega))
          go_wp2_with fail
          refine (SC.out _ _).mono ?_
          rintro e wq ⟨rfl, q, hq⟩
          have hbq : Below wr.heap.size wr wq := by rw [← hq]; exact below_drewN (Below.refl _ _) q
          clear SC hq
          clear k_gt_3 k_gt_2 k_gs_7 k_gs_2 k_gs_6
          have HSs13 := hide (HSs12.out.below hbq HSs12.out.lt)
          have HSu12 := hide (HSu11.out.below hbq HSu11.out.lt)
          have HSd12 := hide (HSd11.out.below hbq HSd11.out.lt)
          have HSv6 := hide (HSv5.out.below hbq HSv5.out.lt)
          have HTk_1 := hide (HTk_0.out.below hbq HTk_0.out.lt)
          have HGs15 := hide (HGs14.out.low hbq)
          have HGu12 := hide (HGu11.out.low hbq)
          have HGd12 := hide (HGd11.out.low hbq)
          have HGw10 := hide (HGw9.out.low hbq)
          have HGy9 := hide (HGy8.out.low hbq)
          have HGv8 := hide (HGv7.out.low hbq)
          have HGt5 := hide (HGt4.out.low hbq)
          have HGk_1 := hide (HGk_0.out.low hbq)
          have LO16 := hide (LO15.out.trans (hbq.mono LO15.out.size))
          clear HSs12 HSu11 HSd11 HSv5 HTk_0 HGs14 HGu11 HGd11 HGw9 HGy8 HGv7 HGt4 HGk_0 LO15 hbq
          have k_gs_6 := (show _ = some (.int .i64 (S.top : Nat) : Value) from HSs13.out.c6)
          go_wp2_with (first | (refine wpList_load_scr HTk_1.out rfl _ rfl rfl ?_))
          clear k_gs_6
          refine (CT2.out _ _ ⟨_, rfl, by rw [ETG.out]; exact HGk_1.out⟩).mono ?_
          rintro e wb10 ⟨v10, rfl, ⟨x10, rfl, hg10⟩, hb10⟩
          have HSs14 := hide (HSs13.out.below hb10 HSs13.out.lt)
          have HSu13 := hide (HSu12.out.below hb10 HSu12.out.lt)
          have HSd13 := hide (HSd12.out.below hb10 HSd12.out.lt)
          have HSv7 := hide (HSv6.out.below hb10 HSv6.out.lt)
          have HTk_2 := hide (HTk_1.out.below hb10 HTk_1.out.lt)
          have HGs16 := hide (HGs15.out.low hb10)
          have HGu13 := hide (HGu12.out.low hb10)
          have HGd13 := hide (HGd12.out.low hb10)
          have HGw11 := hide (HGw10.out.low hb10)
          have HGy10 := hide (HGy9.out.low hb10)
          have HGv9 := hide (HGv8.out.low hb10)
          have HGt6 := hide (HGt5.out.low hb10)
          have HGk_2 := hide (HGk_1.out.low hb10)
          have LO17 := hide (LO16.out.trans (hb10.mono LO16.out.size))
          clear HSs13 HSu12 HSd12 HSv6 HTk_1 HGs15 HGu12 HGd12 HGw10 HGy9 HGv8 HGt5 HGk_1 LO16 hb10
          obtain ⟨A10, c10, rfl⟩ := gv_slice hg10
          have HGp1 := hide hg10
          clear hg10
          go_wp2_with fail
          refine (CBK.out _ _ ⟨_, rfl, HGp1.out⟩).mono ?_
          rintro e wb11 ⟨v11, rfl, ⟨x11, rfl, hg11⟩, hb11⟩
          have HSs15 := hide (HSs14.out.below hb11 HSs14.out.lt)
          have HSu14 := hide (HSu13.out.below hb11 HSu13.out.lt)
          have HSd14 := hide (HSd13.out.below hb11 HSd13.out.lt)
          have HSv8 := hide (HSv7.out.below hb11 HSv7.out.lt)
          have HTk_3 := hide (HTk_2.out.below hb11 HTk_2.out.lt)
          have HGs17 := hide (HGs16.out.low hb11)
          have HGu14 := hide (HGu13.out.low hb11)
          have HGd14 := hide (HGd13.out.low hb11)
          have HGw12 := hide (HGw11.out.low hb11)
          have HGy11 := hide (HGy10.out.low hb11)
          have HGv10 := hide (HGv9.out.low hb11)
          have HGt7 := hide (HGt6.out.low hb11)
          have HGk_3 := hide (HGk_2.out.low hb11)
          have HGp2 := hide (HGp1.out.low hb11)
          have LO18 := hide (LO17.out.trans (hb11.mono LO17.out.size))
          clear HSs14 HSu13 HSd13 HSv7 HTk_2 HGs16 HGu13 HGd13 HGw11 HGy10 HGv9 HGt6 HGk_2 HGp1 LO17 hb11
          obtain ⟨A11, c11, rfl⟩ := gv_slice hg11
          have HGq1 := hide hg11
          clear hg11
          go_upto_region 17 with (first | (refine wpList_alloc_scr rfl rfl ?_; intro gw wagw csgw hBgw hzgw hbgw hlgw) | (refine wpList_store_scr hBgw hzgw rfl _ _ rfl rfl rfl rfl ?_; intro wsgw hSgw hkgw hqgw))
          have ne_gs_gw : gs ≠ gw := by have := HSs15.out.lt; omega
          have ne_gu_gw : gu ≠ gw := by have := HSu14.out.lt; omega
          have ne_gd_gw : gd ≠ gw := by have := HSd14.out.lt; omega
          have ne_gv__gw : gv_ ≠ gw := by have := HSv8.out.lt; omega
          have ne_gt_gw : gt ≠ gw := by have := HTk_3.out.lt; omega
          have le_gw : w.heap.size ≤ gw := by have := LO18.out.size; omega
          have HSs16 := hide (HSs15.out.below hbgw HSs15.out.lt)
          have HSu15 := hide (HSu14.out.below hbgw HSu14.out.lt)
          have HSd15 := hide (HSd14.out.below hbgw HSd14.out.lt)
          have HSv9 := hide (HSv8.out.below hbgw HSv8.out.lt)
          have HTk_4 := hide (HTk_3.out.below hbgw HTk_3.out.lt)
          have HGs18 := hide (HGs17.out.low hbgw)
          have HGu15 := hide (HGu14.out.low hbgw)
          have HGd15 := hide (HGd14.out.low hbgw)
          have HGw13 := hide (HGw12.out.low hbgw)
          have HGy12 := hide (HGy11.out.low hbgw)
          have HGv11 := hide (HGv10.out.low hbgw)
          have HGt8 := hide (HGt7.out.low hbgw)
          have HGk_4 := hide (HGk_3.out.low hbgw)
          have HGp3 := hide (HGp2.out.low hbgw)
          have HGq2 := hide (HGq1.out.low hbgw)
          have LO19 := hide (LO18.out.trans (hbgw.mono LO18.out.size))
          clear HSs15 HSu14 HSd14 HSv8 HTk_3 HGs17 HGu14 HGd14 HGw12 HGy11 HGv10 HGt7 HGk_3 HGp2 HGq1 LO18 hbgw
          have HSs17 := hide (HSs16.out.kept hkgw (by simp; first | exact ne_gs_gw | exact Ne.symm ne_gw_gs))
          have HSu16 := hide (HSu15.out.kept hkgw (by simp; first | exact ne_gu_gw | exact Ne.symm ne_gw_gu))
          have HSd16 := hide (HSd15.out.kept hkgw (by simp; first | exact ne_gd_gw | exact Ne.symm ne_gw_gd))
          have HSv10 := hide (HSv9.out.kept hkgw (by simp; first | exact ne_gv__gw | exact Ne.symm ne_gw_gv_))
          have HTk_5 := hide (HTk_4.out.kept hkgw (by simp; first | exact ne_gt_gw | exact Ne.symm ne_gw_gt))
          have HGs19 := hide (HGs18.out.kept hBgw (by decide) hkgw)
          have HGu16 := hide (HGu15.out.kept hBgw (by decide) hkgw)
          have HGd16 := hide (HGd15.out.kept hBgw (by decide) hkgw)
          have HGw14 := hide (HGw13.out.kept hBgw (by decide) hkgw)
          have HGy13 := hide (HGy12.out.kept hBgw (by decide) hkgw)
          have HGv12 := hide (HGv11.out.kept hBgw (by decide) hkgw)
          have HGt9 := hide (HGt8.out.kept hBgw (by decide) hkgw)
          have HGk_5 := hide (HGk_4.out.kept hBgw (by decide) hkgw)
          have HGp4 := hide (HGp3.out.kept hBgw (by decide) hkgw)
          have HGq3 := hide (HGq2.out.kept hBgw (by decide) hkgw)
          have LO20 := hide (LO19.out.trans (hkgw.toBelow LO19.out.size (fun k hh => by simp at hh; omega)))
          clear HSs16 HSu15 HSd15 HSv9 HTk_4 HGs18 HGu15 HGd15 HGw13 HGy12 HGv11 HGt8 HGk_4 HGp3 HGq2 LO19
          have HSq1 := hide hSgw
          clear hSgw hkgw hBgw hlgw
          refine wp_region_gj (n := 178) [] (fun _ => #[]) [(0, 0, 0, 0, 0), (1, 0, 0, 0, 0), (0, 0, 0, 0, 0), (0, 0, 0, 0, 0), (0, 0, 0, 0, 0), (0, 0, 0, 0, 0), (0, 0, 0, 0, 0), (0, 0, 0, 0, 0), (0, 0, 0, 0, 0), (0, 0, 0, 0, 0), (0, 0, 0, 0, 0), (0, 0, 0, 0, 0), (0, 0, 0, 0, 0), (0, 0, 0, 0, 0), (0, 0, 0, 0, 0), (1, 0, 0, 0, 0), (0, 0, 0, 0, 0), (0, 0, 0, 0, 0), (0, 0, 0, 0, 0), (0, 0, 0, 0, 0), (0, 0, 0, 0, 0), (1, 0, 0, 0, 0), (0, 0, 0, 0, 0), (0, 0, 0, 0, 0), (0, 0, 0, 0, 0), (0, 0, 0, 0, 0), (0, 0, 0, 0, 0), (0, 0, 0, 0, 0), (0, 0, 0, 0, 0)] (fun j => [(.agg (scA (.slice A (S.g.rows * S.g.cols) c) (TF S.bot))), undef, (.int .i64 (S.bot : Nat)), (.pointer (some ⟨gs, 7, none⟩)), (.int .i64 (S.bot : Nat)), (.bool true), (.bool true), (.pointer (some ⟨gw, 3, none⟩)), (.int .i64 (Wb.row : Nat)), (.pointer (some ⟨gs, 6, none⟩)), (.int .i64 (S.top : Nat)), (.bool true), (.bool true), (.bool true), (.agg (scA (.slice A1 (S.g.rows * S.g.cols) c1) S)), undef, (.int .i64 (0 : Nat)), (.bool true), (.bool true), (.bool true), (.agg (scA (.slice A1 (S.g.rows * S.g.cols) c1) S)), undef, (.bool false), (.bool true), (.bool true), (.bool true), (.bool true), (.bool true), (.bool true)].getD j undef) [none, some (ScrV FB), none, none, none, none, none, none, none, none, none, none, none, none, none, some (ScrV H), none, none, none, none, none, some (ScrV H)] (fun _ => 0) (by kernel_rfl) (by kernel_rfl) (by kernel_rfl) rfl (by kernel_rfl) (gno4 rfl) (fun i j h => by revert h; exact gno4 (p := fun _ => _) rfl i) (AllG.none_ (AllG.some_ (ScrV.stays (by kernel_rfl)) (AllG.none_ (AllG.none_ (AllG.none_ (AllG.none_ (AllG.none_ (AllG.none_ (AllG.none_ (AllG.none_ (AllG.none_ (AllG.none_ (AllG.none_ (AllG.none_ (AllG.none_ (AllG.some_ (ScrV.stays (by kernel_rfl)) (AllG.none_ (AllG.none_ (AllG.none_ (AllG.none_ (AllG.none_ (AllG.some_ (ScrV.stays (by kernel_rfl)) (AllG.nil _))))))))))))))))))))))) (fun hGS => cases29 ⟨?_, ?_, ?_, ?_, ?_, ?_, ?_, ?_, ?_, ?_, ?_, ?_, ?_, ?_, ?_, ?_, ?_, ?_, ?_, ?_, ?_, ?_, ?_, ?_, ?_, ?_, ?_, ?_, ?_⟩) ?_
          · intro L a w' hL hsame hsz hJ hdep hcl
            have hb := hJ.kept.toBelow (Nat.le_refl _) (by simp)
            have e0 : a.eval (.tmp 10) = (.pointer (some ⟨gt, 0, none⟩)) := eval_base hsame (by kernel_rfl)
            have hx := hJ.keptBox ((show Box _ gt 32 (scA (.slice A (S.g.rows * S.g.cols) c) (TF S.bot)) from HTk_5.out)) (by simp)
            exact Step.val _ rfl rfl (wanted_none rfl) (.agg (scA (.slice A (S.g.rows * S.g.cols) c) (TF S.bot))) w' (fun ρ hρ => exec_load_any hx rfl ρ _ rfl ((hρ _).symm.trans e0)) (hJ.val hGS hcl hL rfl (Below.refl _ _) _ rfl)
          · intro L a w' hL hsame hsz hJ hdep hcl
            have hb := hJ.kept.toBelow (Nat.le_refl _) (by simp)
            have e0 : a.eval (.tmp 150) = (.agg (scA (.slice A (S.g.rows * S.g.cols) c) (TF S.bot))) := eval_slot (j := 0) (by kernel_rfl) (hJ.valOf (by decide) (dep_of hdep 0 (by kernel_rfl)) rfl rfl)
            refine Step.call _ rfl rfl (wanted_none rfl) 10 #[.agg (scA (.slice A (S.g.rows * S.g.cols) c) (TF S.bot))] (fun ρ hρ => ?_) ?_
            · skip
              rw [hρ] at e0
              have ef : ρ (.func 10) = .func (.func 10) #[] #[] := (hρ _).symm
              clear hJ hsame hdep hcl hρ hsz hb
              go_simp
            · refine (CFB.out _ _ ⟨_, rfl, by rw [ETG.out]; exact HGk_5.out.low hb⟩).mono ?_
              rintro e w2 ⟨v, rfl, hi, bb⟩
              exact ⟨_, rfl, hJ.pred hGS hcl hL rfl bb _ (scrV_of hi)⟩
          · intro L a w' hL hsame hsz hJ hdep hcl
            have hb := hJ.kept.toBelow (Nat.le_refl _) (by simp)
            obtain ⟨A1', c1', hv1, hi1⟩ := (show (ScrV FB) (valOf _ 1 a) w' from hJ.predOf (by decide) (dep_of hdep 1 (by kernel_rfl)) rfl)
            have e0 : a.eval (.tmp 151) = .agg (scA (.slice A1' (FB.g.rows * FB.g.cols) c1') FB) := eval_slot (j := 1) (by kernel_rfl) hv1
            refine Step.val _ rfl rfl (wanted_none rfl) (.int .i64 (S.bot : Nat)) w' (fun ρ hρ => ?_) (hJ.val hGS hcl hL rfl (Below.refl _ _) _ rfl)
            rw [hρ] at e0
            clear hJ hsame hdep hcl hρ hsz hb
            exact (exec_field_row ρ _ rfl e0).trans (by rw [EFR.out])
          · intro L a w' hL hsame hsz hJ hdep hcl
            have hb := hJ.kept.toBelow (Nat.le_refl _) (by simp)
            have e0 : a.eval (.tmp 5) = (.pointer (some ⟨gs, 0, none⟩)) := eval_base hsame (by kernel_rfl)
            refine Step.val _ rfl rfl (wanted_none rfl) (.pointer (some ⟨gs, 7, none⟩)) w' (fun ρ hρ => ?_) (hJ.val hGS hcl hL rfl (Below.refl _ _) _ rfl)
            rw [hρ] at e0
            clear hJ hsame hdep hcl hρ hsz hb
            go_simp
          · intro L a w' hL hsame hsz hJ hdep hcl
            have hb := hJ.kept.toBelow (Nat.le_refl _) (by simp)
            have e0 : a.eval (.tmp 153) = (.pointer (some ⟨gs, 7, none⟩)) := eval_slot (j := 3) (by kernel_rfl) (hJ.valOf (by decide) (dep_of hdep 3 (by kernel_rfl)) rfl rfl)
            have hx := hJ.keptBox ((show Box _ gs 32 (scA (.slice A1 (S.g.rows * S.g.cols) c1) S) from HSs17.out)) (by simp)
            have q0 : w'.cell? ⟨gs, 7, none⟩ = some (.int .i64 (S.bot : Nat)) := hx.cell 7
            refine Step.val _ rfl rfl (wanted_none rfl) (.int .i64 (S.bot : Nat)) w' (fun ρ hρ => ?_) (hJ.val hGS hcl hL rfl (Below.refl _ _) _ rfl)
            clear hx
            rw [hρ] at e0
            clear hJ hsame hdep hcl hρ hsz hb
            go_simp
          · intro L a w' hL hsame hsz hJ hdep hcl
            have hb := hJ.kept.toBelow (Nat.le_refl _) (by simp)
            have e0 : a.eval (.tmp 152) = (.int .i64 (S.bot : Nat)) := eval_slot (j := 2) (by kernel_rfl) (hJ.valOf (by decide) (dep_of hdep 2 (by kernel_rfl)) rfl rfl)
            have e1 : a.eval (.tmp 154) = (.int .i64 (S.bot : Nat)) := eval_slot (j := 4) (by kernel_rfl) (hJ.valOf (by decide) (dep_of hdep 4 (by kernel_rfl)) rfl rfl)
            refine Step.val _ rfl rfl (wanted_none rfl) (.bool true) w' (fun ρ hρ => ?_) (hJ.val hGS hcl hL rfl (Below.refl _ _) _ rfl)
            rw [hρ] at e0 e1
            clear hJ hsame hdep hcl hρ hsz hb
            go_simp
          · intro L a w' hL hsame hsz hJ hdep hcl
            have hb := hJ.kept.toBelow (Nat.le_refl _) (by simp)
            have e0 : a.eval (.tmp 155) = (.bool true) := eval_slot (j := 5) (by kernel_rfl) (hJ.valOf (by decide) (dep_of hdep 5 (by kernel_rfl)) rfl rfl)
            refine Step.val _ rfl rfl (wanted_none rfl) (.bool true) w' (fun ρ hρ => ?_) (hJ.val hGS hcl hL rfl (Below.refl _ _) _ rfl)
            rw [hρ] at e0
            clear hJ hsame hdep hcl hρ hsz hb
            go_simp
          · intro L a w' hL hsame hsz hJ hdep hcl
            have gd : valOf _ 6 a = .bool true := hJ.valOf (by decide) (dep_of hdep 6 (by kernel_rfl)) rfl rfl
            have hb := hJ.kept.toBelow (Nat.le_refl _) (by simp)
            have e0 : a.eval (.tmp 12) = (.pointer (some ⟨gw, 0, none⟩)) := eval_base hsame (by kernel_rfl)
            refine Step.val _ rfl rfl (wanted_some (g := 6) (b := true) rfl gd) (.pointer (some ⟨gw, 3, none⟩)) w' (fun ρ hρ => ?_) (hJ.val hGS hcl hL rfl (Below.refl _ _) _ rfl)
            rw [hρ] at e0
            clear hJ hsame hdep hcl hρ hsz hb gd
            go_simp
          · intro L a w' hL hsame hsz hJ hdep hcl
            have gd : valOf _ 6 a = .bool true := hJ.valOf (by decide) (dep_of hdep 6 (by kernel_rfl)) rfl rfl
            have hb := hJ.kept.toBelow (Nat.le_refl _) (by simp)
            have e0 : a.eval (.tmp 157) = (.pointer (some ⟨gw, 3, none⟩)) := eval_slot (j := 7) (by kernel_rfl) (hJ.valOf (by decide) (dep_of hdep 7 (by kernel_rfl)) rfl rfl)
            have hx := hJ.keptBox ((show Box _ gw 32 (scA (.slice A11 (Wb.g.rows * Wb.g.cols) c11) Wb) from HSq1.out)) (by simp)
            have q0 : w'.cell? ⟨gw, 3, none⟩ = some (.int .i64 (Wb.row : Nat)) := hx.cell 3
            refine Step.val _ rfl rfl (wanted_some (g := 6) (b := true) rfl gd) (.int .i64 (Wb.row : Nat)) w' (fun ρ hρ => ?_) (hJ.val hGS hcl hL rfl (Below.refl _ _) _ rfl)
            clear hx
            rw [hρ] at e0
            clear hJ hsame hdep hcl hρ hsz hb gd
            go_simp
          · intro L a w' hL hsame hsz hJ hdep hcl
            have gd : valOf _ 6 a = .bool true := hJ.valOf (by decide) (dep_of hdep 6 (by kernel_rfl)) rfl rfl
            have hb := hJ.kept.toBelow (Nat.le_refl _) (by simp)
            have e0 : a.eval (.tmp 5) = (.pointer (some ⟨gs, 0, none⟩)) := eval_base hsame (by kernel_rfl)
            refine Step.val _ rfl rfl (wanted_some (g := 6) (b := true) rfl gd) (.pointer (some ⟨gs, 6, none⟩)) w' (fun ρ hρ => ?_) (hJ.val hGS hcl hL rfl (Below.refl _ _) _ rfl)
            rw [hρ] at e0
            clear hJ hsame hdep hcl hρ hsz hb gd
            go_simp
          · intro L a w' hL hsame hsz hJ hdep hcl
            have gd : valOf _ 6 a = .bool true := hJ.valOf (by decide) (dep_of hdep 6 (by kernel_rfl)) rfl rfl
            have hb := hJ.kept.toBelow (Nat.le_refl _) (by simp)
            have e0 : a.eval (.tmp 159) = (.pointer (some ⟨gs, 6, none⟩)) := eval_slot (j := 9) (by kernel_rfl) (hJ.valOf (by decide) (dep_of hdep 9 (by kernel_rfl)) rfl rfl)
            have hx := hJ.keptBox ((show Box _ gs 32 (scA (.slice A1 (S.g.rows * S.g.cols) c1) S) from HSs17.out)) (by simp)
            have q0 : w'.cell? ⟨gs, 6, none⟩ = some (.int .i64 (S.top : Nat)) := hx.cell 6
            refine Step.val _ rfl rfl (wanted_some (g := 6) (b := true) rfl gd) (.int .i64 (S.top : Nat)) w' (fun ρ hρ => ?_) (hJ.val hGS hcl hL rfl (Below.refl _ _) _ rfl)
            clear hx
            rw [hρ] at e0
            clear hJ hsame hdep hcl hρ hsz hb gd
            go_simp
          · intro L a w' hL hsame hsz hJ hdep hcl
            have gd : valOf _ 6 a = .bool true := hJ.valOf (by decide) (dep_of hdep 6 (by kernel_rfl)) rfl rfl
            have hb := hJ.kept.toBelow (Nat.le_refl _) (by simp)
            have e0 : a.eval (.tmp 158) = (.int .i64 (Wb.row : Nat)) := eval_slot (j := 8) (by kernel_rfl) (hJ.valOf (by decide) (dep_of hdep 8 (by kernel_rfl)) rfl rfl)
            have e1 : a.eval (.tmp 160) = (.int .i64 (S.top : Nat)) := eval_slot (j := 10) (by kernel_rfl) (hJ.valOf (by decide) (dep_of hdep 10 (by kernel_rfl)) rfl rfl)
            refine Step.val _ rfl rfl (wanted_some (g := 6) (b := true) rfl gd) (.bool true) w' (fun ρ hρ => ?_) (hJ.val hGS hcl hL rfl (Below.refl _ _) _ rfl)
            rw [hρ] at e0 e1
            clear hJ hsame hdep hcl hρ hsz hb gd
            go_simp
            exact congrArg (fun n : Nat => (n : Int)) EWR.out
          · intro L a w' hL hsame hsz hJ hdep hcl
            have hb := hJ.kept.toBelow (Nat.le_refl _) (by simp)
            have e0 : a.eval (.tmp 156) = (.bool true) := eval_slot (j := 6) (by kernel_rfl) (hJ.valOf (by decide) (dep_of hdep 6 (by kernel_rfl)) rfl rfl)
            have e1 : a.eval (.tmp 161) = (.bool true) := eval_slot (j := 11) (by kernel_rfl) (hJ.valOf (by decide) (dep_of hdep 11 (by kernel_rfl)) rfl rfl)
            refine Step.val _ rfl rfl (wanted_none rfl) (.bool true) w' (fun ρ hρ => ?_) (hJ.val hGS hcl hL rfl (Below.refl _ _) _ rfl)
            rw [hρ] at e0 e1
            have ec0 : ρ (.const (.bool false)) = (.bool false) := (hρ _).symm
            clear hJ hsame hdep hcl hρ hsz hb
            go_simp
          · intro L a w' hL hsame hsz hJ hdep hcl
            have hb := hJ.kept.toBelow (Nat.le_refl _) (by simp)
            have e0 : a.eval (.tmp 162) = (.bool true) := eval_slot (j := 12) (by kernel_rfl) (hJ.valOf (by decide) (dep_of hdep 12 (by kernel_rfl)) rfl rfl)
            refine Step.val _ rfl rfl (wanted_none rfl) (.bool true) w' (fun ρ hρ => ?_) (hJ.val hGS hcl hL rfl (Below.refl _ _) _ rfl)
            rw [hρ] at e0
            clear hJ hsame hdep hcl hρ hsz hb
            go_simp
          · intro L a w' hL hsame hsz hJ hdep hcl
            have gd : valOf _ 13 a = .bool true := hJ.valOf (by decide) (dep_of hdep 13 (by kernel_rfl)) rfl rfl
            have hb := hJ.kept.toBelow (Nat.le_refl _) (by simp)
            have e0 : a.eval (.tmp 5) = (.pointer (some ⟨gs, 0, none⟩)) := eval_base hsame (by kernel_rfl)
            have hx := hJ.keptBox ((show Box _ gs 32 (scA (.slice A1 (S.g.rows * S.g.cols) c1) S) from HSs17.out)) (by simp)
            exact Step.val _ rfl rfl (wanted_some (g := 13) (b := true) rfl gd) (.agg (scA (.slice A1 (S.g.rows * S.g.cols) c1) S)) w' (fun ρ hρ => exec_load_any hx rfl ρ _ rfl ((hρ _).symm.trans e0)) (hJ.val hGS hcl hL rfl (Below.refl _ _) _ rfl)
          · intro L a w' hL hsame hsz hJ hdep hcl
            have gd : valOf _ 13 a = .bool true := hJ.valOf (by decide) (dep_of hdep 13 (by kernel_rfl)) rfl rfl
            have hb := hJ.kept.toBelow (Nat.le_refl _) (by simp)
            have e0 : a.eval (.tmp 164) = (.agg (scA (.slice A1 (S.g.rows * S.g.cols) c1) S)) := eval_slot (j := 14) (by kernel_rfl) (hJ.valOf (by decide) (dep_of hdep 14 (by kernel_rfl)) rfl rfl)
            refine Step.call _ rfl rfl (wanted_some (g := 13) (b := true) rfl gd) 23 #[.agg (scA (.slice A1 (S.g.rows * S.g.cols) c1) S)] (fun ρ hρ => ?_) ?_
            · skip
              rw [hρ] at e0
              have ef : ρ (.func 23) = .func (.func 23) #[] #[] := (hρ _).symm
              clear hJ hsame hdep hcl hρ hsz hb gd
              go_simp
            · refine (CHM.out _ _ ⟨_, rfl, (HGs19.out.low hb)⟩).mono ?_
              rintro e w2 ⟨v, rfl, hi, bb⟩
              exact ⟨_, rfl, hJ.pred hGS hcl hL rfl bb _ (scrV_of hi)⟩
          · intro L a w' hL hsame hsz hJ hdep hcl
            have gd : valOf _ 13 a = .bool true := hJ.valOf (by decide) (dep_of hdep 13 (by kernel_rfl)) rfl rfl
            have hb := hJ.kept.toBelow (Nat.le_refl _) (by simp)
            obtain ⟨A15', c15', hv15, hi15⟩ := (show (ScrV H) (valOf _ 15 a) w' from hJ.predOf (by decide) (dep_of hdep 15 (by kernel_rfl)) rfl)
            have e0 : a.eval (.tmp 165) = .agg (scA (.slice A15' (H.g.rows * H.g.cols) c15') H) := eval_slot (j := 15) (by kernel_rfl) hv15
            refine Step.val _ rfl rfl (wanted_some (g := 13) (b := true) rfl gd) (.int .i64 (0 : Nat)) w' (fun ρ hρ => ?_) (hJ.val hGS hcl hL rfl (Below.refl _ _) _ rfl)
            rw [hρ] at e0
            clear hJ hsame hdep hcl hρ hsz hb gd
            exact (exec_field_col ρ _ rfl e0).trans (by rw [EHC.out])
          · intro L a w' hL hsame hsz hJ hdep hcl
            have gd : valOf _ 13 a = .bool true := hJ.valOf (by decide) (dep_of hdep 13 (by kernel_rfl)) rfl rfl
            have hb := hJ.kept.toBelow (Nat.le_refl _) (by simp)
            have e0 : a.eval (.tmp 166) = (.int .i64 (0 : Nat)) := eval_slot (j := 16) (by kernel_rfl) (hJ.valOf (by decide) (dep_of hdep 16 (by kernel_rfl)) rfl rfl)
            refine Step.val _ rfl rfl (wanted_some (g := 13) (b := true) rfl gd) (.bool true) w' (fun ρ hρ => ?_) (hJ.val hGS hcl hL rfl (Below.refl _ _) _ rfl)
            rw [hρ] at e0
            have ec0 : ρ (.const (.int .i64 0)) = (.int .i64 0) := (hρ _).symm
            clear hJ hsame hdep hcl hρ hsz hb gd
            go_simp
          · intro L a w' hL hsame hsz hJ hdep hcl
            have hb := hJ.kept.toBelow (Nat.le_refl _) (by simp)
            have e0 : a.eval (.tmp 163) = (.bool true) := eval_slot (j := 13) (by kernel_rfl) (hJ.valOf (by decide) (dep_of hdep 13 (by kernel_rfl)) rfl rfl)
            have e1 : a.eval (.tmp 167) = (.bool true) := eval_slot (j := 17) (by kernel_rfl) (hJ.valOf (by decide) (dep_of hdep 17 (by kernel_rfl)) rfl rfl)
            refine Step.val _ rfl rfl (wanted_none rfl) (.bool true) w' (fun ρ hρ => ?_) (hJ.val hGS hcl hL rfl (Below.refl _ _) _ rfl)
            rw [hρ] at e0 e1
            have ec0 : ρ (.const (.bool false)) = (.bool false) := (hρ _).symm
            clear hJ hsame hdep hcl hρ hsz hb
            go_simp
          · intro L a w' hL hsame hsz hJ hdep hcl
            have hb := hJ.kept.toBelow (Nat.le_refl _) (by simp)
            have e0 : a.eval (.tmp 168) = (.bool true) := eval_slot (j := 18) (by kernel_rfl) (hJ.valOf (by decide) (dep_of hdep 18 (by kernel_rfl)) rfl rfl)
            refine Step.val _ rfl rfl (wanted_none rfl) (.bool true) w' (fun ρ hρ => ?_) (hJ.val hGS hcl hL rfl (Below.refl _ _) _ rfl)
            rw [hρ] at e0
            clear hJ hsame hdep hcl hρ hsz hb
            go_simp
          · intro L a w' hL hsame hsz hJ hdep hcl
            have gd : valOf _ 19 a = .bool true := hJ.valOf (by decide) (dep_of hdep 19 (by kernel_rfl)) rfl rfl
            have hb := hJ.kept.toBelow (Nat.le_refl _) (by simp)
            have e0 : a.eval (.tmp 5) = (.pointer (some ⟨gs, 0, none⟩)) := eval_base hsame (by kernel_rfl)
            have hx := hJ.keptBox ((show Box _ gs 32 (scA (.slice A1 (S.g.rows * S.g.cols) c1) S) from HSs17.out)) (by simp)
            exact Step.val _ rfl rfl (wanted_some (g := 19) (b := true) rfl gd) (.agg (scA (.slice A1 (S.g.rows * S.g.cols) c1) S)) w' (fun ρ hρ => exec_load_any hx rfl ρ _ rfl ((hρ _).symm.trans e0)) (hJ.val hGS hcl hL rfl (Below.refl _ _) _ rfl)
          · intro L a w' hL hsame hsz hJ hdep hcl
            have gd : valOf _ 19 a = .bool true := hJ.valOf (by decide) (dep_of hdep 19 (by kernel_rfl)) rfl rfl
            have hb := hJ.kept.toBelow (Nat.le_refl _) (by simp)
            have e0 : a.eval (.tmp 170) = (.agg (scA (.slice A1 (S.g.rows * S.g.cols) c1) S)) := eval_slot (j := 20) (by kernel_rfl) (hJ.valOf (by decide) (dep_of hdep 20 (by kernel_rfl)) rfl rfl)
            refine Step.call _ rfl rfl (wanted_some (g := 19) (b := true) rfl gd) 23 #[.agg (scA (.slice A1 (S.g.rows * S.g.cols) c1) S)] (fun ρ hρ => ?_) ?_
            · skip
              rw [hρ] at e0
              have ef : ρ (.func 23) = .func (.func 23) #[] #[] := (hρ _).symm
              clear hJ hsame hdep hcl hρ hsz hb gd
              go_simp
            · refine (CHM.out _ _ ⟨_, rfl, (HGs19.out.low hb)⟩).mono ?_
              rintro e w2 ⟨v, rfl, hi, bb⟩
              exact ⟨_, rfl, hJ.pred hGS hcl hL rfl bb _ (scrV_of hi)⟩
          · intro L a w' hL hsame hsz hJ hdep hcl
            have gd : valOf _ 19 a = .bool true := hJ.valOf (by decide) (dep_of hdep 19 (by kernel_rfl)) rfl rfl
            have hb := hJ.kept.toBelow (Nat.le_refl _) (by simp)
            obtain ⟨A21', c21', hv21, hi21⟩ := (show (ScrV H) (valOf _ 21 a) w' from hJ.predOf (by decide) (dep_of hdep 21 (by kernel_rfl)) rfl)
            have e0 : a.eval (.tmp 171) = .agg (scA (.slice A21' (H.g.rows * H.g.cols) c21') H) := eval_slot (j := 21) (by kernel_rfl) hv21
            refine Step.val _ rfl rfl (wanted_some (g := 19) (b := true) rfl gd) (.bool false) w' (fun ρ hρ => ?_) (hJ.val hGS hcl hL rfl (Below.refl _ _) _ rfl)
            rw [hρ] at e0
            clear hJ hsame hdep hcl hρ hsz hb gd
            exact (exec_field_pend ρ _ rfl e0).trans (by rw [EHP.out])
          · intro L a w' hL hsame hsz hJ hdep hcl
            have gd : valOf _ 19 a = .bool true := hJ.valOf (by decide) (dep_of hdep 19 (by kernel_rfl)) rfl rfl
            have hb := hJ.kept.toBelow (Nat.le_refl _) (by simp)
            have e0 : a.eval (.tmp 172) = (.bool false) := eval_slot (j := 22) (by kernel_rfl) (hJ.valOf (by decide) (dep_of hdep 22 (by kernel_rfl)) rfl rfl)
            refine Step.val _ rfl rfl (wanted_some (g := 19) (b := true) rfl gd) (.bool true) w' (fun ρ hρ => ?_) (hJ.val hGS hcl hL rfl (Below.refl _ _) _ rfl)
            rw [hρ] at e0
            clear hJ hsame hdep hcl hρ hsz hb gd
            go_simp
          · intro L a w' hL hsame hsz hJ hdep hcl
            have hb := hJ.kept.toBelow (Nat.le_refl _) (by simp)
            have e0 : a.eval (.tmp 169) = (.bool true) := eval_slot (j := 19) (by kernel_rfl) (hJ.valOf (by decide) (dep_of hdep 19 (by kernel_rfl)) rfl rfl)
            have e1 : a.eval (.tmp 173) = (.bool true) := eval_slot (j := 23) (by kernel_rfl) (hJ.valOf (by decide) (dep_of hdep 23 (by kernel_rfl)) rfl rfl)
            refine Step.val _ rfl rfl (wanted_none rfl) (.bool true) w' (fun ρ hρ => ?_) (hJ.val hGS hcl hL rfl (Below.refl _ _) _ rfl)
            rw [hρ] at e0 e1
            have ec0 : ρ (.const (.bool false)) = (.bool false) := (hρ _).symm
            clear hJ hsame hdep hcl hρ hsz hb
            go_simp
          · intro L a w' hL hsame hsz hJ hdep hcl
            have hb := hJ.kept.toBelow (Nat.le_refl _) (by simp)
            have e0 : a.eval (.tmp 174) = (.bool true) := eval_slot (j := 24) (by kernel_rfl) (hJ.valOf (by decide) (dep_of hdep 24 (by kernel_rfl)) rfl rfl)
            refine Step.val _ rfl rfl (wanted_none rfl) (.bool true) w' (fun ρ hρ => ?_) (hJ.val hGS hcl hL rfl (Below.refl _ _) _ rfl)
            rw [hρ] at e0
            clear hJ hsame hdep hcl hρ hsz hb
            go_simp
          · intro L a w' hL hsame hsz hJ hdep hcl
            have gd : valOf _ 25 a = .bool true := hJ.valOf (by decide) (dep_of hdep 25 (by kernel_rfl)) rfl rfl
            have hb := hJ.kept.toBelow (Nat.le_refl _) (by simp)
            refine Step.call _ rfl rfl (wanted_some (g := 25) (b := true) rfl gd) 3 #[] (fun ρ hρ => ?_) ?_
            · skip
              have ef : ρ (.func 3) = .func (.func 3) #[] #[] := (hρ _).symm
              clear hJ hsame hdep hcl hρ hsz hb gd
              go_simp
            · refine (cursorRuns_any _ (HSP.out.below (LO20.out.trans (hb.mono LO20.out.size)) (by exact SLT.out))).mono ?_
              rintro e w2 ⟨rfl, bb⟩
              exact ⟨_, rfl, hJ.val hGS hcl hL rfl bb _ rfl⟩
          · intro L a w' hL hsame hsz hJ hdep hcl
            have hb := hJ.kept.toBelow (Nat.le_refl _) (by simp)
            have e0 : a.eval (.tmp 175) = (.bool true) := eval_slot (j := 25) (by kernel_rfl) (hJ.valOf (by decide) (dep_of hdep 25 (by kernel_rfl)) rfl rfl)
            have e1 : a.eval (.tmp 176) = (.bool true) := eval_slot (j := 26) (by kernel_rfl) (hJ.valOf (by decide) (dep_of hdep 26 (by kernel_rfl)) rfl rfl)
            refine Step.val _ rfl rfl (wanted_none rfl) (.bool true) w' (fun ρ hρ => ?_) (hJ.val hGS hcl hL rfl (Below.refl _ _) _ rfl)
            rw [hρ] at e0 e1
            have ec0 : ρ (.const (.bool false)) = (.bool false) := (hρ _).symm
            clear hJ hsame hdep hcl hρ hsz hb
            go_simp
          · intro L a w' hL hsame hsz hJ hdep hcl
            have hb := hJ.kept.toBelow (Nat.le_refl _) (by simp)
            have e0 : a.eval (.tmp 177) = (.bool true) := eval_slot (j := 27) (by kernel_rfl) (hJ.valOf (by decide) (dep_of hdep 27 (by kernel_rfl)) rfl rfl)
            refine Step.val _ rfl rfl (wanted_none rfl) (.bool true) w' (fun ρ hρ => ?_) (hJ.val hGS hcl hL rfl (Below.refl _ _) _ rfl)
            rw [hρ] at e0
            clear hJ hsame hdep hcl hρ hsz hb
            go_simp
          · intro u w' hF
            change Exit.then _ _ Exit.normal (Act.put (Act.put (Act.put (Act.put (Act.put (Act.put (Act.put (Act.put (Act.put (Act.put (Act.put (Act.put (Act.put (Act.put (Act.put (Act.put (Act.put (Act.put (Act.put (Act.put (Act.put (Act.put (Act.put (Act.put (Act.put (Act.put (Act.put (Act.put (Act.put (putAll _ u 0 _) (some 150) (u 0)) (some 151) (u 1)) (some 152) (u 2)) (some 153) (u 3)) (some 154) (u 4)) (some 155) (u 5)) (some 156) (u 6)) (some 157) (u 7)) (some 158) (u 8)) (some 159) (u 9)) (some 160) (u 10)) (some 161) (u 11)) (some 162) (u 12)) (some 163) (u 13)) (some 164) (u 14)) (some 165) (u 15)) (some 166) (u 16)) (some 167) (u 17)) (some 168) (u 18)) (some 169) (u 19)) (some 170) (u 20)) (some 171) (u 21)) (some 172) (u 22)) (some 173) (u 23)) (some 174) (u 24)) (some 175) (u 25)) (some 176) (u 26)) (some 177) (u 27)) (some 4) (u 28)) _
            simp only [putAll]
            have f : u 28 = .bool true := hF.fin0 (j := 28) (by decide) rfl rfl
            have hk := hF.kept.toBelow (Nat.le_refl _) (by simp)
            clear hF
            generalize u 0 = y0
            generalize u 1 = y1
            generalize u 2 = y2
            generalize u 3 = y3
            generalize u 4 = y4
            generalize u 5 = y5
            generalize u 6 = y6
            generalize u 7 = y7
            generalize u 8 = y8
            generalize u 9 = y9
            generalize u 10 = y10
            generalize u 11 = y11
            generalize u 12 = y12
            generalize u 13 = y13
            generalize u 14 = y14
            generalize u 15 = y15
            generalize u 16 = y16
            generalize u 17 = y17
            generalize u 18 = y18
            generalize u 19 = y19
            generalize u 20 = y20
            generalize u 21 = y21
            generalize u 22 = y22
            generalize u 23 = y23
            generalize u 24 = y24
            generalize u 25 = y25
            generalize u 26 = y26
            generalize u 27 = y27
            generalize u 28 = y28 at f ⊢
            subst f
            go_simp
            go_step
            refine wp_ret ?_
            (try simp only [Exit.then, Exit.inBlock])
            refine bodyPost_ret (v := .bool true) (by simp [results, Tryd.results5, go_sem]) rfl ⟨rfl, LO20.out.trans (hk.mono LO20.out.size)⟩
end Go.Proofs.YtbhnipepbckalaaDoor
