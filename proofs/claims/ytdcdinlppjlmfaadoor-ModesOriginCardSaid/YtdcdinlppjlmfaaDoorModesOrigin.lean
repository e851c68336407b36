/- ModesOrigin: with origin the cursor goes home to the margins' first row, without to the screen's; wrap taken away leaves nothing pending. (written by tools/genmodesorigin.py) -/
import Derived.Test.YtdcdinlppjlmfaaDoorModesRuns
import Derived.Test.YtdcdinlppjlmfaaDoorScreenEq
import Derived.Test.YtdcdinlppjlmfaaDoorScrStore
import Derived.Test.YtdcdinlppjlmfaaDoorKept
import Derived.Deep.DeepCutAuto
set_option maxRecDepth 100000
namespace Go.Proofs.YtdcdinlppjlmfaaDoor
open Go Go.RowKit
set_option linter.unusedVariables false
theorem exec_field_shown {x : Value} {s : SN.Sc} {w : World} (ρ : Operand → Value) (o : Oper) {y : Operand} (ho : o.op = .field 32 y 12) (hy : ρ y = .agg (scA x s)) : (execOp ρ o).run Tryd.prog w = .ok (.value (.bool s.shown)) w := by
  have e : (Instr.field 32 (.agg (scA x s)) 12).run Tryd.prog w = .ok (.bool s.shown) w := by kernel_rfl
  unfold execOp
  simp only [ho, hy, Sem.run_bind, e, Result.andThen_ok, Sem.run_pure]
theorem exec_field_keys {x : Value} {s : SN.Sc} {w : World} (ρ : Operand → Value) (o : Oper) {y : Operand} (ho : o.op = .field 32 y 13) (hy : ρ y = .agg (scA x s)) : (execOp ρ o).run Tryd.prog w = .ok (.value (.bool s.keys)) w := by
  have e : (Instr.field 32 (.agg (scA x s)) 13).run Tryd.prog w = .ok (.bool s.keys) w := by kernel_rfl
  unfold execOp
  simp only [ho, hy, Sem.run_bind, e, Result.andThen_ok, Sem.run_pure]
set_option maxHeartbeats 16000000 in
theorem modesOrigin_t (kcs : Array Value) (S : SN.Sc) (w : World) (hk13 : kcs.size = 13) (hS : SN.RightS S) (hR5 : S.g.rows ≤ 5) (hK9 : S.g.cols ≤ 9) (hmt : MTab w)
    (KS : Hid (∀ w', Below w.heap.size w w' → Calls Tryd.prog 12 #[.agg kcs] w' (GotS w' S))) :
    Calls Tryd.prog 6 #[.agg kcs] w fun e w' => e = .returned (.bool true) ∧ Below w.heap.size w w' := by
  have hN : S.g.rows * S.g.cols ≤ 45 := Nat.mul_le_mul hR5 hK9
  have HN := hide (show S.g.rows * S.g.cols ≤ 1099511627776 by omega)
  have HMT := hide hmt
  have LO0 := hide (Below.refl w.heap.size w)
  obtain ⟨H, hH⟩ : ∃ T, SN.modeS S 6 true = T := ⟨_, rfl⟩
  obtain ⟨B, hB_⟩ : ∃ T, SN.modeS S 6 false = T := ⟨_, rfl⟩
  obtain ⟨D, hD⟩ : ∃ T, SN.modeS S 7 false = T := ⟨_, rfl⟩
  obtain ⟨V, hV⟩ : ∃ T, SN.modeS D 7 true = T := ⟨_, rfl⟩
  obtain ⟨Y, hY⟩ : ∃ T, SN.modeS S 25 true = T := ⟨_, rfl⟩
  obtain ⟨K, hK⟩ : ∃ T, SN.modeS S 1 true = T := ⟨_, rfl⟩
  have RD : SN.RightS D := hD ▸ SN.right_mode hS 7 false
  have MH := hide (fun w' v h => hH ▸ mset_is S v 6 true w' hS h)
  have MB := hide (fun w' v h => hB_ ▸ mset_is S v 6 false w' hS h)
  have MD := hide (fun w' v h => hD ▸ mset_is S v 7 false w' hS h)
  have MV := hide (fun w' v h => hV ▸ mset_is D v 7 true w' RD h)
  have MY := hide (fun w' v h => hY ▸ mset_is S v 25 true w' hS h)
  have MK := hide (fun w' v h => hK ▸ mset_is S v 1 true w' hS h)
  have MN := hide (fun w' v h => (show Calls Tryd.prog 7 #[v, .int .i64 9999, .bool true] w' (GotS w' S) by
    have q := mset_is S v 9999 true w' hS h
    rw [SN.mode_no S (n := 9999) true (by unfold SN.IsMode; omega)] at q
    exact q))
  have EHR := hide (show H.row = S.top by rw [← hH, SN.mode6_row hS]; rfl)
  have EHC := hide (show H.col = 0 by rw [← hH, SN.mode6_col hS])
  have EHO := hide (show H.org = true by rw [← hH]; rfl)
  have EBR := hide (show B.row = 0 by rw [← hB_, SN.mode6_row hS]; rfl)
  have EBC := hide (show B.col = 0 by rw [← hB_, SN.mode6_col hS])
  have EBO := hide (show B.org = false by rw [← hB_]; rfl)
  have EDP := hide (show D.pend = false by rw [← hD]; exact Bool.and_false _)
  have EDR := hide (show D.row = S.row by rw [← hD]; rfl)
  have EDC := hide (show D.col = S.col by rw [← hD]; rfl)
  have EVP := hide (show V.pend = false by rw [← hV, ← hD]; show ((S.pend && false) && true) = false; rw [Bool.and_false]; rfl)
  have EVW := hide (show V.wrap = true by rw [← hV]; rfl)
  have EYS := hide (show Y.shown = true by rw [← hY]; rfl)
  have EKK := hide (show K.keys = true by rw [← hK]; rfl)
  clear hmt hH hB_ hD hV hY hK RD hS
  go_enter Tryd.func6, Tryd.ntmps6
  go_wp2_with (first | (refine wpList_box_ks hk13 rfl _ rfl rfl ?_; intro gk wk hKB hbk hlk) | (refine wpList_load_ks hKB rfl _ rfl rfl ?_))
  have LO1 := hide (LO0.out.trans (hbk.mono LO0.out.size))
  clear LO0 hbk
  refine (KS.out _ LO1.out).mono ?_
  rintro e wb1 ⟨v1, rfl, ⟨x1, rfl, hg1⟩, hb1⟩
  have LO2 := hide (LO1.out.trans (hb1.mono LO1.out.size))
  clear LO1 hb1
  obtain ⟨A1, c1, rfl⟩ := gv_slice hg1
  have HGs1 := hide hg1
  clear hg1
  go_upto_region 2 with (first | (refine wpList_alloc_scr rfl rfl ?_; intro gs wags csgs hBgs hzgs hbgs hlgs) | (refine wpList_store_scr hBgs hzgs rfl _ _ rfl rfl rfl rfl ?_; intro wsgs hSgs hkgs hqgs))
  have le_gs : w.heap.size ≤ gs := by have := LO2.out.size; omega
  have HGs2 := hide (HGs1.out.low hbgs)
  have LO3 := hide (LO2.out.trans (hbgs.mono LO2.out.size))
  clear HGs1 LO2 hbgs
  have HGs3 := hide (HGs2.out.kept hBgs (by decide) hkgs)
  have LO4 := hide (LO3.out.trans (hkgs.toBelow LO3.out.size (fun k hh => by simp at hh; omega)))
  clear HGs2 LO3
  have HSs1 := hide hSgs
  clear hSgs hkgs hBgs hlgs
  go_simp
  go_cut [4, 5] from 4 to 13 (fun ua ub wx => ∃ gh gb A3a c3a A3b c3b, ua = .pointer (some ⟨gh, 0, none⟩) ∧ ub = .pointer (some ⟨gb, 0, none⟩) ∧ (wsgs.heap.size ≤ gh ∧ wsgs.heap.size ≤ gb ∧ gh ≠ gb) ∧ SBox wx gh (.slice A3a (H.g.rows * H.g.cols) c3a) H ∧ SBox wx gb (.slice A3b (B.g.rows * B.g.cols) c3b) B ∧ IsG wx H.g (gv H.g.rows H.g.cols (.slice A3a (H.g.rows * H.g.cols) c3a)) ∧ IsG wx B.g (gv B.g.rows B.g.cols (.slice A3b (B.g.rows * B.g.cols) c3b)) ∧ Below wsgs.heap.size wsgs wx)
  case first =>
    refine wp_region_gj (n := 94) [] (fun _ => #[]) [(0, 0, 0, 0, 0), (1, 0, 0, 0, 0), (0, 0, 0, 0, 0), (1, 0, 0, 0, 0), (2, 0, 0, 32, 29), (2, 0, 0, 32, 29), (3, 4, 1, 32, 29), (3, 5, 3, 32, 29)] (fun j => [(.agg (scA (.slice A1 (S.g.rows * S.g.cols) c1) S)), undef, (.agg (scA (.slice A1 (S.g.rows * S.g.cols) c1) S)), undef, undef, undef, undef, undef].getD j undef) [none, some (ScrV H), none, some (ScrV B)] (fun _ => 0) (by kernel_rfl) (by kernel_rfl) (by kernel_rfl) rfl (by kernel_rfl) (gno4 rfl) (fun i j h => by revert h; exact gno4 (p := fun _ => _) rfl i) (AllG.none_ (AllG.some_ (ScrV.stays (by kernel_rfl)) (AllG.none_ (AllG.some_ (ScrV.stays (by kernel_rfl)) (AllG.nil _))))) (fun hGS => cases8 ⟨?_, ?_, ?_, ?_, ?_, ?_, ?_, ?_⟩) ?_
    · intro L a w' hL hsame hsz hJ hdep hcl
      have hb := hJ.kept.toBelow (Nat.le_refl _) (by simp)
      have e0 : a.eval (.tmp 3) = (.pointer (some ⟨gs, 0, none⟩)) := eval_base hsame (by kernel_rfl)
      have hx := hJ.keptBox ((show Box _ gs 32 (scA (.slice A1 (S.g.rows * S.g.cols) c1) S) from HSs1.out)) (by simp)
      exact Step.val _ rfl rfl (wanted_none rfl) (.agg (scA (.slice A1 (S.g.rows * S.g.cols) c1) S)) w' (fun ρ hρ => exec_load_any hx rfl ρ _ rfl ((hρ _).symm.trans e0)) (hJ.val hGS hcl hL rfl (Below.refl _ _) _ rfl)
    · intro L a w' hL hsame hsz hJ hdep hcl
      have hb := hJ.kept.toBelow (Nat.le_refl _) (by simp)
      have e0 : a.eval (.tmp 10) = (.agg (scA (.slice A1 (S.g.rows * S.g.cols) c1) S)) := eval_slot (j := 0) (by kernel_rfl) (hJ.valOf (by decide) (dep_of hdep 0 (by kernel_rfl)) rfl rfl)
      refine Step.call _ rfl rfl (wanted_none rfl) 7 #[.agg (scA (.slice A1 (S.g.rows * S.g.cols) c1) S), .int .i64 6, .bool true] (fun ρ hρ => ?_) ?_
      · skip
        rw [hρ] at e0
        have ec0 : ρ (.const (.int .i64 6)) = (.int .i64 6) := (hρ _).symm
        have ec1 : ρ (.const (.bool true)) = (.bool true) := (hρ _).symm
        have ef : ρ (.func 7) = .func (.func 7) #[] #[] := (hρ _).symm
        clear hJ hsame hdep hcl hρ hsz hb
        go_simp
      · refine (MH.out _ _ ⟨_, rfl, (HGs3.out.low hb)⟩).mono ?_
        rintro e w2 ⟨v, rfl, hi, bb⟩
        exact ⟨_, rfl, hJ.pred hGS hcl hL rfl bb _ (scrV_of hi)⟩
    · intro L a w' hL hsame hsz hJ hdep hcl
      have hb := hJ.kept.toBelow (Nat.le_refl _) (by simp)
      have e0 : a.eval (.tmp 3) = (.pointer (some ⟨gs, 0, none⟩)) := eval_base hsame (by kernel_rfl)
      have hx := hJ.keptBox ((show Box _ gs 32 (scA (.slice A1 (S.g.rows * S.g.cols) c1) S) from HSs1.out)) (by simp)
      exact Step.val _ rfl rfl (wanted_none rfl) (.agg (scA (.slice A1 (S.g.rows * S.g.cols) c1) S)) w' (fun ρ hρ => exec_load_any hx rfl ρ _ rfl ((hρ _).symm.trans e0)) (hJ.val hGS hcl hL rfl (Below.refl _ _) _ rfl)
    · intro L a w' hL hsame hsz hJ hdep hcl
      have hb := hJ.kept.toBelow (Nat.le_refl _) (by simp)
      have e0 : a.eval (.tmp 12) = (.agg (scA (.slice A1 (S.g.rows * S.g.cols) c1) S)) := eval_slot (j := 2) (by kernel_rfl) (hJ.valOf (by decide) (dep_of hdep 2 (by kernel_rfl)) rfl rfl)
      refine Step.call _ rfl rfl (wanted_none rfl) 7 #[.agg (scA (.slice A1 (S.g.rows * S.g.cols) c1) S), .int .i64 6, .bool false] (fun ρ hρ => ?_) ?_
      · skip
        rw [hρ] at e0
        have ec0 : ρ (.const (.int .i64 6)) = (.int .i64 6) := (hρ _).symm
        have ec1 : ρ (.const (.bool false)) = (.bool false) := (hρ _).symm
        have ef : ρ (.func 7) = .func (.func 7) #[] #[] := (hρ _).symm
        clear hJ hsame hdep hcl hρ hsz hb
        go_simp
      · refine (MB.out _ _ ⟨_, rfl, (HGs3.out.low hb)⟩).mono ?_
        rintro e w2 ⟨v, rfl, hi, bb⟩
        exact ⟨_, rfl, hJ.pred hGS hcl hL rfl bb _ (scrV_of hi)⟩
    · intro L a w' hL hsame hsz hJ hdep hcl
      have hb := hJ.kept.toBelow (Nat.le_refl _) (by simp)
      refine Step.val _ rfl rfl (wanted_none rfl) (.pointer (some ⟨w'.heap.size, 0, none⟩)) (w'.alloc (.cells #[.int .i64 0, .int .i64 0, .slice none 0 0, .int .i64 0, .int .i64 0, .bool false, .int .i64 0, .int .i64 0, .int .i64 0, .int .i64 0, .int .i64 0, .int .u64 0, .int .u8 0, .int .u8 0, .int .i64 0, .bool false, .bool false, .bool false, .bool false, .bool false, .int .i64 0, .int .i64 0, .int .i64 0, .int .i64 0, .int .i64 0, .int .u8 0, .int .u8 0, .int .i64 0, .bool false] 32)) (fun ρ hρ => ?_) (hJ.box hGS hcl hL rfl 32 rfl #[.int .i64 0, .int .i64 0, .slice none 0 0, .int .i64 0, .int .i64 0, .bool false, .int .i64 0, .int .i64 0, .int .i64 0, .int .i64 0, .int .i64 0, .int .u64 0, .int .u8 0, .int .u8 0, .int .i64 0, .bool false, .bool false, .bool false, .bool false, .bool false, .int .i64 0, .int .i64 0, .int .i64 0, .int .i64 0, .int .i64 0, .int .u8 0, .int .u8 0, .int .i64 0, .bool false] rfl)
      clear hJ hsame hdep hcl hρ hsz hb
      go_simp
    · intro L a w' hL hsame hsz hJ hdep hcl
      have hb := hJ.kept.toBelow (Nat.le_refl _) (by simp)
      refine Step.val _ rfl rfl (wanted_none rfl) (.pointer (some ⟨w'.heap.size, 0, none⟩)) (w'.alloc (.cells #[.int .i64 0, .int .i64 0, .slice none 0 0, .int .i64 0, .int .i64 0, .bool false, .int .i64 0, .int .i64 0, .int .i64 0, .int .i64 0, .int .i64 0, .int .u64 0, .int .u8 0, .int .u8 0, .int .i64 0, .bool false, .bool false, .bool false, .bool false, .bool false, .int .i64 0, .int .i64 0, .int .i64 0, .int .i64 0, .int .i64 0, .int .u8 0, .int .u8 0, .int .i64 0, .bool false] 32)) (fun ρ hρ => ?_) (hJ.box hGS hcl hL rfl 32 rfl #[.int .i64 0, .int .i64 0, .slice none 0 0, .int .i64 0, .int .i64 0, .bool false, .int .i64 0, .int .i64 0, .int .i64 0, .int .i64 0, .int .i64 0, .int .u64 0, .int .u8 0, .int .u8 0, .int .i64 0, .bool false, .bool false, .bool false, .bool false, .bool false, .int .i64 0, .int .i64 0, .int .i64 0, .int .i64 0, .int .i64 0, .int .u8 0, .int .u8 0, .int .i64 0, .bool false] rfl)
      clear hJ hsame hdep hcl hρ hsz hb
      go_simp
    · intro L a w' hL hsame hsz hJ hdep hcl
      have hb := hJ.kept.toBelow (Nat.le_refl _) (by simp)
      obtain ⟨A1', c1', hv1, hi1⟩ := (show (ScrV H) (valOf _ 1 a) w' from hJ.predOf (by decide) (dep_of hdep 1 (by kernel_rfl)) rfl)
      have es : a.eval (.tmp 11) = .agg (scA (.slice A1' (H.g.rows * H.g.cols) c1') H) := eval_slot (j := 1) (by kernel_rfl) hv1
      have la := dep_of hdep 4 (by kernel_rfl)
      obtain ⟨g, cs, hg, hg0, hx, hs⟩ := hJ.boxOf (j := 4) (by decide) la rfl
      have ea : a.eval (.tmp 4) = .pointer (some ⟨g, 0, none⟩) := eval_slot (j := 4) (by kernel_rfl) hg
      exact Step.skip _ rfl (wanted_none rfl) _ (fun ρ hρ => exec_store_any hx hs rfl (scA_one rfl _) ρ _ rfl ((hρ _).symm.trans ea) ((hρ _).symm.trans es)) (hJ.put hGS hcl hL rfl la (dep_of hdep 1 (by kernel_rfl)) hg rfl hv1)
    · intro L a w' hL hsame hsz hJ hdep hcl
      have hb := hJ.kept.toBelow (Nat.le_refl _) (by simp)
      obtain ⟨A3', c3', hv3, hi3⟩ := (show (ScrV B) (valOf _ 3 a) w' from hJ.predOf (by decide) (dep_of hdep 3 (by kernel_rfl)) rfl)
      have es : a.eval (.tmp 13) = .agg (scA (.slice A3' (B.g.rows * B.g.cols) c3') B) := eval_slot (j := 3) (by kernel_rfl) hv3
      have la := dep_of hdep 5 (by kernel_rfl)
      obtain ⟨g, cs, hg, hg0, hx, hs⟩ := hJ.boxOf (j := 5) (by decide) la rfl
      have ea : a.eval (.tmp 5) = .pointer (some ⟨g, 0, none⟩) := eval_slot (j := 5) (by kernel_rfl) hg
      exact Step.skip _ rfl (wanted_none rfl) _ (fun ρ hρ => exec_store_any hx hs rfl (scA_one rfl _) ρ _ rfl ((hρ _).symm.trans ea) ((hρ _).symm.trans es)) (hJ.put hGS hcl hL rfl la (dep_of hdep 3 (by kernel_rfl)) hg rfl hv3)
    · intro u w' hF
      change Exit.then _ _ Exit.normal (Act.put (Act.put (Act.put (Act.put (Act.put (Act.put (Act.put (Act.put (putAll _ u 0 _) (some 10) (u 0)) (some 11) (u 1)) (some 12) (u 2)) (some 13) (u 3)) (some 4) (u 4)) (some 5) (u 5)) none (u 6)) none (u 7)) _
      simp only [putAll]
      obtain ⟨Aa, ca, fa, hia⟩ := (show ScrV H (u 1) w' from hF.fin1 (j := 1) (by decide) rfl)
      obtain ⟨Ab, cb, fb, hib⟩ := (show ScrV B (u 3) w' from hF.fin1 (j := 3) (by decide) rfl)
      obtain ⟨ga, csa, va, la, _, _⟩ := (hF.all 4 (by decide) rfl).2.2.1 rfl
      obtain ⟨ga0, csa', va', fsa, hBa⟩ := (hF.all 6 (by decide) rfl).2.2.2.1 rfl
      obtain rfl : ga0 = ga := by
        have := va'.symm.trans va
        cases this
        rfl
      obtain rfl : csa' = scA (.slice Aa (H.g.rows * H.g.cols) ca) H := by
        have := fsa.symm.trans fa
        cases this
        rfl
      obtain ⟨gb, csb, vb, lb, _, _⟩ := (hF.all 5 (by decide) rfl).2.2.1 rfl
      obtain ⟨gb0, csb', vb', fsb, hBb⟩ := (hF.all 7 (by decide) rfl).2.2.2.1 rfl
      obtain rfl : gb0 = gb := by
        have := vb'.symm.trans vb
        cases this
        rfl
      obtain rfl : csb' = scA (.slice Ab (B.g.rows * B.g.cols) cb) B := by
        have := fsb.symm.trans fb
        cases this
        rfl
      have nab := hF.dist 4 5 rfl rfl rfl rfl (by decide)
      have hk := hF.kept.toBelow (Nat.le_refl _) (by simp)
      clear hF va' fsa vb' fsb
      generalize u 0 = y0
      generalize u 1 = y1 at fa ⊢
      generalize u 2 = y2
      generalize u 3 = y3 at fb ⊢
      generalize u 4 = y4 at va nab ⊢
      generalize u 5 = y5 at vb nab ⊢
      generalize u 6 = y6
      generalize u 7 = y7
      subst fa fb va vb
      have m1 : ga0 ≠ gb0 := fun e => nab (by rw [e])
      clear nab
      go_simp
      go_step
      go_meet
      exact ⟨ga0, gb0, Aa, ca, Ab, cb, rfl, rfl, ⟨la, lb, m1⟩, hBa, hBb, hia, hib, hk⟩
  case rest =>
    obtain ⟨gh, gb, A3a, c3a, A3b, c3b, rfl, rfl, ⟨lgh, lgb, ne_gh_gb⟩, hBgh, hBgb, high, higb, hb3⟩ := hcut
    have ne_gs_gh : gs ≠ gh := by have := HSs1.out.lt; omega
    have ne_gs_gb : gs ≠ gb := by have := HSs1.out.lt; omega
    have le_gh : w.heap.size ≤ gh := by have := LO4.out.size; omega
    have le_gb : w.heap.size ≤ gb := by have := LO4.out.size; omega
    have HSs2 := hide (HSs1.out.below hb3 HSs1.out.lt)
    have HGs4 := hide (HGs3.out.low hb3)
    have LO5 := hide (LO4.out.trans (hb3.mono LO4.out.size))
    clear HSs1 HGs3 LO4 hb3
    have HSh1 := hide hBgh
    clear hBgh
    have HSb1 := hide hBgb
    clear hBgb
    have HGh1 := hide high
    clear high
    have HGb1 := hide higb
    clear higb
    rename World => wr3
    clear lgh lgb
    go_wp2_with (first | (refine wpList_load_scr HSs2.out rfl _ rfl rfl ?_))
    refine (MD.out _ _ ⟨_, rfl, HGs4.out⟩).mono ?_
    rintro e wb4 ⟨v4, rfl, ⟨x4, rfl, hg4⟩, hb4⟩
    have HSs3 := hide (HSs2.out.below hb4 HSs2.out.lt)
    have HSh2 := hide (HSh1.out.below hb4 HSh1.out.lt)
    have HSb2 := hide (HSb1.out.below hb4 HSb1.out.lt)
    have HGs5 := hide (HGs4.out.low hb4)
    have HGh2 := hide (HGh1.out.low hb4)
    have HGb2 := hide (HGb1.out.low hb4)
    have LO6 := hide (LO5.out.trans (hb4.mono LO5.out.size))
    clear HSs2 HSh1 HSb1 HGs4 HGh1 HGb1 LO5 hb4
    obtain ⟨A4, c4, rfl⟩ := gv_slice hg4
    have HGd1 := hide hg4
    clear hg4
    go_upto_region 4 with (first | (refine wpList_alloc_scr rfl rfl ?_; intro gq_ wagq_ csgq_ hBgq_ hzgq_ hbgq_ hlgq_) | (refine wpList_store_scr hBgq_ hzgq_ rfl _ _ rfl rfl rfl rfl ?_; intro wsgq_ hSgq_ hkgq_ hqgq_))
    have ne_gs_gq_ : gs ≠ gq_ := by have := HSs3.out.lt; omega
    have ne_gh_gq_ : gh ≠ gq_ := by have := HSh2.out.lt; omega
    have ne_gb_gq_ : gb ≠ gq_ := by have := HSb2.out.lt; omega
    have le_gq_ : w.heap.size ≤ gq_ := by have := LO6.out.size; omega
    have HSs4 := hide (HSs3.out.below hbgq_ HSs3.out.lt)
    have HSh3 := hide (HSh2.out.below hbgq_ HSh2.out.lt)
    have HSb3 := hide (HSb2.out.below hbgq_ HSb2.out.lt)
    have HGs6 := hide (HGs5.out.low hbgq_)
    have HGh3 := hide (HGh2.out.low hbgq_)
    have HGb3 := hide (HGb2.out.low hbgq_)
    have HGd2 := hide (HGd1.out.low hbgq_)
    have LO7 := hide (LO6.out.trans (hbgq_.mono LO6.out.size))
    clear HSs3 HSh2 HSb2 HGs5 HGh2 HGb2 HGd1 LO6 hbgq_
    have HSs5 := hide (HSs4.out.kept hkgq_ (by simp; first | exact ne_gs_gq_ | exact Ne.symm ne_gq__gs))
    have HSh4 := hide (HSh3.out.kept hkgq_ (by simp; first | exact ne_gh_gq_ | exact Ne.symm ne_gq__gh))
    have HSb4 := hide (HSb3.out.kept hkgq_ (by simp; first | exact ne_gb_gq_ | exact Ne.symm ne_gq__gb))
    have HGs7 := hide (HGs6.out.kept hBgq_ (by decide) hkgq_)
    have HGh4 := hide (HGh3.out.kept hBgq_ (by decide) hkgq_)
    have HGb4 := hide (HGb3.out.kept hBgq_ (by decide) hkgq_)
    have HGd3 := hide (HGd2.out.kept hBgq_ (by decide) hkgq_)
    have LO8 := hide (LO7.out.trans (hkgq_.toBelow LO7.out.size (fun k hh => by simp at hh; omega)))
    clear HSs4 HSh3 HSb3 HGs6 HGh3 HGb3 HGd2 LO7
    have HSd1 := hide hSgq_
    clear hSgq_ hkgq_ hBgq_ hlgq_
    clear hqgq_ hqgs
    go_wp2_with (first | (refine wpList_load_scr HSd1.out rfl _ rfl rfl ?_))
    refine (MV.out _ _ ⟨_, rfl, HGd3.out⟩).mono ?_
    rintro e wb5 ⟨v5, rfl, ⟨x5, rfl, hg5⟩, hb5⟩
    have HSs6 := hide (HSs5.out.below hb5 HSs5.out.lt)
    have HSh5 := hide (HSh4.out.below hb5 HSh4.out.lt)
    have HSb5 := hide (HSb4.out.below hb5 HSb4.out.lt)
    have HSd2 := hide (HSd1.out.below hb5 HSd1.out.lt)
    have HGs8 := hide (HGs7.out.low hb5)
    have HGh5 := hide (HGh4.out.low hb5)
    have HGb5 := hide (HGb4.out.low hb5)
    have HGd4 := hide (HGd3.out.low hb5)
    have LO9 := hide (LO8.out.trans (hb5.mono LO8.out.size))
    clear HSs5 HSh4 HSb4 HSd1 HGs7 HGh4 HGb4 HGd3 LO8 hb5
    obtain ⟨A5, c5, rfl⟩ := gv_slice hg5
    have HGv1 := hide hg5
    clear hg5
    go_upto_region 5 with (first | (refine wpList_alloc_scr rfl rfl ?_; intro gv_ wagv_ csgv_ hBgv_ hzgv_ hbgv_ hlgv_) | (refine wpList_store_scr hBgv_ hzgv_ rfl _ _ rfl rfl rfl rfl ?_; intro wsgv_ hSgv_ hkgv_ hqgv_))
    have ne_gs_gv_ : gs ≠ gv_ := by have := HSs6.out.lt; omega
    have ne_gh_gv_ : gh ≠ gv_ := by have := HSh5.out.lt; omega
    have ne_gb_gv_ : gb ≠ gv_ := by have := HSb5.out.lt; omega
    have ne_gq__gv_ : gq_ ≠ gv_ := by have := HSd2.out.lt; omega
    have le_gv_ : w.heap.size ≤ gv_ := by have := LO9.out.size; omega
    have HSs7 := hide (HSs6.out.below hbgv_ HSs6.out.lt)
    have HSh6 := hide (HSh5.out.below hbgv_ HSh5.out.lt)
    have HSb6 := hide (HSb5.out.below hbgv_ HSb5.out.lt)
    have HSd3 := hide (HSd2.out.below hbgv_ HSd2.out.lt)
    have HGs9 := hide (HGs8.out.low hbgv_)
    have HGh6 := hide (HGh5.out.low hbgv_)
    have HGb6 := hide (HGb5.out.low hbgv_)
    have HGd5 := hide (HGd4.out.low hbgv_)
    have HGv2 := hide (HGv1.out.low hbgv_)
    have LO10 := hide (LO9.out.trans (hbgv_.mono LO9.out.size))
    clear HSs6 HSh5 HSb5 HSd2 HGs8 HGh5 HGb5 HGd4 HGv1 LO9 hbgv_
    have HSs8 := hide (HSs7.out.kept hkgv_ (by simp; first | exact ne_gs_gv_ | exact Ne.symm ne_gv__gs))
    have HSh7 := hide (HSh6.out.kept hkgv_ (by simp; first | exact ne_gh_gv_ | exact Ne.symm ne_gv__gh))
    have HSb7 := hide (HSb6.out.kept hkgv_ (by simp; first | exact ne_gb_gv_ | exact Ne.symm ne_gv__gb))
    have HSd4 := hide (HSd3.out.kept hkgv_ (by simp; first | exact ne_gq__gv_ | exact Ne.symm ne_gv__gq_))
    have HGs10 := hide (HGs9.out.kept hBgv_ (by decide) hkgv_)
    have HGh7 := hide (HGh6.out.kept hBgv_ (by decide) hkgv_)
    have HGb7 := hide (HGb6.out.kept hBgv_ (by decide) hkgv_)
    have HGd6 := hide (HGd5.out.kept hBgv_ (by decide) hkgv_)
    have HGv3 := hide (HGv2.out.kept hBgv_ (by decide) hkgv_)
    have LO11 := hide (LO10.out.trans (hkgv_.toBelow LO10.out.size (fun k hh => by simp at hh; omega)))
    clear HSs7 HSh6 HSb6 HSd3 HGs9 HGh6 HGb6 HGd5 HGv2 LO10
    have HSv1 := hide hSgv_
    clear hSgv_ hkgv_ hBgv_ hlgv_
    clear hqgv_
    go_simp
    refine wp_region_gj (n := 94) [] (fun _ => #[]) [(0, 0, 0, 0, 0), (0, 0, 0, 0, 0), (0, 0, 0, 0, 0), (0, 0, 0, 0, 0), (0, 0, 0, 0, 0), (0, 0, 0, 0, 0), (0, 0, 0, 0, 0), (0, 0, 0, 0, 0), (0, 0, 0, 0, 0), (0, 0, 0, 0, 0), (0, 0, 0, 0, 0), (0, 0, 0, 0, 0), (0, 0, 0, 0, 0), (0, 0, 0, 0, 0), (0, 0, 0, 0, 0), (0, 0, 0, 0, 0), (0, 0, 0, 0, 0), (0, 0, 0, 0, 0), (0, 0, 0, 0, 0), (0, 0, 0, 0, 0), (0, 0, 0, 0, 0), (0, 0, 0, 0, 0), (0, 0, 0, 0, 0), (0, 0, 0, 0, 0), (0, 0, 0, 0, 0), (0, 0, 0, 0, 0), (0, 0, 0, 0, 0), (0, 0, 0, 0, 0), (0, 0, 0, 0, 0), (0, 0, 0, 0, 0), (0, 0, 0, 0, 0), (0, 0, 0, 0, 0), (0, 0, 0, 0, 0), (0, 0, 0, 0, 0), (0, 0, 0, 0, 0), (0, 0, 0, 0, 0), (0, 0, 0, 0, 0), (0, 0, 0, 0, 0), (0, 0, 0, 0, 0), (0, 0, 0, 0, 0), (0, 0, 0, 0, 0), (0, 0, 0, 0, 0), (0, 0, 0, 0, 0), (0, 0, 0, 0, 0), (0, 0, 0, 0, 0), (0, 0, 0, 0, 0), (0, 0, 0, 0, 0), (0, 0, 0, 0, 0), (0, 0, 0, 0, 0), (0, 0, 0, 0, 0), (0, 0, 0, 0, 0), (0, 0, 0, 0, 0), (0, 0, 0, 0, 0), (0, 0, 0, 0, 0), (0, 0, 0, 0, 0), (0, 0, 0, 0, 0), (0, 0, 0, 0, 0), (0, 0, 0, 0, 0), (0, 0, 0, 0, 0), (1, 0, 0, 0, 0), (0, 0, 0, 0, 0), (0, 0, 0, 0, 0), (0, 0, 0, 0, 0), (0, 0, 0, 0, 0), (1, 0, 0, 0, 0), (0, 0, 0, 0, 0), (0, 0, 0, 0, 0), (0, 0, 0, 0, 0), (0, 0, 0, 0, 0), (1, 0, 0, 0, 0), (0, 0, 0, 0, 0), (0, 0, 0, 0, 0), (0, 0, 0, 0, 0), (0, 0, 0, 0, 0), (0, 0, 0, 0, 0), (0, 0, 0, 0, 0), (0, 0, 0, 0, 0)] (fun j => [(.pointer (some ⟨gh, 3, none⟩)), (.int .i64 (H.row : Nat)), (.pointer (some ⟨gs, 6, none⟩)), (.int .i64 (S.top : Nat)), (.bool true), (.bool true), (.pointer (some ⟨gh, 4, none⟩)), (.int .i64 (H.col : Nat)), (.bool true), (.bool true), (.bool true), (.pointer (some ⟨gh, 16, none⟩)), (.bool true), (.bool true), (.bool true), (.pointer (some ⟨gb, 3, none⟩)), (.int .i64 (B.row : Nat)), (.bool true), (.bool true), (.bool true), (.pointer (some ⟨gb, 4, none⟩)), (.int .i64 (B.col : Nat)), (.bool true), (.bool true), (.bool true), (.pointer (some ⟨gb, 16, none⟩)), (.bool false), (.bool true), (.bool true), (.bool true), (.pointer (some ⟨gq_, 5, none⟩)), (.bool false), (.bool true), (.bool true), (.bool true), (.pointer (some ⟨gv_, 5, none⟩)), (.bool false), (.bool true), (.bool true), (.bool true), (.pointer (some ⟨gv_, 15, none⟩)), (.bool true), (.bool true), (.bool true), (.pointer (some ⟨gq_, 3, none⟩)), (.int .i64 (D.row : Nat)), (.pointer (some ⟨gs, 3, none⟩)), (.int .i64 (S.row : Nat)), (.bool true), (.bool true), (.bool true), (.pointer (some ⟨gq_, 4, none⟩)), (.int .i64 (D.col : Nat)), (.pointer (some ⟨gs, 4, none⟩)), (.int .i64 (S.col : Nat)), (.bool true), (.bool true), (.bool true), (.agg (scA (.slice A1 (S.g.rows * S.g.cols) c1) S)), undef, (.bool true), (.bool true), (.bool true), (.agg (scA (.slice A1 (S.g.rows * S.g.cols) c1) S)), undef, (.bool true), (.bool true), (.bool true), (.agg (scA (.slice A1 (S.g.rows * S.g.cols) c1) S)), undef, (.agg (scA (.slice A1 (S.g.rows * S.g.cols) c1) S)), (.bool true), (.bool true), (.bool true), (.bool true), (.bool true), (.bool true)].getD j undef) [none, none, none, none, none, none, none, none, none, none, none, none, none, none, none, none, none, none, none, none, none, none, none, none, none, none, none, none, none, none, none, none, none, none, none, none, none, none, none, none, none, none, none, none, none, none, none, none, none, none, none, none, none, none, none, none, none, none, none, some (ScrV Y), none, none, none, none, some (ScrV K), none, none, none, none, some (ScrV S)] (fun _ => 0) (by kernel_rfl) (by kernel_rfl) (by kernel_rfl) rfl (by kernel_rfl) (gno4 rfl) (fun i j h => by revert h; exact gno4 (p := fun _ => _) rfl i) (AllG.none_ (AllG.none_ (AllG.none_ (AllG.none_ (AllG.none_ (AllG.none_ (AllG.none_ (AllG.none_ (AllG.none_ (AllG.none_ (AllG.none_ (AllG.none_ (AllG.none_ (AllG.none_ (AllG.none_ (AllG.none_ (AllG.none_ (AllG.none_ (AllG.none_ (AllG.none_ (AllG.none_ (AllG.none_ (AllG.none_ (AllG.none_ (AllG.none_ (AllG.none_ (AllG.none_ (AllG.none_ (AllG.none_ (AllG.none_ (AllG.none_ (AllG.none_ (AllG.none_ (AllG.none_ (AllG.none_ (AllG.none_ (AllG.none_ (AllG.none_ (AllG.none_ (AllG.none_ (AllG.none_ (AllG.none_ (AllG.none_ (AllG.none_ (AllG.none_ (AllG.none_ (AllG.none_ (AllG.none_ (AllG.none_ (AllG.none_ (AllG.none_ (AllG.none_ (AllG.none_ (AllG.none_ (AllG.none_ (AllG.none_ (AllG.none_ (AllG.none_ (AllG.none_ (AllG.some_ (ScrV.stays (by kernel_rfl)) (AllG.none_ (AllG.none_ (AllG.none_ (AllG.none_ (AllG.some_ (ScrV.stays (by kernel_rfl)) (AllG.none_ (AllG.none_ (AllG.none_ (AllG.none_ (AllG.some_ (ScrV.stays (by kernel_rfl)) (AllG.nil _))))))))))))))))))))))))))))))))))))))))))))))))))))))))))))))))))))))) (fun hGS => cases77 ⟨?_, ?_, ?_, ?_, ?_, ?_, ?_, ?_, ?_, ?_, ?_, ?_, ?_, ?_, ?_, ?_, ?_, ?_, ?_, ?_, ?_, ?_, ?_, ?_, ?_, ?_, ?_, ?_, ?_, ?_, ?_, ?_, ?_, ?_, ?_, ?_, ?_, ?_, ?_, ?_, ?_, ?_, ?_, ?_, ?_, ?_, ?_, ?_, ?_, ?_, ?_, ?_, ?_, ?_, ?_, ?_, ?_, ?_, ?_, ?_, ?_, ?_, ?_, ?_, ?_, ?_, ?_, ?_, ?_, ?_, ?_, ?_, ?_, ?_, ?_, ?_, ?_⟩) ?_
    · intro L a w' hL hsame hsz hJ hdep hcl
      have hb := hJ.kept.toBelow (Nat.le_refl _) (by simp)
      have e0 : a.eval (.tmp 4) = (.pointer (some ⟨gh, 0, none⟩)) := eval_base hsame (by kernel_rfl)
      refine Step.val _ rfl rfl (wanted_none rfl) (.pointer (some ⟨gh, 3, none⟩)) w' (fun ρ hρ => ?_) (hJ.val hGS hcl hL rfl (Below.refl _ _) _ rfl)
      rw [hρ] at e0
      clear hJ hsame hdep hcl hρ hsz hb
      go_simp
    · intro L a w' hL hsame hsz hJ hdep hcl
      have hb := hJ.kept.toBelow (Nat.le_refl _) (by simp)
      have e0 : a.eval (.tmp 18) = (.pointer (some ⟨gh, 3, none⟩)) := eval_slot (j := 0) (by kernel_rfl) (hJ.valOf (by decide) (dep_of hdep 0 (by kernel_rfl)) rfl rfl)
      have hx := hJ.keptBox ((show Box _ gh 32 (scA (.slice A3a (H.g.rows * H.g.cols) c3a) H) from HSh7.out)) (by simp)
      have q0 : w'.cell? ⟨gh, 3, none⟩ = some (.int .i64 (H.row : Nat)) := hx.cell 3
      refine Step.val _ rfl rfl (wanted_none rfl) (.int .i64 (H.row : Nat)) w' (fun ρ hρ => ?_) (hJ.val hGS hcl hL rfl (Below.refl _ _) _ rfl)
      clear hx
      rw [hρ] at e0
      clear hJ hsame hdep hcl hρ hsz hb
      go_simp
    · intro L a w' hL hsame hsz hJ hdep hcl
      have hb := hJ.kept.toBelow (Nat.le_refl _) (by simp)
      have e0 : a.eval (.tmp 3) = (.pointer (some ⟨gs, 0, none⟩)) := eval_base hsame (by kernel_rfl)
      refine Step.val _ rfl rfl (wanted_none rfl) (.pointer (some ⟨gs, 6, none⟩)) w' (fun ρ hρ => ?_) (hJ.val hGS hcl hL rfl (Below.refl _ _) _ rfl)
      rw [hρ] at e0
      clear hJ hsame hdep hcl hρ hsz hb
      go_simp
    · intro L a w' hL hsame hsz hJ hdep hcl
      have hb := hJ.kept.toBelow (Nat.le_refl _) (by simp)
      have e0 : a.eval (.tmp 20) = (.pointer (some ⟨gs, 6, none⟩)) := eval_slot (j := 2) (by kernel_rfl) (hJ.valOf (by decide) (dep_of hdep 2 (by kernel_rfl)) rfl rfl)
      have hx := hJ.keptBox ((show Box _ gs 32 (scA (.slice A1 (S.g.rows * S.g.cols) c1) S) from HSs8.out)) (by simp)
      have q0 : w'.cell? ⟨gs, 6, none⟩ = some (.int .i64 (S.top : Nat)) := hx.cell 6
      refine Step.val _ rfl rfl (wanted_none rfl) (.int .i64 (S.top : Nat)) w' (fun ρ hρ => ?_) (hJ.val hGS hcl hL rfl (Below.refl _ _) _ rfl)
      clear hx
      rw [hρ] at e0
      clear hJ hsame hdep hcl hρ hsz hb
      go_simp
    · intro L a w' hL hsame hsz hJ hdep hcl
      have hb := hJ.kept.toBelow (Nat.le_refl _) (by simp)
      have e0 : a.eval (.tmp 19) = (.int .i64 (H.row : Nat)) := eval_slot (j := 1) (by kernel_rfl) (hJ.valOf (by decide) (dep_of hdep 1 (by kernel_rfl)) rfl rfl)
      have e1 : a.eval (.tmp 21) = (.int .i64 (S.top : Nat)) := eval_slot (j := 3) (by kernel_rfl) (hJ.valOf (by decide) (dep_of hdep 3 (by kernel_rfl)) rfl rfl)
      refine Step.val _ rfl rfl (wanted_none rfl) (.bool true) w' (fun ρ hρ => ?_) (hJ.val hGS hcl hL rfl (Below.refl _ _) _ rfl)
      rw [hρ] at e0 e1
      clear hJ hsame hdep hcl hρ hsz hb
      go_simp
      exact congrArg (fun n : Nat => (n : Int)) EHR.out
    · intro L a w' hL hsame hsz hJ hdep hcl
      have hb := hJ.kept.toBelow (Nat.le_refl _) (by simp)
      have e0 : a.eval (.tmp 22) = (.bool true) := eval_slot (j := 4) (by kernel_rfl) (hJ.valOf (by decide) (dep_of hdep 4 (by kernel_rfl)) rfl rfl)
      refine Step.val _ rfl rfl (wanted_none rfl) (.bool true) w' (fun ρ hρ => ?_) (hJ.val hGS hcl hL rfl (Below.refl _ _) _ rfl)
      rw [hρ] at e0
      clear hJ hsame hdep hcl hρ hsz hb
      go_simp
    · intro L a w' hL hsame hsz hJ hdep hcl
      have gd : valOf _ 5 a = .bool true := hJ.valOf (by decide) (dep_of hdep 5 (by kernel_rfl)) rfl rfl
      have hb := hJ.kept.toBelow (Nat.le_refl _) (by simp)
      have e0 : a.eval (.tmp 4) = (.pointer (some ⟨gh, 0, none⟩)) := eval_base hsame (by kernel_rfl)
      refine Step.val _ rfl rfl (wanted_some (g := 5) (b := true) rfl gd) (.pointer (some ⟨gh, 4, none⟩)) w' (fun ρ hρ => ?_) (hJ.val hGS hcl hL rfl (Below.refl _ _) _ rfl)
      rw [hρ] at e0
      clear hJ hsame hdep hcl hρ hsz hb gd
      go_simp
    · intro L a w' hL hsame hsz hJ hdep hcl
      have gd : valOf _ 5 a = .bool true := hJ.valOf (by decide) (dep_of hdep 5 (by kernel_rfl)) rfl rfl
      have hb := hJ.kept.toBelow (Nat.le_refl _) (by simp)
      have e0 : a.eval (.tmp 24) = (.pointer (some ⟨gh, 4, none⟩)) := eval_slot (j := 6) (by kernel_rfl) (hJ.valOf (by decide) (dep_of hdep 6 (by kernel_rfl)) rfl rfl)
      have hx := hJ.keptBox ((show Box _ gh 32 (scA (.slice A3a (H.g.rows * H.g.cols) c3a) H) from HSh7.out)) (by simp)
      have q0 : w'.cell? ⟨gh, 4, none⟩ = some (.int .i64 (H.col : Nat)) := hx.cell 4
      refine Step.val _ rfl rfl (wanted_some (g := 5) (b := true) rfl gd) (.int .i64 (H.col : Nat)) w' (fun ρ hρ => ?_) (hJ.val hGS hcl hL rfl (Below.refl _ _) _ rfl)
      clear hx
      rw [hρ] at e0
      clear hJ hsame hdep hcl hρ hsz hb gd
      go_simp
    · intro L a w' hL hsame hsz hJ hdep hcl
      have gd : valOf _ 5 a = .bool true := hJ.valOf (by decide) (dep_of hdep 5 (by kernel_rfl)) rfl rfl
      have hb := hJ.kept.toBelow (Nat.le_refl _) (by simp)
      have e0 : a.eval (.tmp 25) = (.int .i64 (H.col : Nat)) := eval_slot (j := 7) (by kernel_rfl) (hJ.valOf (by decide) (dep_of hdep 7 (by kernel_rfl)) rfl rfl)
      refine Step.val _ rfl rfl (wanted_some (g := 5) (b := true) rfl gd) (.bool true) w' (fun ρ hρ => ?_) (hJ.val hGS hcl hL rfl (Below.refl _ _) _ rfl)
      rw [hρ] at e0
      have ec0 : ρ (.const (.int .i64 0)) = (.int .i64 0) := (hρ _).symm
      clear hJ hsame hdep hcl hρ hsz hb gd
      go_simp
      exact (by rw [EHC.out])
    · intro L a w' hL hsame hsz hJ hdep hcl
      have hb := hJ.kept.toBelow (Nat.le_refl _) (by simp)
      have e0 : a.eval (.tmp 23) = (.bool true) := eval_slot (j := 5) (by kernel_rfl) (hJ.valOf (by decide) (dep_of hdep 5 (by kernel_rfl)) rfl rfl)
      have e1 : a.eval (.tmp 26) = (.bool true) := eval_slot (j := 8) (by kernel_rfl) (hJ.valOf (by decide) (dep_of hdep 8 (by kernel_rfl)) rfl rfl)
      refine Step.val _ rfl rfl (wanted_none rfl) (.bool true) w' (fun ρ hρ => ?_) (hJ.val hGS hcl hL rfl (Below.refl _ _) _ rfl)
      rw [hρ] at e0 e1
      have ec0 : ρ (.const (.bool false)) = (.bool false) := (hρ _).symm
      clear hJ hsame hdep hcl hρ hsz hb
      go_simp
    · intro L a w' hL hsame hsz hJ hdep hcl
      have hb := hJ.kept.toBelow (Nat.le_refl _) (by simp)
      have e0 : a.eval (.tmp 27) = (.bool true) := eval_slot (j := 9) (by kernel_rfl) (hJ.valOf (by decide) (dep_of hdep 9 (by kernel_rfl)) rfl rfl)
      refine Step.val _ rfl rfl (wanted_none rfl) (.bool true) w' (fun ρ hρ => ?_) (hJ.val hGS hcl hL rfl (Below.refl _ _) _ rfl)
      rw [hρ] at e0
      clear hJ hsame hdep hcl hρ hsz hb
      go_simp
    · intro L a w' hL hsame hsz hJ hdep hcl
      have gd : valOf _ 10 a = .bool true := hJ.valOf (by decide) (dep_of hdep 10 (by kernel_rfl)) rfl rfl
      have hb := hJ.kept.toBelow (Nat.le_refl _) (by simp)
      have e0 : a.eval (.tmp 4) = (.pointer (some ⟨gh, 0, none⟩)) := eval_base hsame (by kernel_rfl)
      refine Step.val _ rfl rfl (wanted_some (g := 10) (b := true) rfl gd) (.pointer (some ⟨gh, 16, none⟩)) w' (fun ρ hρ => ?_) (hJ.val hGS hcl hL rfl (Below.refl _ _) _ rfl)
      rw [hρ] at e0
      clear hJ hsame hdep hcl hρ hsz hb gd
      go_simp
    · intro L a w' hL hsame hsz hJ hdep hcl
      have gd : valOf _ 10 a = .bool true := hJ.valOf (by decide) (dep_of hdep 10 (by kernel_rfl)) rfl rfl
      have hb := hJ.kept.toBelow (Nat.le_refl _) (by simp)
      have e0 : a.eval (.tmp 29) = (.pointer (some ⟨gh, 16, none⟩)) := eval_slot (j := 11) (by kernel_rfl) (hJ.valOf (by decide) (dep_of hdep 11 (by kernel_rfl)) rfl rfl)
      have hx := hJ.keptBox ((show Box _ gh 32 (scA (.slice A3a (H.g.rows * H.g.cols) c3a) H) from HSh7.out)) (by simp)
      have q0 : w'.cell? ⟨gh, 16, none⟩ = some (.bool H.org) := hx.cell 16
      refine Step.val _ rfl rfl (wanted_some (g := 10) (b := true) rfl gd) (.bool true) w' (fun ρ hρ => ?_) (hJ.val hGS hcl hL rfl (Below.refl _ _) _ rfl)
      clear hx
      rw [hρ] at e0
      clear hJ hsame hdep hcl hρ hsz hb gd
      go_simp
      exact EHO.out
    · intro L a w' hL hsame hsz hJ hdep hcl
      have hb := hJ.kept.toBelow (Nat.le_refl _) (by simp)
      have e0 : a.eval (.tmp 28) = (.bool true) := eval_slot (j := 10) (by kernel_rfl) (hJ.valOf (by decide) (dep_of hdep 10 (by kernel_rfl)) rfl rfl)
      have e1 : a.eval (.tmp 30) = (.bool true) := eval_slot (j := 12) (by kernel_rfl) (hJ.valOf (by decide) (dep_of hdep 12 (by kernel_rfl)) rfl rfl)
      refine Step.val _ rfl rfl (wanted_none rfl) (.bool true) w' (fun ρ hρ => ?_) (hJ.val hGS hcl hL rfl (Below.refl _ _) _ rfl)
      rw [hρ] at e0 e1
      have ec0 : ρ (.const (.bool false)) = (.bool false) := (hρ _).symm
      clear hJ hsame hdep hcl hρ hsz hb
      go_simp
    · intro L a w' hL hsame hsz hJ hdep hcl
      have hb := hJ.kept.toBelow (Nat.le_refl _) (by simp)
      have e0 : a.eval (.tmp 31) = (.bool true) := eval_slot (j := 13) (by kernel_rfl) (hJ.valOf (by decide) (dep_of hdep 13 (by kernel_rfl)) rfl rfl)
      refine Step.val _ rfl rfl (wanted_none rfl) (.bool true) w' (fun ρ hρ => ?_) (hJ.val hGS hcl hL rfl (Below.refl _ _) _ rfl)
      rw [hρ] at e0
      clear hJ hsame hdep hcl hρ hsz hb
      go_simp
    · intro L a w' hL hsame hsz hJ hdep hcl
      have gd : valOf _ 14 a = .bool true := hJ.valOf (by decide) (dep_of hdep 14 (by kernel_rfl)) rfl rfl
      have hb := hJ.kept.toBelow (Nat.le_refl _) (by simp)
      have e0 : a.eval (.tmp 5) = (.pointer (some ⟨gb, 0, none⟩)) := eval_base hsame (by kernel_rfl)
      refine Step.val _ rfl rfl (wanted_some (g := 14) (b := true) rfl gd) (.pointer (some ⟨gb, 3, none⟩)) w' (fun ρ hρ => ?_) (hJ.val hGS hcl hL rfl (Below.refl _ _) _ rfl)
      rw [hρ] at e0
      clear hJ hsame hdep hcl hρ hsz hb gd
      go_simp
    · intro L a w' hL hsame hsz hJ hdep hcl
      have gd : valOf _ 14 a = .bool true := hJ.valOf (by decide) (dep_of hdep 14 (by kernel_rfl)) rfl rfl
      have hb := hJ.kept.toBelow (Nat.le_refl _) (by simp)
      have e0 : a.eval (.tmp 33) = (.pointer (some ⟨gb, 3, none⟩)) := eval_slot (j := 15) (by kernel_rfl) (hJ.valOf (by decide) (dep_of hdep 15 (by kernel_rfl)) rfl rfl)
      have hx := hJ.keptBox ((show Box _ gb 32 (scA (.slice A3b (B.g.rows * B.g.cols) c3b) B) from HSb7.out)) (by simp)
      have q0 : w'.cell? ⟨gb, 3, none⟩ = some (.int .i64 (B.row : Nat)) := hx.cell 3
      refine Step.val _ rfl rfl (wanted_some (g := 14) (b := true) rfl gd) (.int .i64 (B.row : Nat)) w' (fun ρ hρ => ?_) (hJ.val hGS hcl hL rfl (Below.refl _ _) _ rfl)
      clear hx
      rw [hρ] at e0
      clear hJ hsame hdep hcl hρ hsz hb gd
      go_simp
    · intro L a w' hL hsame hsz hJ hdep hcl
      have gd : valOf _ 14 a = .bool true := hJ.valOf (by decide) (dep_of hdep 14 (by kernel_rfl)) rfl rfl
      have hb := hJ.kept.toBelow (Nat.le_refl _) (by simp)
      have e0 : a.eval (.tmp 34) = (.int .i64 (B.row : Nat)) := eval_slot (j := 16) (by kernel_rfl) (hJ.valOf (by decide) (dep_of hdep 16 (by kernel_rfl)) rfl rfl)
      refine Step.val _ rfl rfl (wanted_some (g := 14) (b := true) rfl gd) (.bool true) w' (fun ρ hρ => ?_) (hJ.val hGS hcl hL rfl (Below.refl _ _) _ rfl)
      rw [hρ] at e0
      have ec0 : ρ (.const (.int .i64 0)) = (.int .i64 0) := (hρ _).symm
      clear hJ hsame hdep hcl hρ hsz hb gd
      go_simp
      exact (by rw [EBR.out])
    · intro L a w' hL hsame hsz hJ hdep hcl
      have hb := hJ.kept.toBelow (Nat.le_refl _) (by simp)
      have e0 : a.eval (.tmp 32) = (.bool true) := eval_slot (j := 14) (by kernel_rfl) (hJ.valOf (by decide) (dep_of hdep 14 (by kernel_rfl)) rfl rfl)
      have e1 : a.eval (.tmp 35) = (.bool true) := eval_slot (j := 17) (by kernel_rfl) (hJ.valOf (by decide) (dep_of hdep 17 (by kernel_rfl)) rfl rfl)
      refine Step.val _ rfl rfl (wanted_none rfl) (.bool true) w' (fun ρ hρ => ?_) (hJ.val hGS hcl hL rfl (Below.refl _ _) _ rfl)
      rw [hρ] at e0 e1
      have ec0 : ρ (.const (.bool false)) = (.bool false) := (hρ _).symm
      clear hJ hsame hdep hcl hρ hsz hb
      go_simp
    · intro L a w' hL hsame hsz hJ hdep hcl
      have hb := hJ.kept.toBelow (Nat.le_refl _) (by simp)
      have e0 : a.eval (.tmp 36) = (.bool true) := eval_slot (j := 18) (by kernel_rfl) (hJ.valOf (by decide) (dep_of hdep 18 (by kernel_rfl)) rfl rfl)
      refine Step.val _ rfl rfl (wanted_none rfl) (.bool true) w' (fun ρ hρ => ?_) (hJ.val hGS hcl hL rfl (Below.refl _ _) _ rfl)
      rw [hρ] at e0
      clear hJ hsame hdep hcl hρ hsz hb
      go_simp
    · intro L a w' hL hsame hsz hJ hdep hcl
      have gd : valOf _ 19 a = .bool true := hJ.valOf (by decide) (dep_of hdep 19 (by kernel_rfl)) rfl rfl
      have hb := hJ.kept.toBelow (Nat.le_refl _) (by simp)
      have e0 : a.eval (.tmp 5) = (.pointer (some ⟨gb, 0, none⟩)) := eval_base hsame (by kernel_rfl)
      refine Step.val _ rfl rfl (wanted_some (g := 19) (b := true) rfl gd) (.pointer (some ⟨gb, 4, none⟩)) w' (fun ρ hρ => ?_) (hJ.val hGS hcl hL rfl (Below.refl _ _) _ rfl)
      rw [hρ] at e0
      clear hJ hsame hdep hcl hρ hsz hb gd
      go_simp
    · intro L a w' hL hsame hsz hJ hdep hcl
      have gd : valOf _ 19 a = .bool true := hJ.valOf (by decide) (dep_of hdep 19 (by kernel_rfl)) rfl rfl
      have hb := hJ.kept.toBelow (Nat.le_refl _) (by simp)
      have e0 : a.eval (.tmp 38) = (.pointer (some ⟨gb, 4, none⟩)) := eval_slot (j := 20) (by kernel_rfl) (hJ.valOf (by decide) (dep_of hdep 20 (by kernel_rfl)) rfl rfl)
      have hx := hJ.keptBox ((show Box _ gb 32 (scA (.slice A3b (B.g.rows * B.g.cols) c3b) B) from HSb7.out)) (by simp)
      have q0 : w'.cell? ⟨gb, 4, none⟩ = some (.int .i64 (B.col : Nat)) := hx.cell 4
      refine Step.val _ rfl rfl (wanted_some (g := 19) (b := true) rfl gd) (.int .i64 (B.col : Nat)) w' (fun ρ hρ => ?_) (hJ.val hGS hcl hL rfl (Below.refl _ _) _ rfl)
      clear hx
      rw [hρ] at e0
      clear hJ hsame hdep hcl hρ hsz hb gd
      go_simp
    · intro L a w' hL hsame hsz hJ hdep hcl
      have gd : valOf _ 19 a = .bool true := hJ.valOf (by decide) (dep_of hdep 19 (by kernel_rfl)) rfl rfl
      have hb := hJ.kept.toBelow (Nat.le_refl _) (by simp)
      have e0 : a.eval (.tmp 39) = (.int .i64 (B.col : Nat)) := eval_slot (j := 21) (by kernel_rfl) (hJ.valOf (by decide) (dep_of hdep 21 (by kernel_rfl)) rfl rfl)
      refine Step.val _ rfl rfl (wanted_some (g := 19) (b := true) rfl gd) (.bool true) w' (fun ρ hρ => ?_) (hJ.val hGS hcl hL rfl (Below.refl _ _) _ rfl)
      rw [hρ] at e0
      have ec0 : ρ (.const (.int .i64 0)) = (.int .i64 0) := (hρ _).symm
      clear hJ hsame hdep hcl hρ hsz hb gd
      go_simp
      exact (by rw [EBC.out])
    · intro L a w' hL hsame hsz hJ hdep hcl
      have hb := hJ.kept.toBelow (Nat.le_refl _) (by simp)
      have e0 : a.eval (.tmp 37) = (.bool true) := eval_slot (j := 19) (by kernel_rfl) (hJ.valOf (by decide) (dep_of hdep 19 (by kernel_rfl)) rfl rfl)
      have e1 : a.eval (.tmp 40) = (.bool true) := eval_slot (j := 22) (by kernel_rfl) (hJ.valOf (by decide) (dep_of hdep 22 (by kernel_rfl)) rfl rfl)
      refine Step.val _ rfl rfl (wanted_none rfl) (.bool true) w' (fun ρ hρ => ?_) (hJ.val hGS hcl hL rfl (Below.refl _ _) _ rfl)
      rw [hρ] at e0 e1
      have ec0 : ρ (.const (.bool false)) = (.bool false) := (hρ _).symm
      clear hJ hsame hdep hcl hρ hsz hb
      go_simp
    · intro L a w' hL hsame hsz hJ hdep hcl
      have hb := hJ.kept.toBelow (Nat.le_refl _) (by simp)
      have e0 : a.eval (.tmp 41) = (.bool true) := eval_slot (j := 23) (by kernel_rfl) (hJ.valOf (by decide) (dep_of hdep 23 (by kernel_rfl)) rfl rfl)
      refine Step.val _ rfl rfl (wanted_none rfl) (.bool true) w' (fun ρ hρ => ?_) (hJ.val hGS hcl hL rfl (Below.refl _ _) _ rfl)
      rw [hρ] at e0
      clear hJ hsame hdep hcl hρ hsz hb
      go_simp
    · intro L a w' hL hsame hsz hJ hdep hcl
      have gd : valOf _ 24 a = .bool true := hJ.valOf (by decide) (dep_of hdep 24 (by kernel_rfl)) rfl rfl
      have hb := hJ.kept.toBelow (Nat.le_refl _) (by simp)
      have e0 : a.eval (.tmp 5) = (.pointer (some ⟨gb, 0, none⟩)) := eval_base hsame (by kernel_rfl)
      refine Step.val _ rfl rfl (wanted_some (g := 24) (b := true) rfl gd) (.pointer (some ⟨gb, 16, none⟩)) w' (fun ρ hρ => ?_) (hJ.val hGS hcl hL rfl (Below.refl _ _) _ rfl)
      rw [hρ] at e0
      clear hJ hsame hdep hcl hρ hsz hb gd
      go_simp
    · intro L a w' hL hsame hsz hJ hdep hcl
      have gd : valOf _ 24 a = .bool true := hJ.valOf (by decide) (dep_of hdep 24 (by kernel_rfl)) rfl rfl
      have hb := hJ.kept.toBelow (Nat.le_refl _) (by simp)
      have e0 : a.eval (.tmp 43) = (.pointer (some ⟨gb, 16, none⟩)) := eval_slot (j := 25) (by kernel_rfl) (hJ.valOf (by decide) (dep_of hdep 25 (by kernel_rfl)) rfl rfl)
      have hx := hJ.keptBox ((show Box _ gb 32 (scA (.slice A3b (B.g.rows * B.g.cols) c3b) B) from HSb7.out)) (by simp)
      have q0 : w'.cell? ⟨gb, 16, none⟩ = some (.bool B.org) := hx.cell 16
      refine Step.val _ rfl rfl (wanted_some (g := 24) (b := true) rfl gd) (.bool false) w' (fun ρ hρ => ?_) (hJ.val hGS hcl hL rfl (Below.refl _ _) _ rfl)
      clear hx
      rw [hρ] at e0
      clear hJ hsame hdep hcl hρ hsz hb gd
      go_simp
      exact EBO.out
    · intro L a w' hL hsame hsz hJ hdep hcl
      have gd : valOf _ 24 a = .bool true := hJ.valOf (by decide) (dep_of hdep 24 (by kernel_rfl)) rfl rfl
      have hb := hJ.kept.toBelow (Nat.le_refl _) (by simp)
      have e0 : a.eval (.tmp 44) = (.bool false) := eval_slot (j := 26) (by kernel_rfl) (hJ.valOf (by decide) (dep_of hdep 26 (by kernel_rfl)) rfl rfl)
      refine Step.val _ rfl rfl (wanted_some (g := 24) (b := true) rfl gd) (.bool true) w' (fun ρ hρ => ?_) (hJ.val hGS hcl hL rfl (Below.refl _ _) _ rfl)
      rw [hρ] at e0
      clear hJ hsame hdep hcl hρ hsz hb gd
      go_simp
    · intro L a w' hL hsame hsz hJ hdep hcl
      have hb := hJ.kept.toBelow (Nat.le_refl _) (by simp)
      have e0 : a.eval (.tmp 42) = (.bool true) := eval_slot (j := 24) (by kernel_rfl) (hJ.valOf (by decide) (dep_of hdep 24 (by kernel_rfl)) rfl rfl)
      have e1 : a.eval (.tmp 45) = (.bool true) := eval_slot (j := 27) (by kernel_rfl) (hJ.valOf (by decide) (dep_of hdep 27 (by kernel_rfl)) rfl rfl)
      refine Step.val _ rfl rfl (wanted_none rfl) (.bool true) w' (fun ρ hρ => ?_) (hJ.val hGS hcl hL rfl (Below.refl _ _) _ rfl)
      rw [hρ] at e0 e1
      have ec0 : ρ (.const (.bool false)) = (.bool false) := (hρ _).symm
      clear hJ hsame hdep hcl hρ hsz hb
      go_simp
    · intro L a w' hL hsame hsz hJ hdep hcl
      have hb := hJ.kept.toBelow (Nat.le_refl _) (by simp)
      have e0 : a.eval (.tmp 46) = (.bool true) := eval_slot (j := 28) (by kernel_rfl) (hJ.valOf (by decide) (dep_of hdep 28 (by kernel_rfl)) rfl rfl)
      refine Step.val _ rfl rfl (wanted_none rfl) (.bool true) w' (fun ρ hρ => ?_) (hJ.val hGS hcl hL rfl (Below.refl _ _) _ rfl)
      rw [hρ] at e0
      clear hJ hsame hdep hcl hρ hsz hb
      go_simp
    · intro L a w' hL hsame hsz hJ hdep hcl
      have gd : valOf _ 29 a = .bool true := hJ.valOf (by decide) (dep_of hdep 29 (by kernel_rfl)) rfl rfl
      have hb := hJ.kept.toBelow (Nat.le_refl _) (by simp)
      have e0 : a.eval (.tmp 6) = (.pointer (some ⟨gq_, 0, none⟩)) := eval_base hsame (by kernel_rfl)
      refine Step.val _ rfl rfl (wanted_some (g := 29) (b := true) rfl gd) (.pointer (some ⟨gq_, 5, none⟩)) w' (fun ρ hρ => ?_) (hJ.val hGS hcl hL rfl (Below.refl _ _) _ rfl)
      rw [hρ] at e0
      clear hJ hsame hdep hcl hρ hsz hb gd
      go_simp
    · intro L a w' hL hsame hsz hJ hdep hcl
      have gd : valOf _ 29 a = .bool true := hJ.valOf (by decide) (dep_of hdep 29 (by kernel_rfl)) rfl rfl
      have hb := hJ.kept.toBelow (Nat.le_refl _) (by simp)
      have e0 : a.eval (.tmp 48) = (.pointer (some ⟨gq_, 5, none⟩)) := eval_slot (j := 30) (by kernel_rfl) (hJ.valOf (by decide) (dep_of hdep 30 (by kernel_rfl)) rfl rfl)
      have hx := hJ.keptBox ((show Box _ gq_ 32 (scA (.slice A4 (D.g.rows * D.g.cols) c4) D) from HSd4.out)) (by simp)
      have q0 : w'.cell? ⟨gq_, 5, none⟩ = some (.bool D.pend) := hx.cell 5
      refine Step.val _ rfl rfl (wanted_some (g := 29) (b := true) rfl gd) (.bool false) w' (fun ρ hρ => ?_) (hJ.val hGS hcl hL rfl (Below.refl _ _) _ rfl)
      clear hx
      rw [hρ] at e0
      clear hJ hsame hdep hcl hρ hsz hb gd
      go_simp
      exact EDP.out
    · intro L a w' hL hsame hsz hJ hdep hcl
      have gd : valOf _ 29 a = .bool true := hJ.valOf (by decide) (dep_of hdep 29 (by kernel_rfl)) rfl rfl
      have hb := hJ.kept.toBelow (Nat.le_refl _) (by simp)
      have e0 : a.eval (.tmp 49) = (.bool false) := eval_slot (j := 31) (by kernel_rfl) (hJ.valOf (by decide) (dep_of hdep 31 (by kernel_rfl)) rfl rfl)
      refine Step.val _ rfl rfl (wanted_some (g := 29) (b := true) rfl gd) (.bool true) w' (fun ρ hρ => ?_) (hJ.val hGS hcl hL rfl (Below.refl _ _) _ rfl)
      rw [hρ] at e0
      clear hJ hsame hdep hcl hρ hsz hb gd
      go_simp
    · intro L a w' hL hsame hsz hJ hdep hcl
      have hb := hJ.kept.toBelow (Nat.le_refl _) (by simp)
      have e0 : a.eval (.tmp 47) = (.bool true) := eval_slot (j := 29) (by kernel_rfl) (hJ.valOf (by decide) (dep_of hdep 29 (by kernel_rfl)) rfl rfl)
      have e1 : a.eval (.tmp 50) = (.bool true) := eval_slot (j := 32) (by kernel_rfl) (hJ.valOf (by decide) (dep_of hdep 32 (by kernel_rfl)) rfl rfl)
      refine Step.val _ rfl rfl (wanted_none rfl) (.bool true) w' (fun ρ hρ => ?_) (hJ.val hGS hcl hL rfl (Below.refl _ _) _ rfl)
      rw [hρ] at e0 e1
      have ec0 : ρ (.const (.bool false)) = (.bool false) := (hρ _).symm
      clear hJ hsame hdep hcl hρ hsz hb
      go_simp
    · intro L a w' hL hsame hsz hJ hdep hcl
      have hb := hJ.kept.toBelow (Nat.le_refl _) (by simp)
      have e0 : a.eval (.tmp 51) = (.bool true) := eval_slot (j := 33) (by kernel_rfl) (hJ.valOf (by decide) (dep_of hdep 33 (by kernel_rfl)) rfl rfl)
      refine Step.val _ rfl rfl (wanted_none rfl) (.bool true) w' (fun ρ hρ => ?_) (hJ.val hGS hcl hL rfl (Below.refl _ _) _ rfl)
      rw [hρ] at e0
      clear hJ hsame hdep hcl hρ hsz hb
      go_simp
    · intro L a w' hL hsame hsz hJ hdep hcl
      have gd : valOf _ 34 a = .bool true := hJ.valOf (by decide) (dep_of hdep 34 (by kernel_rfl)) rfl rfl
      have hb := hJ.kept.toBelow (Nat.le_refl _) (by simp)
      have e0 : a.eval (.tmp 7) = (.pointer (some ⟨gv_, 0, none⟩)) := eval_base hsame (by kernel_rfl)
      refine Step.val _ rfl rfl (wanted_some (g := 34) (b := true) rfl gd) (.pointer (some ⟨gv_, 5, none⟩)) w' (fun ρ hρ => ?_) (hJ.val hGS hcl hL rfl (Below.refl _ _) _ rfl)
      rw [hρ] at e0
      clear hJ hsame hdep hcl hρ hsz hb gd
      go_simp
    · intro L a w' hL hsame hsz hJ hdep hcl
      have gd : valOf _ 34 a = .bool true := hJ.valOf (by decide) (dep_of hdep 34 (by kernel_rfl)) rfl rfl
      have hb := hJ.kept.toBelow (Nat.le_refl _) (by simp)
      have e0 : a.eval (.tmp 53) = (.pointer (some ⟨gv_, 5, none⟩)) := eval_slot (j := 35) (by kernel_rfl) (hJ.valOf (by decide) (dep_of hdep 35 (by kernel_rfl)) rfl rfl)
      have hx := hJ.keptBox ((show Box _ gv_ 32 (scA (.slice A5 (V.g.rows * V.g.cols) c5) V) from HSv1.out)) (by simp)
      have q0 : w'.cell? ⟨gv_, 5, none⟩ = some (.bool V.pend) := hx.cell 5
      refine Step.val _ rfl rfl (wanted_some (g := 34) (b := true) rfl gd) (.bool false) w' (fun ρ hρ => ?_) (hJ.val hGS hcl hL rfl (Below.refl _ _) _ rfl)
      clear hx
      rw [hρ] at e0
      clear hJ hsame hdep hcl hρ hsz hb gd
      go_simp
      exact EVP.out
    · intro L a w' hL hsame hsz hJ hdep hcl
      have gd : valOf _ 34 a = .bool true := hJ.valOf (by decide) (dep_of hdep 34 (by kernel_rfl)) rfl rfl
      have hb := hJ.kept.toBelow (Nat.le_refl _) (by simp)
      have e0 : a.eval (.tmp 54) = (.bool false) := eval_slot (j := 36) (by kernel_rfl) (hJ.valOf (by decide) (dep_of hdep 36 (by kernel_rfl)) rfl rfl)
      refine Step.val _ rfl rfl (wanted_some (g := 34) (b := true) rfl gd) (.bool true) w' (fun ρ hρ => ?_) (hJ.val hGS hcl hL rfl (Below.refl _ _) _ rfl)
      rw [hρ] at e0
      clear hJ hsame hdep hcl hρ hsz hb gd
      go_simp
    · intro L a w' hL hsame hsz hJ hdep hcl
      have hb := hJ.kept.toBelow (Nat.le_refl _) (by simp)
      have e0 : a.eval (.tmp 52) = (.bool true) := eval_slot (j := 34) (by kernel_rfl) (hJ.valOf (by decide) (dep_of hdep 34 (by kernel_rfl)) rfl rfl)
      have e1 : a.eval (.tmp 55) = (.bool true) := eval_slot (j := 37) (by kernel_rfl) (hJ.valOf (by decide) (dep_of hdep 37 (by kernel_rfl)) rfl rfl)
      refine Step.val _ rfl rfl (wanted_none rfl) (.bool true) w' (fun ρ hρ => ?_) (hJ.val hGS hcl hL rfl (Below.refl _ _) _ rfl)
      rw [hρ] at e0 e1
      have ec0 : ρ (.const (.bool false)) = (.bool false) := (hρ _).symm
      clear hJ hsame hdep hcl hρ hsz hb
      go_simp
    · intro L a w' hL hsame hsz hJ hdep hcl
      have hb := hJ.kept.toBelow (Nat.le_refl _) (by simp)
      have e0 : a.eval (.tmp 56) = (.bool true) := eval_slot (j := 38) (by kernel_rfl) (hJ.valOf (by decide) (dep_of hdep 38 (by kernel_rfl)) rfl rfl)
      refine Step.val _ rfl rfl (wanted_none rfl) (.bool true) w' (fun ρ hρ => ?_) (hJ.val hGS hcl hL rfl (Below.refl _ _) _ rfl)
      rw [hρ] at e0
      clear hJ hsame hdep hcl hρ hsz hb
      go_simp
    · intro L a w' hL hsame hsz hJ hdep hcl
      have gd : valOf _ 39 a = .bool true := hJ.valOf (by decide) (dep_of hdep 39 (by kernel_rfl)) rfl rfl
      have hb := hJ.kept.toBelow (Nat.le_refl _) (by simp)
      have e0 : a.eval (.tmp 7) = (.pointer (some ⟨gv_, 0, none⟩)) := eval_base hsame (by kernel_rfl)
      refine Step.val _ rfl rfl (wanted_some (g := 39) (b := true) rfl gd) (.pointer (some ⟨gv_, 15, none⟩)) w' (fun ρ hρ => ?_) (hJ.val hGS hcl hL rfl (Below.refl _ _) _ rfl)
      rw [hρ] at e0
      clear hJ hsame hdep hcl hρ hsz hb gd
      go_simp
    · intro L a w' hL hsame hsz hJ hdep hcl
      have gd : valOf _ 39 a = .bool true := hJ.valOf (by decide) (dep_of hdep 39 (by kernel_rfl)) rfl rfl
      have hb := hJ.kept.toBelow (Nat.le_refl _) (by simp)
      have e0 : a.eval (.tmp 58) = (.pointer (some ⟨gv_, 15, none⟩)) := eval_slot (j := 40) (by kernel_rfl) (hJ.valOf (by decide) (dep_of hdep 40 (by kernel_rfl)) rfl rfl)
      have hx := hJ.keptBox ((show Box _ gv_ 32 (scA (.slice A5 (V.g.rows * V.g.cols) c5) V) from HSv1.out)) (by simp)
      have q0 : w'.cell? ⟨gv_, 15, none⟩ = some (.bool V.wrap) := hx.cell 15
      refine Step.val _ rfl rfl (wanted_some (g := 39) (b := true) rfl gd) (.bool true) w' (fun ρ hρ => ?_) (hJ.val hGS hcl hL rfl (Below.refl _ _) _ rfl)
      clear hx
      rw [hρ] at e0
      clear hJ hsame hdep hcl hρ hsz hb gd
      go_simp
      exact EVW.out
    · intro L a w' hL hsame hsz hJ hdep hcl
      have hb := hJ.kept.toBelow (Nat.le_refl _) (by simp)
      have e0 : a.eval (.tmp 57) = (.bool true) := eval_slot (j := 39) (by kernel_rfl) (hJ.valOf (by decide) (dep_of hdep 39 (by kernel_rfl)) rfl rfl)
      have e1 : a.eval (.tmp 59) = (.bool true) := eval_slot (j := 41) (by kernel_rfl) (hJ.valOf (by decide) (dep_of hdep 41 (by kernel_rfl)) rfl rfl)
      refine Step.val _ rfl rfl (wanted_none rfl) (.bool true) w' (fun ρ hρ => ?_) (hJ.val hGS hcl hL rfl (Below.refl _ _) _ rfl)
      rw [hρ] at e0 e1
      have ec0 : ρ (.const (.bool false)) = (.bool false) := (hρ _).symm
      clear hJ hsame hdep hcl hρ hsz hb
      go_simp
    · intro L a w' hL hsame hsz hJ hdep hcl
      have hb := hJ.kept.toBelow (Nat.le_refl _) (by simp)
      have e0 : a.eval (.tmp 60) = (.bool true) := eval_slot (j := 42) (by kernel_rfl) (hJ.valOf (by decide) (dep_of hdep 42 (by kernel_rfl)) rfl rfl)
      refine Step.val _ rfl rfl (wanted_none rfl) (.bool true) w' (fun ρ hρ => ?_) (hJ.val hGS hcl hL rfl (Below.refl _ _) _ rfl)
      rw [hρ] at e0
      clear hJ hsame hdep hcl hρ hsz hb
      go_simp
    · intro L a w' hL hsame hsz hJ hdep hcl
      have gd : valOf _ 43 a = .bool true := hJ.valOf (by decide) (dep_of hdep 43 (by kernel_rfl)) rfl rfl
      have hb := hJ.kept.toBelow (Nat.le_refl _) (by simp)
      have e0 : a.eval (.tmp 6) = (.pointer (some ⟨gq_, 0, none⟩)) := eval_base hsame (by kernel_rfl)
      refine Step.val _ rfl rfl (wanted_some (g := 43) (b := true) rfl gd) (.pointer (some ⟨gq_, 3, none⟩)) w' (fun ρ hρ => ?_) (hJ.val hGS hcl hL rfl (Below.refl _ _) _ rfl)
      rw [hρ] at e0
      clear hJ hsame hdep hcl hρ hsz hb gd
      go_simp
    · intro L a w' hL hsame hsz hJ hdep hcl
      have gd : valOf _ 43 a = .bool true := hJ.valOf (by decide) (dep_of hdep 43 (by kernel_rfl)) rfl rfl
      have hb := hJ.kept.toBelow (Nat.le_refl _) (by simp)
      have e0 : a.eval (.tmp 62) = (.pointer (some ⟨gq_, 3, none⟩)) := eval_slot (j := 44) (by kernel_rfl) (hJ.valOf (by decide) (dep_of hdep 44 (by kernel_rfl)) rfl rfl)
      have hx := hJ.keptBox ((show Box _ gq_ 32 (scA (.slice A4 (D.g.rows * D.g.cols) c4) D) from HSd4.out)) (by simp)
      have q0 : w'.cell? ⟨gq_, 3, none⟩ = some (.int .i64 (D.row : Nat)) := hx.cell 3
      refine Step.val _ rfl rfl (wanted_some (g := 43) (b := true) rfl gd) (.int .i64 (D.row : Nat)) w' (fun ρ hρ => ?_) (hJ.val hGS hcl hL rfl (Below.refl _ _) _ rfl)
      clear hx
      rw [hρ] at e0
      clear hJ hsame hdep hcl hρ hsz hb gd
      go_simp
    · intro L a w' hL hsame hsz hJ hdep hcl
      have gd : valOf _ 43 a = .bool true := hJ.valOf (by decide) (dep_of hdep 43 (by kernel_rfl)) rfl rfl
      have hb := hJ.kept.toBelow (Nat.le_refl _) (by simp)
      have e0 : a.eval (.tmp 3) = (.pointer (some ⟨gs, 0, none⟩)) := eval_base hsame (by kernel_rfl)
      refine Step.val _ rfl rfl (wanted_some (g := 43) (b := true) rfl gd) (.pointer (some ⟨gs, 3, none⟩)) w' (fun ρ hρ => ?_) (hJ.val hGS hcl hL rfl (Below.refl _ _) _ rfl)
      rw [hρ] at e0
      clear hJ hsame hdep hcl hρ hsz hb gd
      go_simp
    · intro L a w' hL hsame hsz hJ hdep hcl
      have gd : valOf _ 43 a = .bool true := hJ.valOf (by decide) (dep_of hdep 43 (by kernel_rfl)) rfl rfl
      have hb := hJ.kept.toBelow (Nat.le_refl _) (by simp)
      have e0 : a.eval (.tmp 64) = (.pointer (some ⟨gs, 3, none⟩)) := eval_slot (j := 46) (by kernel_rfl) (hJ.valOf (by decide) (dep_of hdep 46 (by kernel_rfl)) rfl rfl)
      have hx := hJ.keptBox ((show Box _ gs 32 (scA (.slice A1 (S.g.rows * S.g.cols) c1) S) from HSs8.out)) (by simp)
      have q0 : w'.cell? ⟨gs, 3, none⟩ = some (.int .i64 (S.row : Nat)) := hx.cell 3
      refine Step.val _ rfl rfl (wanted_some (g := 43) (b := true) rfl gd) (.int .i64 (S.row : Nat)) w' (fun ρ hρ => ?_) (hJ.val hGS hcl hL rfl (Below.refl _ _) _ rfl)
      clear hx
      rw [hρ] at e0
      clear hJ hsame hdep hcl hρ hsz hb gd
      go_simp
    · intro L a w' hL hsame hsz hJ hdep hcl
      have gd : valOf _ 43 a = .bool true := hJ.valOf (by decide) (dep_of hdep 43 (by kernel_rfl)) rfl rfl
      have hb := hJ.kept.toBelow (Nat.le_refl _) (by simp)
      have e0 : a.eval (.tmp 63) = (.int .i64 (D.row : Nat)) := eval_slot (j := 45) (by kernel_rfl) (hJ.valOf (by decide) (dep_of hdep 45 (by kernel_rfl)) rfl rfl)
      have e1 : a.eval (.tmp 65) = (.int .i64 (S.row : Nat)) := eval_slot (j := 47) (by kernel_rfl) (hJ.valOf (by decide) (dep_of hdep 47 (by kernel_rfl)) rfl rfl)
      refine Step.val _ rfl rfl (wanted_some (g := 43) (b := true) rfl gd) (.bool true) w' (fun ρ hρ => ?_) (hJ.val hGS hcl hL rfl (Below.refl _ _) _ rfl)
      rw [hρ] at e0 e1
      clear hJ hsame hdep hcl hρ hsz hb gd
      go_simp
      exact congrArg (fun n : Nat => (n : Int)) EDR.out
    · intro L a w' hL hsame hsz hJ hdep hcl
      have hb := hJ.kept.toBelow (Nat.le_refl _) (by simp)
      have e0 : a.eval (.tmp 61) = (.bool true) := eval_slot (j := 43) (by kernel_rfl) (hJ.valOf (by decide) (dep_of hdep 43 (by kernel_rfl)) rfl rfl)
      have e1 : a.eval (.tmp 66) = (.bool true) := eval_slot (j := 48) (by kernel_rfl) (hJ.valOf (by decide) (dep_of hdep 48 (by kernel_rfl)) rfl rfl)
      refine Step.val _ rfl rfl (wanted_none rfl) (.bool true) w' (fun ρ hρ => ?_) (hJ.val hGS hcl hL rfl (Below.refl _ _) _ rfl)
      rw [hρ] at e0 e1
      have ec0 : ρ (.const (.bool false)) = (.bool false) := (hρ _).symm
      clear hJ hsame hdep hcl hρ hsz hb
      go_simp
    · intro L a w' hL hsame hsz hJ hdep hcl
      have hb := hJ.kept.toBelow (Nat.le_refl _) (by simp)
      have e0 : a.eval (.tmp 67) = (.bool true) := eval_slot (j := 49) (by kernel_rfl) (hJ.valOf (by decide) (dep_of hdep 49 (by kernel_rfl)) rfl rfl)
      refine Step.val _ rfl rfl (wanted_none rfl) (.bool true) w' (fun ρ hρ => ?_) (hJ.val hGS hcl hL rfl (Below.refl _ _) _ rfl)
      rw [hρ] at e0
      clear hJ hsame hdep hcl hρ hsz hb
      go_simp
    · intro L a w' hL hsame hsz hJ hdep hcl
      have gd : valOf _ 50 a = .bool true := hJ.valOf (by decide) (dep_of hdep 50 (by kernel_rfl)) rfl rfl
      have hb := hJ.kept.toBelow (Nat.le_refl _) (by simp)
      have e0 : a.eval (.tmp 6) = (.pointer (some ⟨gq_, 0, none⟩)) := eval_base hsame (by kernel_rfl)
      refine Step.val _ rfl rfl (wanted_some (g := 50) (b := true) rfl gd) (.pointer (some ⟨gq_, 4, none⟩)) w' (fun ρ hρ => ?_) (hJ.val hGS hcl hL rfl (Below.refl _ _) _ rfl)
      rw [hρ] at e0
      clear hJ hsame hdep hcl hρ hsz hb gd
      go_simp
    · intro L a w' hL hsame hsz hJ hdep hcl
      have gd : valOf _ 50 a = .bool true := hJ.valOf (by decide) (dep_of hdep 50 (by kernel_rfl)) rfl rfl
      have hb := hJ.kept.toBelow (Nat.le_refl _) (by simp)
      have e0 : a.eval (.tmp 69) = (.pointer (some ⟨gq_, 4, none⟩)) := eval_slot (j := 51) (by kernel_rfl) (hJ.valOf (by decide) (dep_of hdep 51 (by kernel_rfl)) rfl rfl)
      have hx := hJ.keptBox ((show Box _ gq_ 32 (scA (.slice A4 (D.g.rows * D.g.cols) c4) D) from HSd4.out)) (by simp)
      have q0 : w'.cell? ⟨gq_, 4, none⟩ = some (.int .i64 (D.col : Nat)) := hx.cell 4
      refine Step.val _ rfl rfl (wanted_some (g := 50) (b := true) rfl gd) (.int .i64 (D.col : Nat)) w' (fun ρ hρ => ?_) (hJ.val hGS hcl hL rfl (Below.refl _ _) _ rfl)
      clear hx
      rw [hρ] at e0
      clear hJ hsame hdep hcl hρ hsz hb gd
      go_simp
    · intro L a w' hL hsame hsz hJ hdep hcl
      have gd : valOf _ 50 a = .bool true := hJ.valOf (by decide) (dep_of hdep 50 (by kernel_rfl)) rfl rfl
      have hb := hJ.kept.toBelow (Nat.le_refl _) (by simp)
      have e0 : a.eval (.tmp 3) = (.pointer (some ⟨gs, 0, none⟩)) := eval_base hsame (by kernel_rfl)
      refine Step.val _ rfl rfl (wanted_some (g := 50) (b := true) rfl gd) (.pointer (some ⟨gs, 4, none⟩)) w' (fun ρ hρ => ?_) (hJ.val hGS hcl hL rfl (Below.refl _ _) _ rfl)
      rw [hρ] at e0
      clear hJ hsame hdep hcl hρ hsz hb gd
      go_simp
    · intro L a w' hL hsame hsz hJ hdep hcl
      have gd : valOf _ 50 a = .bool true := hJ.valOf (by decide) (dep_of hdep 50 (by kernel_rfl)) rfl rfl
      have hb := hJ.kept.toBelow (Nat.le_refl _) (by simp)
      have e0 : a.eval (.tmp 71) = (.pointer (some ⟨gs, 4, none⟩)) := eval_slot (j := 53) (by kernel_rfl) (hJ.valOf (by decide) (dep_of hdep 53 (by kernel_rfl)) rfl rfl)
      have hx := hJ.keptBox ((show Box _ gs 32 (scA (.slice A1 (S.g.rows * S.g.cols) c1) S) from HSs8.out)) (by simp)
      have q0 : w'.cell? ⟨gs, 4, none⟩ = some (.int .i64 (S.col : Nat)) := hx.cell 4
      refine Step.val _ rfl rfl (wanted_some (g := 50) (b := true) rfl gd) (.int .i64 (S.col : Nat)) w' (fun ρ hρ => ?_) (hJ.val hGS hcl hL rfl (Below.refl _ _) _ rfl)
      clear hx
      rw [hρ] at e0
      clear hJ hsame hdep hcl hρ hsz hb gd
      go_simp
    · intro L a w' hL hsame hsz hJ hdep hcl
      have gd : valOf _ 50 a = .bool true := hJ.valOf (by decide) (dep_of hdep 50 (by kernel_rfl)) rfl rfl
      have hb := hJ.kept.toBelow (Nat.le_refl _) (by simp)
      have e0 : a.eval (.tmp 70) = (.int .i64 (D.col : Nat)) := eval_slot (j := 52) (by kernel_rfl) (hJ.valOf (by decide) (dep_of hdep 52 (by kernel_rfl)) rfl rfl)
      have e1 : a.eval (.tmp 72) = (.int .i64 (S.col : Nat)) := eval_slot (j := 54) (by kernel_rfl) (hJ.valOf (by decide) (dep_of hdep 54 (by kernel_rfl)) rfl rfl)
      refine Step.val _ rfl rfl (wanted_some (g := 50) (b := true) rfl gd) (.bool true) w' (fun ρ hρ => ?_) (hJ.val hGS hcl hL rfl (Below.refl _ _) _ rfl)
      rw [hρ] at e0 e1
      clear hJ hsame hdep hcl hρ hsz hb gd
      go_simp
      exact congrArg (fun n : Nat => (n : Int)) EDC.out
    · intro L a w' hL hsame hsz hJ hdep hcl
      have hb := hJ.kept.toBelow (Nat.le_refl _) (by simp)
      have e0 : a.eval (.tmp 68) = (.bool true) := eval_slot (j := 50) (by kernel_rfl) (hJ.valOf (by decide) (dep_of hdep 50 (by kernel_rfl)) rfl rfl)
      have e1 : a.eval (.tmp 73) = (.bool true) := eval_slot (j := 55) (by kernel_rfl) (hJ.valOf (by decide) (dep_of hdep 55 (by kernel_rfl)) rfl rfl)
      refine Step.val _ rfl rfl (wanted_none rfl) (.bool true) w' (fun ρ hρ => ?_) (hJ.val hGS hcl hL rfl (Below.refl _ _) _ rfl)
      rw [hρ] at e0 e1
      have ec0 : ρ (.const (.bool false)) = (.bool false) := (hρ _).symm
      clear hJ hsame hdep hcl hρ hsz hb
      go_simp
    · intro L a w' hL hsame hsz hJ hdep hcl
      have hb := hJ.kept.toBelow (Nat.le_refl _) (by simp)
      have e0 : a.eval (.tmp 74) = (.bool true) := eval_slot (j := 56) (by kernel_rfl) (hJ.valOf (by decide) (dep_of hdep 56 (by kernel_rfl)) rfl rfl)
      refine Step.val _ rfl rfl (wanted_none rfl) (.bool true) w' (fun ρ hρ => ?_) (hJ.val hGS hcl hL rfl (Below.refl _ _) _ rfl)
      rw [hρ] at e0
      clear hJ hsame hdep hcl hρ hsz hb
      go_simp
    · intro L a w' hL hsame hsz hJ hdep hcl
      have gd : valOf _ 57 a = .bool true := hJ.valOf (by decide) (dep_of hdep 57 (by kernel_rfl)) rfl rfl
      have hb := hJ.kept.toBelow (Nat.le_refl _) (by simp)
      have e0 : a.eval (.tmp 3) = (.pointer (some ⟨gs, 0, none⟩)) := eval_base hsame (by kernel_rfl)
      have hx := hJ.keptBox ((show Box _ gs 32 (scA (.slice A1 (S.g.rows * S.g.cols) c1) S) from HSs8.out)) (by simp)
      exact Step.val _ rfl rfl (wanted_some (g := 57) (b := true) rfl gd) (.agg (scA (.slice A1 (S.g.rows * S.g.cols) c1) S)) w' (fun ρ hρ => exec_load_any hx rfl ρ _ rfl ((hρ _).symm.trans e0)) (hJ.val hGS hcl hL rfl (Below.refl _ _) _ rfl)
    · intro L a w' hL hsame hsz hJ hdep hcl
      have gd : valOf _ 57 a = .bool true := hJ.valOf (by decide) (dep_of hdep 57 (by kernel_rfl)) rfl rfl
      have hb := hJ.kept.toBelow (Nat.le_refl _) (by simp)
      have e0 : a.eval (.tmp 76) = (.agg (scA (.slice A1 (S.g.rows * S.g.cols) c1) S)) := eval_slot (j := 58) (by kernel_rfl) (hJ.valOf (by decide) (dep_of hdep 58 (by kernel_rfl)) rfl rfl)
      refine Step.call _ rfl rfl (wanted_some (g := 57) (b := true) rfl gd) 7 #[.agg (scA (.slice A1 (S.g.rows * S.g.cols) c1) S), .int .i64 25, .bool true] (fun ρ hρ => ?_) ?_
      · skip
        rw [hρ] at e0
        have ec0 : ρ (.const (.int .i64 25)) = (.int .i64 25) := (hρ _).symm
        have ec1 : ρ (.const (.bool true)) = (.bool true) := (hρ _).symm
        have ef : ρ (.func 7) = .func (.func 7) #[] #[] := (hρ _).symm
        clear hJ hsame hdep hcl hρ hsz hb gd
        go_simp
      · refine (MY.out _ _ ⟨_, rfl, (HGs10.out.low hb)⟩).mono ?_
        rintro e w2 ⟨v, rfl, hi, bb⟩
        exact ⟨_, rfl, hJ.pred hGS hcl hL rfl bb _ (scrV_of hi)⟩
    · intro L a w' hL hsame hsz hJ hdep hcl
      have gd : valOf _ 57 a = .bool true := hJ.valOf (by decide) (dep_of hdep 57 (by kernel_rfl)) rfl rfl
      have hb := hJ.kept.toBelow (Nat.le_refl _) (by simp)
      obtain ⟨A59', c59', hv59, hi59⟩ := (show (ScrV Y) (valOf _ 59 a) w' from hJ.predOf (by decide) (dep_of hdep 59 (by kernel_rfl)) rfl)
      have e0 : a.eval (.tmp 77) = .agg (scA (.slice A59' (Y.g.rows * Y.g.cols) c59') Y) := eval_slot (j := 59) (by kernel_rfl) hv59
      refine Step.val _ rfl rfl (wanted_some (g := 57) (b := true) rfl gd) (.bool true) w' (fun ρ hρ => ?_) (hJ.val hGS hcl hL rfl (Below.refl _ _) _ rfl)
      rw [hρ] at e0
      clear hJ hsame hdep hcl hρ hsz hb gd
      exact (exec_field_shown ρ _ rfl e0).trans (by rw [EYS.out])
    · intro L a w' hL hsame hsz hJ hdep hcl
      have hb := hJ.kept.toBelow (Nat.le_refl _) (by simp)
      have e0 : a.eval (.tmp 75) = (.bool true) := eval_slot (j := 57) (by kernel_rfl) (hJ.valOf (by decide) (dep_of hdep 57 (by kernel_rfl)) rfl rfl)
      have e1 : a.eval (.tmp 78) = (.bool true) := eval_slot (j := 60) (by kernel_rfl) (hJ.valOf (by decide) (dep_of hdep 60 (by kernel_rfl)) rfl rfl)
      refine Step.val _ rfl rfl (wanted_none rfl) (.bool true) w' (fun ρ hρ => ?_) (hJ.val hGS hcl hL rfl (Below.refl _ _) _ rfl)
      rw [hρ] at e0 e1
      have ec0 : ρ (.const (.bool false)) = (.bool false) := (hρ _).symm
      clear hJ hsame hdep hcl hρ hsz hb
      go_simp
    · intro L a w' hL hsame hsz hJ hdep hcl
      have hb := hJ.kept.toBelow (Nat.le_refl _) (by simp)
      have e0 : a.eval (.tmp 79) = (.bool true) := eval_slot (j := 61) (by kernel_rfl) (hJ.valOf (by decide) (dep_of hdep 61 (by kernel_rfl)) rfl rfl)
      refine Step.val _ rfl rfl (wanted_none rfl) (.bool true) w' (fun ρ hρ => ?_) (hJ.val hGS hcl hL rfl (Below.refl _ _) _ rfl)
      rw [hρ] at e0
      clear hJ hsame hdep hcl hρ hsz hb
      go_simp
    · intro L a w' hL hsame hsz hJ hdep hcl
      have gd : valOf _ 62 a = .bool true := hJ.valOf (by decide) (dep_of hdep 62 (by kernel_rfl)) rfl rfl
      have hb := hJ.kept.toBelow (Nat.le_refl _) (by simp)
      have e0 : a.eval (.tmp 3) = (.pointer (some ⟨gs, 0, none⟩)) := eval_base hsame (by kernel_rfl)
      have hx := hJ.keptBox ((show Box _ gs 32 (scA (.slice A1 (S.g.rows * S.g.cols) c1) S) from HSs8.out)) (by simp)
      exact Step.val _ rfl rfl (wanted_some (g := 62) (b := true) rfl gd) (.agg (scA (.slice A1 (S.g.rows * S.g.cols) c1) S)) w' (fun ρ hρ => exec_load_any hx rfl ρ _ rfl ((hρ _).symm.trans e0)) (hJ.val hGS hcl hL rfl (Below.refl _ _) _ rfl)
    · intro L a w' hL hsame hsz hJ hdep hcl
      have gd : valOf _ 62 a = .bool true := hJ.valOf (by decide) (dep_of hdep 62 (by kernel_rfl)) rfl rfl
      have hb := hJ.kept.toBelow (Nat.le_refl _) (by simp)
      have e0 : a.eval (.tmp 81) = (.agg (scA (.slice A1 (S.g.rows * S.g.cols) c1) S)) := eval_slot (j := 63) (by kernel_rfl) (hJ.valOf (by decide) (dep_of hdep 63 (by kernel_rfl)) rfl rfl)
      refine Step.call _ rfl rfl (wanted_some (g := 62) (b := true) rfl gd) 7 #[.agg (scA (.slice A1 (S.g.rows * S.g.cols) c1) S), .int .i64 1, .bool true] (fun ρ hρ => ?_) ?_
      · skip
        rw [hρ] at e0
        have ec0 : ρ (.const (.int .i64 1)) = (.int .i64 1) := (hρ _).symm
        have ec1 : ρ (.const (.bool true)) = (.bool true) := (hρ _).symm
        have ef : ρ (.func 7) = .func (.func 7) #[] #[] := (hρ _).symm
        clear hJ hsame hdep hcl hρ hsz hb gd
        go_simp
      · refine (MK.out _ _ ⟨_, rfl, (HGs10.out.low hb)⟩).mono ?_
        rintro e w2 ⟨v, rfl, hi, bb⟩
        exact ⟨_, rfl, hJ.pred hGS hcl hL rfl bb _ (scrV_of hi)⟩
    · intro L a w' hL hsame hsz hJ hdep hcl
      have gd : valOf _ 62 a = .bool true := hJ.valOf (by decide) (dep_of hdep 62 (by kernel_rfl)) rfl rfl
      have hb := hJ.kept.toBelow (Nat.le_refl _) (by simp)
      obtain ⟨A64', c64', hv64, hi64⟩ := (show (ScrV K) (valOf _ 64 a) w' from hJ.predOf (by decide) (dep_of hdep 64 (by kernel_rfl)) rfl)
      have e0 : a.eval (.tmp 82) = .agg (scA (.slice A64' (K.g.rows * K.g.cols) c64') K) := eval_slot (j := 64) (by kernel_rfl) hv64
      refine Step.val _ rfl rfl (wanted_some (g := 62) (b := true) rfl gd) (.bool true) w' (fun ρ hρ => ?_) (hJ.val hGS hcl hL rfl (Below.refl _ _) _ rfl)
      rw [hρ] at e0
      clear hJ hsame hdep hcl hρ hsz hb gd
      exact (exec_field_keys ρ _ rfl e0).trans (by rw [EKK.out])
    · intro L a w' hL hsame hsz hJ hdep hcl
      have hb := hJ.kept.toBelow (Nat.le_refl _) (by simp)
      have e0 : a.eval (.tmp 80) = (.bool true) := eval_slot (j := 62) (by kernel_rfl) (hJ.valOf (by decide) (dep_of hdep 62 (by kernel_rfl)) rfl rfl)
      have e1 : a.eval (.tmp 83) = (.bool true) := eval_slot (j := 65) (by kernel_rfl) (hJ.valOf (by decide) (dep_of hdep 65 (by kernel_rfl)) rfl rfl)
      refine Step.val _ rfl rfl (wanted_none rfl) (.bool true) w' (fun ρ hρ => ?_) (hJ.val hGS hcl hL rfl (Below.refl _ _) _ rfl)
      rw [hρ] at e0 e1
      have ec0 : ρ (.const (.bool false)) = (.bool false) := (hρ _).symm
      clear hJ hsame hdep hcl hρ hsz hb
      go_simp
    · intro L a w' hL hsame hsz hJ hdep hcl
      have hb := hJ.kept.toBelow (Nat.le_refl _) (by simp)
      have e0 : a.eval (.tmp 84) = (.bool true) := eval_slot (j := 66) (by kernel_rfl) (hJ.valOf (by decide) (dep_of hdep 66 (by kernel_rfl)) rfl rfl)
      refine Step.val _ rfl rfl (wanted_none rfl) (.bool true) w' (fun ρ hρ => ?_) (hJ.val hGS hcl hL rfl (Below.refl _ _) _ rfl)
      rw [hρ] at e0
      clear hJ hsame hdep hcl hρ hsz hb
      go_simp
    · intro L a w' hL hsame hsz hJ hdep hcl
      have gd : valOf _ 67 a = .bool true := hJ.valOf (by decide) (dep_of hdep 67 (by kernel_rfl)) rfl rfl
      have hb := hJ.kept.toBelow (Nat.le_refl _) (by simp)
      have e0 : a.eval (.tmp 3) = (.pointer (some ⟨gs, 0, none⟩)) := eval_base hsame (by kernel_rfl)
      have hx := hJ.keptBox ((show Box _ gs 32 (scA (.slice A1 (S.g.rows * S.g.cols) c1) S) from HSs8.out)) (by simp)
      exact Step.val _ rfl rfl (wanted_some (g := 67) (b := true) rfl gd) (.agg (scA (.slice A1 (S.g.rows * S.g.cols) c1) S)) w' (fun ρ hρ => exec_load_any hx rfl ρ _ rfl ((hρ _).symm.trans e0)) (hJ.val hGS hcl hL rfl (Below.refl _ _) _ rfl)
    · intro L a w' hL hsame hsz hJ hdep hcl
      have gd : valOf _ 67 a = .bool true := hJ.valOf (by decide) (dep_of hdep 67 (by kernel_rfl)) rfl rfl
      have hb := hJ.kept.toBelow (Nat.le_refl _) (by simp)
      have e0 : a.eval (.tmp 86) = (.agg (scA (.slice A1 (S.g.rows * S.g.cols) c1) S)) := eval_slot (j := 68) (by kernel_rfl) (hJ.valOf (by decide) (dep_of hdep 68 (by kernel_rfl)) rfl rfl)
      refine Step.call _ rfl rfl (wanted_some (g := 67) (b := true) rfl gd) 7 #[.agg (scA (.slice A1 (S.g.rows * S.g.cols) c1) S), .int .i64 9999, .bool true] (fun ρ hρ => ?_) ?_
      · skip
        rw [hρ] at e0
        have ec0 : ρ (.const (.int .i64 9999)) = (.int .i64 9999) := (hρ _).symm
        have ec1 : ρ (.const (.bool true)) = (.bool true) := (hρ _).symm
        have ef : ρ (.func 7) = .func (.func 7) #[] #[] := (hρ _).symm
        clear hJ hsame hdep hcl hρ hsz hb gd
        go_simp
      · refine (MN.out _ _ ⟨_, rfl, (HGs10.out.low hb)⟩).mono ?_
        rintro e w2 ⟨v, rfl, hi, bb⟩
        exact ⟨_, rfl, hJ.pred hGS hcl hL rfl bb _ (scrV_of hi)⟩
    · intro L a w' hL hsame hsz hJ hdep hcl
      have gd : valOf _ 67 a = .bool true := hJ.valOf (by decide) (dep_of hdep 67 (by kernel_rfl)) rfl rfl
      have hb := hJ.kept.toBelow (Nat.le_refl _) (by simp)
      have e0 : a.eval (.tmp 3) = (.pointer (some ⟨gs, 0, none⟩)) := eval_base hsame (by kernel_rfl)
      have hx := hJ.keptBox ((show Box _ gs 32 (scA (.slice A1 (S.g.rows * S.g.cols) c1) S) from HSs8.out)) (by simp)
      exact Step.val _ rfl rfl (wanted_some (g := 67) (b := true) rfl gd) (.agg (scA (.slice A1 (S.g.rows * S.g.cols) c1) S)) w' (fun ρ hρ => exec_load_any hx rfl ρ _ rfl ((hρ _).symm.trans e0)) (hJ.val hGS hcl hL rfl (Below.refl _ _) _ rfl)
    · intro L a w' hL hsame hsz hJ hdep hcl
      have gd : valOf _ 67 a = .bool true := hJ.valOf (by decide) (dep_of hdep 67 (by kernel_rfl)) rfl rfl
      have hb := hJ.kept.toBelow (Nat.le_refl _) (by simp)
      obtain ⟨A69', c69', hv69, hi69⟩ := (show (ScrV S) (valOf _ 69 a) w' from hJ.predOf (by decide) (dep_of hdep 69 (by kernel_rfl)) rfl)
      have e0 : a.eval (.tmp 87) = .agg (scA (.slice A69' (S.g.rows * S.g.cols) c69') S) := eval_slot (j := 69) (by kernel_rfl) hv69
      have e1 : a.eval (.tmp 88) = (.agg (scA (.slice A1 (S.g.rows * S.g.cols) c1) S)) := eval_slot (j := 70) (by kernel_rfl) (hJ.valOf (by decide) (dep_of hdep 70 (by kernel_rfl)) rfl rfl)
      refine Step.call _ rfl rfl (wanted_some (g := 67) (b := true) rfl gd) 15 #[.agg (scA (.slice A69' (S.g.rows * S.g.cols) c69') S), .agg (scA (.slice A1 (S.g.rows * S.g.cols) c1) S)] (fun ρ hρ => ?_) ?_
      · skip
        rw [hρ] at e0 e1
        have ef : ρ (.func 15) = .func (.func 15) #[] #[] := (hρ _).symm
        clear hJ hsame hdep hcl hρ hsz hb gd
        go_simp
      · refine (screens_is S _ _ _ _ _ HN.out hi69 (HGs10.out.low hb)).mono ?_
        rintro e w2 ⟨rfl, bb⟩
        exact ⟨_, rfl, hJ.val hGS hcl hL rfl bb _ rfl⟩
    · intro L a w' hL hsame hsz hJ hdep hcl
      have hb := hJ.kept.toBelow (Nat.le_refl _) (by simp)
      have e0 : a.eval (.tmp 85) = (.bool true) := eval_slot (j := 67) (by kernel_rfl) (hJ.valOf (by decide) (dep_of hdep 67 (by kernel_rfl)) rfl rfl)
      have e1 : a.eval (.tmp 89) = (.bool true) := eval_slot (j := 71) (by kernel_rfl) (hJ.valOf (by decide) (dep_of hdep 71 (by kernel_rfl)) rfl rfl)
      refine Step.val _ rfl rfl (wanted_none rfl) (.bool true) w' (fun ρ hρ => ?_) (hJ.val hGS hcl hL rfl (Below.refl _ _) _ rfl)
      rw [hρ] at e0 e1
      have ec0 : ρ (.const (.bool false)) = (.bool false) := (hρ _).symm
      clear hJ hsame hdep hcl hρ hsz hb
      go_simp
    · intro L a w' hL hsame hsz hJ hdep hcl
      have hb := hJ.kept.toBelow (Nat.le_refl _) (by simp)
      have e0 : a.eval (.tmp 90) = (.bool true) := eval_slot (j := 72) (by kernel_rfl) (hJ.valOf (by decide) (dep_of hdep 72 (by kernel_rfl)) rfl rfl)
      refine Step.val _ rfl rfl (wanted_none rfl) (.bool true) w' (fun ρ hρ => ?_) (hJ.val hGS hcl hL rfl (Below.refl _ _) _ rfl)
      rw [hρ] at e0
      clear hJ hsame hdep hcl hρ hsz hb
      go_simp
    · intro L a w' hL hsame hsz hJ hdep hcl
      have gd : valOf _ 73 a = .bool true := hJ.valOf (by decide) (dep_of hdep 73 (by kernel_rfl)) rfl rfl
      have hb := hJ.kept.toBelow (Nat.le_refl _) (by simp)
      refine Step.call _ rfl rfl (wanted_some (g := 73) (b := true) rfl gd) 3 #[] (fun ρ hρ => ?_) ?_
      · skip
        have ef : ρ (.func 3) = .func (.func 3) #[] #[] := (hρ _).symm
        clear hJ hsame hdep hcl hρ hsz hb gd
        go_simp
      · refine (modesRuns_any _ (HMT.out.keep (LO11.out.trans (hb.mono LO11.out.size)))).mono ?_
        rintro e w2 ⟨rfl, bb⟩
        exact ⟨_, rfl, hJ.val hGS hcl hL rfl bb _ rfl⟩
    · intro L a w' hL hsame hsz hJ hdep hcl
      have hb := hJ.kept.toBelow (Nat.le_refl _) (by simp)
      have e0 : a.eval (.tmp 91) = (.bool true) := eval_slot (j := 73) (by kernel_rfl) (hJ.valOf (by decide) (dep_of hdep 73 (by kernel_rfl)) rfl rfl)
      have e1 : a.eval (.tmp 92) = (.bool true) := eval_slot (j := 74) (by kernel_rfl) (hJ.valOf (by decide) (dep_of hdep 74 (by kernel_rfl)) rfl rfl)
      refine Step.val _ rfl rfl (wanted_none rfl) (.bool true) w' (fun ρ hρ => ?_) (hJ.val hGS hcl hL rfl (Below.refl _ _) _ rfl)
      rw [hρ] at e0 e1
      have ec0 : ρ (.const (.bool false)) = (.bool false) := (hρ _).symm
      clear hJ hsame hdep hcl hρ hsz hb
      go_simp
    · intro L a w' hL hsame hsz hJ hdep hcl
      have hb := hJ.kept.toBelow (Nat.le_refl _) (by simp)
      have e0 : a.eval (.tmp 93) = (.bool true) := eval_slot (j := 75) (by kernel_rfl) (hJ.valOf (by decide) (dep_of hdep 75 (by kernel_rfl)) rfl rfl)
      refine Step.val _ rfl rfl (wanted_none rfl) (.bool true) w' (fun ρ hρ => ?_) (hJ.val hGS hcl hL rfl (Below.refl _ _) _ rfl)
      rw [hρ] at e0
      clear hJ hsame hdep hcl hρ hsz hb
      go_simp
    · intro u w' hF
      change Exit.then _ _ Exit.normal (Act.put (Act.put (Act.put (Act.put (Act.put (Act.put (Act.put (Act.put (Act.put (Act.put (Act.put (Act.put (Act.put (Act.put (Act.put (Act.put (Act.put (Act.put (Act.put (Act.put (Act.put (Act.put (Act.put (Act.put (Act.put (Act.put (Act.put (Act.put (Act.put (Act.put (Act.put (Act.put (Act.put (Act.put (Act.put (Act.put (Act.put (Act.put (Act.put (Act.put (Act.put (Act.put (Act.put (Act.put (Act.put (Act.put (Act.put (Act.put (Act.put (Act.put (Act.put (Act.put (Act.put (Act.put (Act.put (Act.put (Act.put (Act.put (Act.put (Act.put (Act.put (Act.put (Act.put (Act.put (Act.put (Act.put (Act.put (Act.put (Act.put (Act.put (Act.put (Act.put (Act.put (Act.put (Act.put (Act.put (Act.put (putAll _ u 0 _) (some 18) (u 0)) (some 19) (u 1)) (some 20) (u 2)) (some 21) (u 3)) (some 22) (u 4)) (some 23) (u 5)) (some 24) (u 6)) (some 25) (u 7)) (some 26) (u 8)) (some 27) (u 9)) (some 28) (u 10)) (some 29) (u 11)) (some 30) (u 12)) (some 31) (u 13)) (some 32) (u 14)) (some 33) (u 15)) (some 34) (u 16)) (some 35) (u 17)) (some 36) (u 18)) (some 37) (u 19)) (some 38) (u 20)) (some 39) (u 21)) (some 40) (u 22)) (some 41) (u 23)) (some 42) (u 24)) (some 43) (u 25)) (some 44) (u 26)) (some 45) (u 27)) (some 46) (u 28)) (some 47) (u 29)) (some 48) (u 30)) (some 49) (u 31)) (some 50) (u 32)) (some 51) (u 33)) (some 52) (u 34)) (some 53) (u 35)) (some 54) (u 36)) (some 55) (u 37)) (some 56) (u 38)) (some 57) (u 39)) (some 58) (u 40)) (some 59) (u 41)) (some 60) (u 42)) (some 61) (u 43)) (some 62) (u 44)) (some 63) (u 45)) (some 64) (u 46)) (some 65) (u 47)) (some 66) (u 48)) (some 67) (u 49)) (some 68) (u 50)) (some 69) (u 51)) (some 70) (u 52)) (some 71) (u 53)) (some 72) (u 54)) (some 73) (u 55)) (some 74) (u 56)) (some 75) (u 57)) (some 76) (u 58)) (some 77) (u 59)) (some 78) (u 60)) (some 79) (u 61)) (some 80) (u 62)) (some 81) (u 63)) (some 82) (u 64)) (some 83) (u 65)) (some 84) (u 66)) (some 85) (u 67)) (some 86) (u 68)) (some 87) (u 69)) (some 88) (u 70)) (some 89) (u 71)) (some 90) (u 72)) (some 91) (u 73)) (some 92) (u 74)) (some 93) (u 75)) (some 2) (u 76)) _
      simp only [putAll]
      have f : u 76 = .bool true := hF.fin0 (j := 76) (by decide) rfl rfl
      have hk := hF.kept.toBelow (Nat.le_refl _) (by simp)
      clear hF
      generalize u 0 = y0
      generalize u 1 = y1
      generalize u 2 = y2
      generalize u 3 = y3
      generalize u 4 = y4
      generalize u 5 = y5
      generalize u 6 = y6
      generalize u 7 = y7
      generalize u 8 = y8
      generalize u 9 = y9
      generalize u 10 = y10
      generalize u 11 = y11
      generalize u 12 = y12
      generalize u 13 = y13
      generalize u 14 = y14
      generalize u 15 = y15
      generalize u 16 = y16
      generalize u 17 = y17
      generalize u 18 = y18
      generalize u 19 = y19
      generalize u 20 = y20
      generalize u 21 = y21
      generalize u 22 = y22
      generalize u 23 = y23
      generalize u 24 = y24
      generalize u 25 = y25
      generalize u 26 = y26
      generalize u 27 = y27
      generalize u 28 = y28
      generalize u 29 = y29
      generalize u 30 = y30
      generalize u 31 = y31
      generalize u 32 = y32
      generalize u 33 = y33
      generalize u 34 = y34
      generalize u 35 = y35
      generalize u 36 = y36
      generalize u 37 = y37
      generalize u 38 = y38
      generalize u 39 = y39
      generalize u 40 = y40
      generalize u 41 = y41
      generalize u 42 = y42
      generalize u 43 = y43
      generalize u 44 = y44
      generalize u 45 = y45
      generalize u 46 = y46
      generalize u 47 = y47
      generalize u 48 = y48
      generalize u 49 = y49
      generalize u 50 = y50
      generalize u 51 = y51
      generalize u 52 = y52
      generalize u 53 = y53
      generalize u 54 = y54
      generalize u 55 = y55
      generalize u 56 = y56
      generalize u 57 = y57
      generalize u 58 = y58
      generalize u 59 = y59
      generalize u 60 = y60
      generalize u 61 = y61
      generalize u 62 = y62
      generalize u 63 = y63
      generalize u 64 = y64
      generalize u 65 = y65
      generalize u 66 = y66
      generalize u 67 = y67
      generalize u 68 = y68
      generalize u 69 = y69
      generalize u 70 = y70
      generalize u 71 = y71
      generalize u 72 = y72
      generalize u 73 = y73
      generalize u 74 = y74
      generalize u 75 = y75
      generalize u 76 = y76 at f ⊢
      subst f
      go_simp
      go_step
      refine wp_ret ?_
      (try simp only [Exit.then, Exit.inBlock])
      refine bodyPost_ret (v := .bool true) (by simp [results, Tryd.results6, go_sem]) rfl ⟨rfl, LO11.out.trans (hk.mono LO11.out.size)⟩
end Go.Proofs.YtdcdinlppjlmfaaDoor
