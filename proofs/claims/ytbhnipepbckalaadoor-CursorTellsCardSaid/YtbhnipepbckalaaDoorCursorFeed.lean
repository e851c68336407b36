/- The document's own Feed and Back, told plainly. (written by tools/gencursorref.py) -/
import Derived.Test.YtbhnipepbckalaaDoorCursorRef
import Derived.Test.YtbhnipepbckalaaDoorGridScroll
import Derived.Test.YtbhnipepbckalaaDoorScreenEq
import Derived.Deep.DeepCutAuto
set_option maxRecDepth 100000
namespace Go.Proofs.YtbhnipepbckalaaDoor
open Go Go.RowKit
set_option linter.unusedVariables false
set_option maxHeartbeats 4000000 in
theorem rfeed_is (s : SN.Sc) (v : Value) (w : World) (hs : SN.RightS s) (h : IsS w s v) : Calls Tryd.prog 16 #[v] w (GotS w (SN.feedS s)) := by
  obtain ⟨x, rfl, hg⟩ := h
  obtain ⟨A, cp, rfl⟩ := gv_slice hg
  have hgr := hs.g.2.1
  have hgc := hs.g.2.2.2.1
  have hrow := hs.row
  have hcol := hs.col
  have htop := SN.top_bot hs
  have hbot := hs.bot
  have HG := hide hg
  by_cases he : s.row = s.bot
  · have e1 : ((s.row : Int) == (s.bot : Int)) = true := by simp; omega
    have hsz := PG.scroll_size s.g s.top s.bot 1 (SN.fillP s)
    have FL := hide (fun w' => rfill_is (s.u5 false) (.slice A (s.g.rows * s.g.cols) cp) w')
    have SI : PG.scrollI s.g s.top s.bot 1 (SN.fillP s) = PG.scrollG s.g s.top s.bot 1 (SN.fillP s) := (if_pos ⟨by omega, by omega⟩).trans (by simp)
    have SC0 := fun (w' : World) (hb : Below w.heap.size w w') => r_scroll (w := w') hs.g (hg.low hb) s.top s.bot 1 (SN.fillP s) (by omega)
    rw [SI] at SC0
    have HS := hide (show (s.uG (PG.scrollG s.g s.top s.bot 1 (SN.fillP s))).u5 false = SN.feedS s from (if_pos he).symm)
    have HGE := hide (show (SN.feedS s).g = PG.scrollG s.g s.top s.bot 1 (SN.fillP s) by rw [← HS.out]; rfl)
    generalize PG.scrollG s.g s.top s.bot 1 (SN.fillP s) = T at SC0 HS HGE
    have SCH := hide SC0
    generalize SN.feedS s = U at HS HGE ⊢
    clear SC0 SI he hg hsz
    go_enter Tryd.func16, Tryd.ntmps16
    go_upto_region 1 with (first | (refine wpList_box_scr rfl _ rfl rfl ?_; intro g w1 hB hb1 hg1) | (refine wpList_alloc_scr rfl rfl ?_; intro gR w2 csR hR hsR hb2 hgR))
    have HB2 := hide (hB.below hb2 hB.lt)
    have HW2 := hide (hb1.trans (hb2.mono hb1.size))
    have HR2 := hide hR
    have hb1s := hb1.size
    have hne : gR ≠ g := by have := hB.lt; omega
    have hgR' : w.heap.size ≤ gR := by omega
    have k3 := HB2.out.c3
    have k7 := HB2.out.c7
    have z5 := HB2.out.fz 5
    have k5 := HB2.out.c5
    clear hB hb1 hb2 hR
    go_upto_region 2 with fail
    have HB3 := hide (HB2.out.set5 false)
    have HR3 := hide (HR2.out.far (p := ⟨g, 5, none⟩) hne (.bool false))
    have HW3 := hide (HW2.out.setCell (p := ⟨g, 5, none⟩) hg1 (.bool false))
    generalize (w2.setCell ⟨g, 5, none⟩ (.bool false)) = w3 at HB3 HR3 HW3 ⊢
    clear k3 k7 k5 z5 HB2 HR2 HW2
    have k3 : w3.cell? ⟨g, 3, none⟩ = some (.int .i64 (s.row : Nat)) := HB3.out.c3
    have k7 : w3.cell? ⟨g, 7, none⟩ = some (.int .i64 (s.bot : Nat)) := HB3.out.c7
    have SC := hide (fun w' (hb : Below w3.heap.size w3 w') => (show Calls Tryd.prog 43 #[.agg #[.int .i64 s.g.rows, .int .i64 s.g.cols, .slice A (s.g.rows * s.g.cols) cp], .int .i64 s.top, .int .i64 s.bot, .int .i64 1, .agg #[.int .i64 (-1), .int .i64 s.pen.2.1, .int .i64 0]] w' (GotG w' T) from SCH.out w' (HW3.out.trans (hb.mono HW3.out.size))))
    clear SCH
    go_upto_region 3 with fail
    go_cut [] from 9 to 18 (fun wx => ∃ A4 c4, SBox wx g (.slice A4 (T.rows * T.cols) c4) ((s.u5 false).uG T) ∧ Below w.heap.size w wx ∧ Box wx gR 32 csR ∧ IsG wx T (gv T.rows T.cols (.slice A4 (T.rows * T.cols) c4)))
    case first =>
      refine wp_region_gt (n := 27) 10 [] (fun _ => #[]) [(0, 0, 0, 0, 0), (0, 0, 0, 0, 0), (0, 0, 0, 0, 0), (0, 0, 0, 0, 0), (0, 0, 0, 0, 0), (0, 0, 0, 0, 0), (0, 0, 0, 0, 0), (0, 0, 0, 0, 0), (1, 0, 0, 0, 0), (0, 0, 0, 0, 0), (0, 0, 0, 0, 0)] (fun j => [(.pointer (some ⟨g, 0, none⟩)), (.agg #[.int .i64 (s.g.rows : Nat), .int .i64 (s.g.cols : Nat), .slice A (s.g.rows * s.g.cols) cp]), (.pointer (some ⟨g, 6, none⟩)), (.int .i64 (s.top : Nat)), (.pointer (some ⟨g, 7, none⟩)), (.int .i64 (s.bot : Nat)), (.agg (scA (.slice A (s.g.rows * s.g.cols) cp) (s.u5 false))), (.agg #[.int .i64 (-1), .int .i64 s.pen.2.1, .int .i64 0]), undef, (.pointer (some ⟨g, 0, none⟩)), undef].getD j undef) [none, none, none, none, none, none, none, none, some (OwnG T)] (fun _ => 0) (by kernel_rfl) (by kernel_rfl) (by kernel_rfl) rfl (by kernel_rfl) (by kernel_rfl) (gno4 rfl) (fun i j h => by revert h; exact gno4 (p := fun _ => _) rfl i) (AllG.none_ (AllG.none_ (AllG.none_ (AllG.none_ (AllG.none_ (AllG.none_ (AllG.none_ (AllG.none_ (AllG.some_ (OwnG.stays (by kernel_rfl)) (AllG.nil _)))))))))) (fun hGS => cases10 ⟨?_, ?_, ?_, ?_, ?_, ?_, ?_, ?_, ?_, ?_⟩) ?_
      · intro L a w' hL hsame hsz hJ hdep hcl
        have hb := hJ.kept.toBelow (Nat.le_refl _) (by simp)
        have e0 : a.eval (.tmp 1) = (.pointer (some ⟨g, 0, none⟩)) := eval_base hsame (by kernel_rfl)
        refine Step.val _ rfl rfl (wanted_none rfl) (.pointer (some ⟨g, 0, none⟩)) w' (fun ρ hρ => ?_) (hJ.val hGS hcl hL rfl (Below.refl _ _) _ rfl)
        rw [hρ] at e0
        clear hJ hsame hdep hcl hρ hsz hb
        go_simp
      · intro L a w' hL hsame hsz hJ hdep hcl
        have hb := hJ.kept.toBelow (Nat.le_refl _) (by simp)
        have e0 : a.eval (.tmp 9) = (.pointer (some ⟨g, 0, none⟩)) := eval_slot (j := 0) (by kernel_rfl) (hJ.valOf (by decide) (dep_of hdep 0 (by kernel_rfl)) rfl rfl)
        have hx := hJ.keptBox (HB3.out) (by simp)
        have q0 : w'.cell? ⟨g, 0, none⟩ = some (.int .i64 (s.g.rows : Nat)) := hx.cell 0
        have q1 : w'.cell? ⟨g, 1, none⟩ = some (.int .i64 (s.g.cols : Nat)) := hx.cell 1
        have q2 : w'.cell? ⟨g, 2, none⟩ = some (.slice A (s.g.rows * s.g.cols) cp) := hx.cell 2
        refine Step.val _ rfl rfl (wanted_none rfl) (.agg #[.int .i64 (s.g.rows : Nat), .int .i64 (s.g.cols : Nat), .slice A (s.g.rows * s.g.cols) cp]) w' (fun ρ hρ => ?_) (hJ.val hGS hcl hL rfl (Below.refl _ _) _ rfl)
        clear hx
        rw [hρ] at e0
        clear hJ hsame hdep hcl hρ hsz hb
        go_simp
      · intro L a w' hL hsame hsz hJ hdep hcl
        have hb := hJ.kept.toBelow (Nat.le_refl _) (by simp)
        have e0 : a.eval (.tmp 1) = (.pointer (some ⟨g, 0, none⟩)) := eval_base hsame (by kernel_rfl)
        refine Step.val _ rfl rfl (wanted_none rfl) (.pointer (some ⟨g, 6, none⟩)) w' (fun ρ hρ => ?_) (hJ.val hGS hcl hL rfl (Below.refl _ _) _ rfl)
        rw [hρ] at e0
        clear hJ hsame hdep hcl hρ hsz hb
        go_simp
      · intro L a w' hL hsame hsz hJ hdep hcl
        have hb := hJ.kept.toBelow (Nat.le_refl _) (by simp)
        have e0 : a.eval (.tmp 11) = (.pointer (some ⟨g, 6, none⟩)) := eval_slot (j := 2) (by kernel_rfl) (hJ.valOf (by decide) (dep_of hdep 2 (by kernel_rfl)) rfl rfl)
        have hx := hJ.keptBox (HB3.out) (by simp)
        have q0 : w'.cell? ⟨g, 6, none⟩ = some (.int .i64 (s.top : Nat)) := hx.cell 6
        refine Step.val _ rfl rfl (wanted_none rfl) (.int .i64 (s.top : Nat)) w' (fun ρ hρ => ?_) (hJ.val hGS hcl hL rfl (Below.refl _ _) _ rfl)
        clear hx
        rw [hρ] at e0
        clear hJ hsame hdep hcl hρ hsz hb
        go_simp
      · intro L a w' hL hsame hsz hJ hdep hcl
        have hb := hJ.kept.toBelow (Nat.le_refl _) (by simp)
        have e0 : a.eval (.tmp 1) = (.pointer (some ⟨g, 0, none⟩)) := eval_base hsame (by kernel_rfl)
        refine Step.val _ rfl rfl (wanted_none rfl) (.pointer (some ⟨g, 7, none⟩)) w' (fun ρ hρ => ?_) (hJ.val hGS hcl hL rfl (Below.refl _ _) _ rfl)
        rw [hρ] at e0
        clear hJ hsame hdep hcl hρ hsz hb
        go_simp
      · intro L a w' hL hsame hsz hJ hdep hcl
        have hb := hJ.kept.toBelow (Nat.le_refl _) (by simp)
        have e0 : a.eval (.tmp 13) = (.pointer (some ⟨g, 7, none⟩)) := eval_slot (j := 4) (by kernel_rfl) (hJ.valOf (by decide) (dep_of hdep 4 (by kernel_rfl)) rfl rfl)
        have hx := hJ.keptBox (HB3.out) (by simp)
        have q0 : w'.cell? ⟨g, 7, none⟩ = some (.int .i64 (s.bot : Nat)) := hx.cell 7
        refine Step.val _ rfl rfl (wanted_none rfl) (.int .i64 (s.bot : Nat)) w' (fun ρ hρ => ?_) (hJ.val hGS hcl hL rfl (Below.refl _ _) _ rfl)
        clear hx
        rw [hρ] at e0
        clear hJ hsame hdep hcl hρ hsz hb
        go_simp
      · intro L a w' hL hsame hsz hJ hdep hcl
        have hb := hJ.kept.toBelow (Nat.le_refl _) (by simp)
        have e0 : a.eval (.tmp 1) = (.pointer (some ⟨g, 0, none⟩)) := eval_base hsame (by kernel_rfl)
        have hx := hJ.keptBox (HB3.out) (by simp)
        exact Step.val _ rfl rfl (wanted_none rfl) (.agg (scA (.slice A (s.g.rows * s.g.cols) cp) (s.u5 false))) w' (fun ρ hρ => exec_load_any hx rfl ρ _ rfl ((hρ _).symm.trans e0)) (hJ.val hGS hcl hL rfl (Below.refl _ _) _ rfl)
      · intro L a w' hL hsame hsz hJ hdep hcl
        have hb := hJ.kept.toBelow (Nat.le_refl _) (by simp)
        have e0 : a.eval (.tmp 15) = (.agg (scA (.slice A (s.g.rows * s.g.cols) cp) (s.u5 false))) := eval_slot (j := 6) (by kernel_rfl) (hJ.valOf (by decide) (dep_of hdep 6 (by kernel_rfl)) rfl rfl)
        refine Step.call _ rfl rfl (wanted_none rfl) 44 #[.agg (scA (.slice A (s.g.rows * s.g.cols) cp) (s.u5 false))] (fun ρ hρ => ?_) ?_
        · skip
          rw [hρ] at e0
          have ef : ρ (.func 44) = .func (.func 44) #[] #[] := (hρ _).symm
          clear hJ hsame hdep hcl hρ hsz hb
          go_simp
        · refine (FL.out _).mono ?_
          rintro e w2 ⟨rfl, bb⟩
          exact ⟨_, rfl, hJ.val hGS hcl hL rfl bb _ rfl⟩
      · intro L a w' hL hsame hsz hJ hdep hcl
        have hb := hJ.kept.toBelow (Nat.le_refl _) (by simp)
        have e0 : a.eval (.tmp 10) = (.agg #[.int .i64 (s.g.rows : Nat), .int .i64 (s.g.cols : Nat), .slice A (s.g.rows * s.g.cols) cp]) := eval_slot (j := 1) (by kernel_rfl) (hJ.valOf (by decide) (dep_of hdep 1 (by kernel_rfl)) rfl rfl)
        have e1 : a.eval (.tmp 12) = (.int .i64 (s.top : Nat)) := eval_slot (j := 3) (by kernel_rfl) (hJ.valOf (by decide) (dep_of hdep 3 (by kernel_rfl)) rfl rfl)
        have e2 : a.eval (.tmp 14) = (.int .i64 (s.bot : Nat)) := eval_slot (j := 5) (by kernel_rfl) (hJ.valOf (by decide) (dep_of hdep 5 (by kernel_rfl)) rfl rfl)
        have e4 : a.eval (.tmp 16) = (.agg #[.int .i64 (-1), .int .i64 s.pen.2.1, .int .i64 0]) := eval_slot (j := 7) (by kernel_rfl) (hJ.valOf (by decide) (dep_of hdep 7 (by kernel_rfl)) rfl rfl)
        refine Step.call _ rfl rfl (wanted_none rfl) 43 #[.agg #[.int .i64 (s.g.rows : Nat), .int .i64 (s.g.cols : Nat), .slice A (s.g.rows * s.g.cols) cp], .int .i64 (s.top : Nat), .int .i64 (s.bot : Nat), .int .i64 1, .agg #[.int .i64 (-1), .int .i64 s.pen.2.1, .int .i64 0]] (fun ρ hρ => ?_) ?_
        · skip
          rw [hρ] at e0 e1 e2 e4
          have ec0 : ρ (.const (.int .i64 1)) = (.int .i64 1) := (hρ _).symm
          have ef : ρ (.func 43) = .func (.func 43) #[] #[] := (hρ _).symm
          clear hJ hsame hdep hcl hρ hsz hb
          go_simp
        · refine (SC.out _ hb).mono ?_
          rintro e w2 ⟨v, rfl, ⟨y, rfl, ho⟩, bb⟩
          obtain ⟨A8, c8, rfl⟩ := gv_slice (G := T) ⟨_, rfl, ho⟩
          exact ⟨_, rfl, hJ.pred hGS hcl hL rfl bb _ ⟨A8, c8, rfl, ho⟩⟩
      · intro L a w' hL hsame hsz hJ hdep hcl
        have hb := hJ.kept.toBelow (Nat.le_refl _) (by simp)
        have e0 : a.eval (.tmp 1) = (.pointer (some ⟨g, 0, none⟩)) := eval_base hsame (by kernel_rfl)
        refine Step.val _ rfl rfl (wanted_none rfl) (.pointer (some ⟨g, 0, none⟩)) w' (fun ρ hρ => ?_) (hJ.val hGS hcl hL rfl (Below.refl _ _) _ rfl)
        rw [hρ] at e0
        clear hJ hsame hdep hcl hρ hsz hb
        go_simp
      · intro L u w' hF hall
        change wpList _ _ _ _ (Act.put (Act.put (Act.put (Act.put (Act.put (Act.put (Act.put (Act.put (Act.put (Act.put (Act.put (putAll _ u 0 _) (some 9) (u 0)) (some 10) (u 1)) (some 11) (u 2)) (some 12) (u 3)) (some 13) (u 4)) (some 14) (u 5)) (some 15) (u 6)) (some 16) (u 7)) (some 17) (u 8)) (some 18) (u 9)) none (u 10)) _
        simp only [putAll]
        obtain ⟨A4, c4, f8, ho4⟩ := (show OwnG T (u 8) w' from hF.predOf (j := 8) (by decide) (hall 8 (by decide)) rfl)
        have f9 : u 9 = .pointer (some ⟨g, 0, none⟩) := hF.valOf (j := 9) (by decide) (hall 9 (by decide)) rfl rfl
        have hk := hF.kept.toBelow (Nat.le_refl _) (by simp)
        clear hF
        generalize u 0 = z0
        generalize u 1 = z1
        generalize u 2 = z2
        generalize u 3 = z3
        generalize u 4 = z4
        generalize u 5 = z5
        generalize u 6 = z6
        generalize u 7 = z7
        generalize u 8 = z8 at f8 ⊢
        generalize u 9 = z9 at f9 ⊢
        generalize u 10 = z10
        subst f8 f9
        simp only [List.drop_succ_cons, List.drop_zero]
        refine wpList_store_gr (y := .slice A4 (T.rows * T.cols) c4) (G := T) (HB3.out.below hk HB3.out.lt) rfl _ _ rfl (by go_simp) (by go_simp; rfl) rfl ?_
        intro w8 hB8 hk8 hs8
        change Exit.then _ _ Exit.normal _ _
        go_simp
        go_step
        go_meet
        have hw := HW3.out.trans (hk.mono HW3.out.size)
        exact ⟨A4, c4, hB8, hw.trans (hk8.toBelow hw.size (fun k hh => by simp at hh; omega)), (HR3.out.below hk HR3.out.lt).kept hk8 (by simp; exact hne), IsG.kept (G := T) ⟨_, rfl, ho4⟩ (HB3.out.below hk HB3.out.lt) (by decide) hk8⟩
    case rest =>
      obtain ⟨A4, c4, hB4, hW4, hR4, hG4⟩ := hcut
      go_wp2_with (first | (refine wpList_load_scr hB4 rfl _ rfl rfl ?_) | (refine wpList_store_scr hR4 hsR rfl _ _ rfl rfl rfl rfl ?_; intro w8 hB8 hk8 hs8))
      refine bodyPost_ret (results_scr rfl rfl hB8) rfl ⟨_, rfl, ⟨_, by rw [← HS.out]; rfl, ?_⟩, hW4.trans (hk8.toBelow hW4.size (fun k hk => by simp at hk; omega))⟩
      rw [HGE.out]
      exact hG4.kept hR4 (by decide) hk8
  · have e1 : ((s.row : Int) == (s.bot : Int)) = false := by simp; omega
    have HS := hide (show SN.atS (s.u5 false) ((s.row : Int) + 1) s.col = SN.feedS s from (if_neg he).symm)
    have HGE := hide (show (SN.feedS s).g = s.g by rw [← HS.out]; rfl)
    have AT := hide (fun A n cp w' => rat_is (.slice A n cp) (s.u5 false) (SN.feedS s) ((s.row : Int) + 1) s.col w' rfl hs.g.1 (show s.g.rows ≤ 1000 by omega) hs.g.2.2.1 (show s.g.cols ≤ 1000 by omega) (by omega) (by omega) HS.out)
    generalize SN.feedS s = U at HS HGE AT ⊢
    clear he hg
    go_enter Tryd.func16, Tryd.ntmps16
    go_upto_region 1 with (first | (refine wpList_box_scr rfl _ rfl rfl ?_; intro g w1 hB hb1 hg1) | (refine wpList_alloc_scr rfl rfl ?_; intro gR w2 csR hR hsR hb2 hgR))
    have HB2 := hide (hB.below hb2 hB.lt)
    have HW2 := hide (hb1.trans (hb2.mono hb1.size))
    have HR2 := hide hR
    have hb1s := hb1.size
    have hne : gR ≠ g := by have := hB.lt; omega
    have hgR' : w.heap.size ≤ gR := by omega
    have z5 := HB2.out.fz 5
    have k5 := HB2.out.c5
    clear hB hb1 hb2 hR
    go_upto_region 2 with fail
    have HB3 := hide (HB2.out.set5 false)
    have HR3 := hide (HR2.out.far (p := ⟨g, 5, none⟩) hne (.bool false))
    have HW3 := hide (HW2.out.setCell (p := ⟨g, 5, none⟩) hg1 (.bool false))
    generalize (w2.setCell ⟨g, 5, none⟩ (.bool false)) = w3 at HB3 HR3 HW3 ⊢
    clear k5 z5 HB2 HR2 HW2
    have HG3 := hide (HG.out.low HW3.out)
    have k3 : w3.cell? ⟨g, 3, none⟩ = some (.int .i64 (s.row : Nat)) := HB3.out.c3
    have k4 : w3.cell? ⟨g, 4, none⟩ = some (.int .i64 (s.col : Nat)) := HB3.out.c4
    have k7 : w3.cell? ⟨g, 7, none⟩ = some (.int .i64 (s.bot : Nat)) := HB3.out.c7
    go_wp2_with (refine wpList_load_scr HB3.out rfl _ rfl rfl ?_)
    refine (AT.out _ _ _ _).mono ?_
    rintro e w7 ⟨rfl, hb7⟩
    have HR7 := hide (HR3.out.below hb7 HR3.out.lt)
    have HW7 := hide (HW3.out.trans (hb7.mono HW3.out.size))
    have HG7 := hide (HG3.out.low hb7)
    clear hb7 k3 k4 k7 HB3 HR3 HW3 HG3
    go_wp2_with (refine wpList_store_scr HR7.out hsR rfl _ _ rfl rfl rfl rfl ?_; intro w8 hB8 hk8 hs8)
    refine bodyPost_ret (results_scr rfl rfl hB8) rfl ⟨_, rfl, ⟨_, rfl, ?_⟩, HW7.out.trans (hk8.toBelow HW7.out.size (fun k hk => by simp at hk; omega))⟩
    rw [HGE.out]
    exact HG7.out.kept HR7.out (by decide) hk8
set_option maxHeartbeats 4000000 in
theorem rback_is (s : SN.Sc) (v : Value) (w : World) (hs : SN.RightS s) (h : IsS w s v) : Calls Tryd.prog 18 #[v] w (GotS w (SN.backS s)) := by
  obtain ⟨x, rfl, hg⟩ := h
  obtain ⟨A, cp, rfl⟩ := gv_slice hg
  have hgr := hs.g.2.1
  have hgc := hs.g.2.2.2.1
  have hrow := hs.row
  have hcol := hs.col
  have htop := SN.top_bot hs
  have hbot := hs.bot
  have HG := hide hg
  by_cases he : s.row = s.top
  · have e1 : ((s.row : Int) == (s.top : Int)) = true := by simp; omega
    have hsz := PG.scroll_size s.g s.top s.bot (-1) (SN.fillP s)
    have FL := hide (fun w' => rfill_is (s.u5 false) (.slice A (s.g.rows * s.g.cols) cp) w')
    have SI : PG.scrollI s.g s.top s.bot (-1) (SN.fillP s) = PG.scrollG s.g s.top s.bot (-1) (SN.fillP s) := (if_pos ⟨by omega, by omega⟩).trans (by simp)
    have SC0 := fun (w' : World) (hb : Below w.heap.size w w') => r_scroll (w := w') hs.g (hg.low hb) s.top s.bot (-1) (SN.fillP s) (by omega)
    rw [SI] at SC0
    have HS := hide (show (s.uG (PG.scrollG s.g s.top s.bot (-1) (SN.fillP s))).u5 false = SN.backS s from (if_pos he).symm)
    have HGE := hide (show (SN.backS s).g = PG.scrollG s.g s.top s.bot (-1) (SN.fillP s) by rw [← HS.out]; rfl)
    generalize PG.scrollG s.g s.top s.bot (-1) (SN.fillP s) = T at SC0 HS HGE
    have SCH := hide SC0
    generalize SN.backS s = U at HS HGE ⊢
    clear SC0 SI he hg hsz
    go_enter Tryd.func18, Tryd.ntmps18
    go_upto_region 1 with (first | (refine wpList_box_scr rfl _ rfl rfl ?_; intro g w1 hB hb1 hg1) | (refine wpList_alloc_scr rfl rfl ?_; intro gR w2 csR hR hsR hb2 hgR))
    have HB2 := hide (hB.below hb2 hB.lt)
    have HW2 := hide (hb1.trans (hb2.mono hb1.size))
    have HR2 := hide hR
    have hb1s := hb1.size
    have hne : gR ≠ g := by have := hB.lt; omega
    have hgR' : w.heap.size ≤ gR := by omega
    have k3 := HB2.out.c3
    have k6 := HB2.out.c6
    have z5 := HB2.out.fz 5
    have k5 := HB2.out.c5
    clear hB hb1 hb2 hR
    go_upto_region 2 with fail
    have HB3 := hide (HB2.out.set5 false)
    have HR3 := hide (HR2.out.far (p := ⟨g, 5, none⟩) hne (.bool false))
    have HW3 := hide (HW2.out.setCell (p := ⟨g, 5, none⟩) hg1 (.bool false))
    generalize (w2.setCell ⟨g, 5, none⟩ (.bool false)) = w3 at HB3 HR3 HW3 ⊢
    clear k3 k6 k5 z5 HB2 HR2 HW2
    have k3 : w3.cell? ⟨g, 3, none⟩ = some (.int .i64 (s.row : Nat)) := HB3.out.c3
    have k6 : w3.cell? ⟨g, 6, none⟩ = some (.int .i64 (s.top : Nat)) := HB3.out.c6
    have SC := hide (fun w' (hb : Below w3.heap.size w3 w') => (show Calls Tryd.prog 43 #[.agg #[.int .i64 s.g.rows, .int .i64 s.g.cols, .slice A (s.g.rows * s.g.cols) cp], .int .i64 s.top, .int .i64 s.bot, .int .i64 (-1), .agg #[.int .i64 (-1), .int .i64 s.pen.2.1, .int .i64 0]] w' (GotG w' T) from SCH.out w' (HW3.out.trans (hb.mono HW3.out.size))))
    clear SCH
    go_upto_region 3 with fail
    go_cut [] from 9 to 18 (fun wx => ∃ A4 c4, SBox wx g (.slice A4 (T.rows * T.cols) c4) ((s.u5 false).uG T) ∧ Below w.heap.size w wx ∧ Box wx gR 32 csR ∧ IsG wx T (gv T.rows T.cols (.slice A4 (T.rows * T.cols) c4)))
    case first =>
      refine wp_region_gt (n := 27) 10 [] (fun _ => #[]) [(0, 0, 0, 0, 0), (0, 0, 0, 0, 0), (0, 0, 0, 0, 0), (0, 0, 0, 0, 0), (0, 0, 0, 0, 0), (0, 0, 0, 0, 0), (0, 0, 0, 0, 0), (0, 0, 0, 0, 0), (1, 0, 0, 0, 0), (0, 0, 0, 0, 0), (0, 0, 0, 0, 0)] (fun j => [(.pointer (some ⟨g, 0, none⟩)), (.agg #[.int .i64 (s.g.rows : Nat), .int .i64 (s.g.cols : Nat), .slice A (s.g.rows * s.g.cols) cp]), (.pointer (some ⟨g, 6, none⟩)), (.int .i64 (s.top : Nat)), (.pointer (some ⟨g, 7, none⟩)), (.int .i64 (s.bot : Nat)), (.agg (scA (.slice A (s.g.rows * s.g.cols) cp) (s.u5 false))), (.agg #[.int .i64 (-1), .int .i64 s.pen.2.1, .int .i64 0]), undef, (.pointer (some ⟨g, 0, none⟩)), undef].getD j undef) [none, none, none, none, none, none, none, none, some (OwnG T)] (fun _ => 0) (by kernel_rfl) (by kernel_rfl) (by kernel_rfl) rfl (by kernel_rfl) (by kernel_rfl) (gno4 rfl) (fun i j h => by revert h; exact gno4 (p := fun _ => _) rfl i) (AllG.none_ (AllG.none_ (AllG.none_ (AllG.none_ (AllG.none_ (AllG.none_ (AllG.none_ (AllG.none_ (AllG.some_ (OwnG.stays (by kernel_rfl)) (AllG.nil _)))))))))) (fun hGS => cases10 ⟨?_, ?_, ?_, ?_, ?_, ?_, ?_, ?_, ?_, ?_⟩) ?_
      · intro L a w' hL hsame hsz hJ hdep hcl
        have hb := hJ.kept.toBelow (Nat.le_refl _) (by simp)
        have e0 : a.eval (.tmp 1) = (.pointer (some ⟨g, 0, none⟩)) := eval_base hsame (by kernel_rfl)
        refine Step.val _ rfl rfl (wanted_none rfl) (.pointer (some ⟨g, 0, none⟩)) w' (fun ρ hρ => ?_) (hJ.val hGS hcl hL rfl (Below.refl _ _) _ rfl)
        rw [hρ] at e0
        clear hJ hsame hdep hcl hρ hsz hb
        go_simp
      · intro L a w' hL hsame hsz hJ hdep hcl
        have hb := hJ.kept.toBelow (Nat.le_refl _) (by simp)
        have e0 : a.eval (.tmp 9) = (.pointer (some ⟨g, 0, none⟩)) := eval_slot (j := 0) (by kernel_rfl) (hJ.valOf (by decide) (dep_of hdep 0 (by kernel_rfl)) rfl rfl)
        have hx := hJ.keptBox (HB3.out) (by simp)
        have q0 : w'.cell? ⟨g, 0, none⟩ = some (.int .i64 (s.g.rows : Nat)) := hx.cell 0
        have q1 : w'.cell? ⟨g, 1, none⟩ = some (.int .i64 (s.g.cols : Nat)) := hx.cell 1
        have q2 : w'.cell? ⟨g, 2, none⟩ = some (.slice A (s.g.rows * s.g.cols) cp) := hx.cell 2
        refine Step.val _ rfl rfl (wanted_none rfl) (.agg #[.int .i64 (s.g.rows : Nat), .int .i64 (s.g.cols : Nat), .slice A (s.g.rows * s.g.cols) cp]) w' (fun ρ hρ => ?_) (hJ.val hGS hcl hL rfl (Below.refl _ _) _ rfl)
        clear hx
        rw [hρ] at e0
        clear hJ hsame hdep hcl hρ hsz hb
        go_simp
      · intro L a w' hL hsame hsz hJ hdep hcl
        have hb := hJ.kept.toBelow (Nat.le_refl _) (by simp)
        have e0 : a.eval (.tmp 1) = (.pointer (some ⟨g, 0, none⟩)) := eval_base hsame (by kernel_rfl)
        refine Step.val _ rfl rfl (wanted_none rfl) (.pointer (some ⟨g, 6, none⟩)) w' (fun ρ hρ => ?_) (hJ.val hGS hcl hL rfl (Below.refl _ _) _ rfl)
        rw [hρ] at e0
        clear hJ hsame hdep hcl hρ hsz hb
        go_simp
      · intro L a w' hL hsame hsz hJ hdep hcl
        have hb := hJ.kept.toBelow (Nat.le_refl _) (by simp)
        have e0 : a.eval (.tmp 11) = (.pointer (some ⟨g, 6, none⟩)) := eval_slot (j := 2) (by kernel_rfl) (hJ.valOf (by decide) (dep_of hdep 2 (by kernel_rfl)) rfl rfl)
        have hx := hJ.keptBox (HB3.out) (by simp)
        have q0 : w'.cell? ⟨g, 6, none⟩ = some (.int .i64 (s.top : Nat)) := hx.cell 6
        refine Step.val _ rfl rfl (wanted_none rfl) (.int .i64 (s.top : Nat)) w' (fun ρ hρ => ?_) (hJ.val hGS hcl hL rfl (Below.refl _ _) _ rfl)
        clear hx
        rw [hρ] at e0
        clear hJ hsame hdep hcl hρ hsz hb
        go_simp
      · intro L a w' hL hsame hsz hJ hdep hcl
        have hb := hJ.kept.toBelow (Nat.le_refl _) (by simp)
        have e0 : a.eval (.tmp 1) = (.pointer (some ⟨g, 0, none⟩)) := eval_base hsame (by kernel_rfl)
        refine Step.val _ rfl rfl (wanted_none rfl) (.pointer (some ⟨g, 7, none⟩)) w' (fun ρ hρ => ?_) (hJ.val hGS hcl hL rfl (Below.refl _ _) _ rfl)
        rw [hρ] at e0
        clear hJ hsame hdep hcl hρ hsz hb
        go_simp
      · intro L a w' hL hsame hsz hJ hdep hcl
        have hb := hJ.kept.toBelow (Nat.le_refl _) (by simp)
        have e0 : a.eval (.tmp 13) = (.pointer (some ⟨g, 7, none⟩)) := eval_slot (j := 4) (by kernel_rfl) (hJ.valOf (by decide) (dep_of hdep 4 (by kernel_rfl)) rfl rfl)
        have hx := hJ.keptBox (HB3.out) (by simp)
        have q0 : w'.cell? ⟨g, 7, none⟩ = some (.int .i64 (s.bot : Nat)) := hx.cell 7
        refine Step.val _ rfl rfl (wanted_none rfl) (.int .i64 (s.bot : Nat)) w' (fun ρ hρ => ?_) (hJ.val hGS hcl hL rfl (Below.refl _ _) _ rfl)
        clear hx
        rw [hρ] at e0
        clear hJ hsame hdep hcl hρ hsz hb
        go_simp
      · intro L a w' hL hsame hsz hJ hdep hcl
        have hb := hJ.kept.toBelow (Nat.le_refl _) (by simp)
        have e0 : a.eval (.tmp 1) = (.pointer (some ⟨g, 0, none⟩)) := eval_base hsame (by kernel_rfl)
        have hx := hJ.keptBox (HB3.out) (by simp)
        exact Step.val _ rfl rfl (wanted_none rfl) (.agg (scA (.slice A (s.g.rows * s.g.cols) cp) (s.u5 false))) w' (fun ρ hρ => exec_load_any hx rfl ρ _ rfl ((hρ _).symm.trans e0)) (hJ.val hGS hcl hL rfl (Below.refl _ _) _ rfl)
      · intro L a w' hL hsame hsz hJ hdep hcl
        have hb := hJ.kept.toBelow (Nat.le_refl _) (by simp)
        have e0 : a.eval (.tmp 15) = (.agg (scA (.slice A (s.g.rows * s.g.cols) cp) (s.u5 false))) := eval_slot (j := 6) (by kernel_rfl) (hJ.valOf (by decide) (dep_of hdep 6 (by kernel_rfl)) rfl rfl)
        refine Step.call _ rfl rfl (wanted_none rfl) 44 #[.agg (scA (.slice A (s.g.rows * s.g.cols) cp) (s.u5 false))] (fun ρ hρ => ?_) ?_
        · skip
          rw [hρ] at e0
          have ef : ρ (.func 44) = .func (.func 44) #[] #[] := (hρ _).symm
          clear hJ hsame hdep hcl hρ hsz hb
          go_simp
        · refine (FL.out _).mono ?_
          rintro e w2 ⟨rfl, bb⟩
          exact ⟨_, rfl, hJ.val hGS hcl hL rfl bb _ rfl⟩
      · intro L a w' hL hsame hsz hJ hdep hcl
        have hb := hJ.kept.toBelow (Nat.le_refl _) (by simp)
        have e0 : a.eval (.tmp 10) = (.agg #[.int .i64 (s.g.rows : Nat), .int .i64 (s.g.cols : Nat), .slice A (s.g.rows * s.g.cols) cp]) := eval_slot (j := 1) (by kernel_rfl) (hJ.valOf (by decide) (dep_of hdep 1 (by kernel_rfl)) rfl rfl)
        have e1 : a.eval (.tmp 12) = (.int .i64 (s.top : Nat)) := eval_slot (j := 3) (by kernel_rfl) (hJ.valOf (by decide) (dep_of hdep 3 (by kernel_rfl)) rfl rfl)
        have e2 : a.eval (.tmp 14) = (.int .i64 (s.bot : Nat)) := eval_slot (j := 5) (by kernel_rfl) (hJ.valOf (by decide) (dep_of hdep 5 (by kernel_rfl)) rfl rfl)
        have e4 : a.eval (.tmp 16) = (.agg #[.int .i64 (-1), .int .i64 s.pen.2.1, .int .i64 0]) := eval_slot (j := 7) (by kernel_rfl) (hJ.valOf (by decide) (dep_of hdep 7 (by kernel_rfl)) rfl rfl)
        refine Step.call _ rfl rfl (wanted_none rfl) 43 #[.agg #[.int .i64 (s.g.rows : Nat), .int .i64 (s.g.cols : Nat), .slice A (s.g.rows * s.g.cols) cp], .int .i64 (s.top : Nat), .int .i64 (s.bot : Nat), .int .i64 (-1), .agg #[.int .i64 (-1), .int .i64 s.pen.2.1, .int .i64 0]] (fun ρ hρ => ?_) ?_
        · skip
          rw [hρ] at e0 e1 e2 e4
          have ec0 : ρ (.const (.int .i64 (-1))) = (.int .i64 (-1)) := (hρ _).symm
          have ef : ρ (.func 43) = .func (.func 43) #[] #[] := (hρ _).symm
          clear hJ hsame hdep hcl hρ hsz hb
          go_simp
        · refine (SC.out _ hb).mono ?_
          rintro e w2 ⟨v, rfl, ⟨y, rfl, ho⟩, bb⟩
          obtain ⟨A8, c8, rfl⟩ := gv_slice (G := T) ⟨_, rfl, ho⟩
          exact ⟨_, rfl, hJ.pred hGS hcl hL rfl bb _ ⟨A8, c8, rfl, ho⟩⟩
      · intro L a w' hL hsame hsz hJ hdep hcl
        have hb := hJ.kept.toBelow (Nat.le_refl _) (by simp)
        have e0 : a.eval (.tmp 1) = (.pointer (some ⟨g, 0, none⟩)) := eval_base hsame (by kernel_rfl)
        refine Step.val _ rfl rfl (wanted_none rfl) (.pointer (some ⟨g, 0, none⟩)) w' (fun ρ hρ => ?_) (hJ.val hGS hcl hL rfl (Below.refl _ _) _ rfl)
        rw [hρ] at e0
        clear hJ hsame hdep hcl hρ hsz hb
        go_simp
      · intro L u w' hF hall
        change wpList _ _ _ _ (Act.put (Act.put (Act.put (Act.put (Act.put (Act.put (Act.put (Act.put (Act.put (Act.put (Act.put (putAll _ u 0 _) (some 9) (u 0)) (some 10) (u 1)) (some 11) (u 2)) (some 12) (u 3)) (some 13) (u 4)) (some 14) (u 5)) (some 15) (u 6)) (some 16) (u 7)) (some 17) (u 8)) (some 18) (u 9)) none (u 10)) _
        simp only [putAll]
        obtain ⟨A4, c4, f8, ho4⟩ := (show OwnG T (u 8) w' from hF.predOf (j := 8) (by decide) (hall 8 (by decide)) rfl)
        have f9 : u 9 = .pointer (some ⟨g, 0, none⟩) := hF.valOf (j := 9) (by decide) (hall 9 (by decide)) rfl rfl
        have hk := hF.kept.toBelow (Nat.le_refl _) (by simp)
        clear hF
        generalize u 0 = z0
        generalize u 1 = z1
        generalize u 2 = z2
        generalize u 3 = z3
        generalize u 4 = z4
        generalize u 5 = z5
        generalize u 6 = z6
        generalize u 7 = z7
        generalize u 8 = z8 at f8 ⊢
        generalize u 9 = z9 at f9 ⊢
        generalize u 10 = z10
        subst f8 f9
        simp only [List.drop_succ_cons, List.drop_zero]
        refine wpList_store_gr (y := .slice A4 (T.rows * T.cols) c4) (G := T) (HB3.out.below hk HB3.out.lt) rfl _ _ rfl (by go_simp) (by go_simp; rfl) rfl ?_
        intro w8 hB8 hk8 hs8
        change Exit.then _ _ Exit.normal _ _
        go_simp
        go_step
        go_meet
        have hw := HW3.out.trans (hk.mono HW3.out.size)
        exact ⟨A4, c4, hB8, hw.trans (hk8.toBelow hw.size (fun k hh => by simp at hh; omega)), (HR3.out.below hk HR3.out.lt).kept hk8 (by simp; exact hne), IsG.kept (G := T) ⟨_, rfl, ho4⟩ (HB3.out.below hk HB3.out.lt) (by decide) hk8⟩
    case rest =>
      obtain ⟨A4, c4, hB4, hW4, hR4, hG4⟩ := hcut
      go_wp2_with (first | (refine wpList_load_scr hB4 rfl _ rfl rfl ?_) | (refine wpList_store_scr hR4 hsR rfl _ _ rfl rfl rfl rfl ?_; intro w8 hB8 hk8 hs8))
      refine bodyPost_ret (results_scr rfl rfl hB8) rfl ⟨_, rfl, ⟨_, by rw [← HS.out]; rfl, ?_⟩, hW4.trans (hk8.toBelow hW4.size (fun k hk => by simp at hk; omega))⟩
      rw [HGE.out]
      exact hG4.kept hR4 (by decide) hk8
  · have e1 : ((s.row : Int) == (s.top : Int)) = false := by simp; omega
    have HS := hide (show SN.atS (s.u5 false) ((s.row : Int) - 1) s.col = SN.backS s from (if_neg he).symm)
    have HGE := hide (show (SN.backS s).g = s.g by rw [← HS.out]; rfl)
    have AT := hide (fun A n cp w' => rat_is (.slice A n cp) (s.u5 false) (SN.backS s) ((s.row : Int) - 1) s.col w' rfl hs.g.1 (show s.g.rows ≤ 1000 by omega) hs.g.2.2.1 (show s.g.cols ≤ 1000 by omega) (by omega) (by omega) HS.out)
    generalize SN.backS s = U at HS HGE AT ⊢
    clear he hg
    go_enter Tryd.func18, Tryd.ntmps18
    go_upto_region 1 with (first | (refine wpList_box_scr rfl _ rfl rfl ?_; intro g w1 hB hb1 hg1) | (refine wpList_alloc_scr rfl rfl ?_; intro gR w2 csR hR hsR hb2 hgR))
    have HB2 := hide (hB.below hb2 hB.lt)
    have HW2 := hide (hb1.trans (hb2.mono hb1.size))
    have HR2 := hide hR
    have hb1s := hb1.size
    have hne : gR ≠ g := by have := hB.lt; omega
    have hgR' : w.heap.size ≤ gR := by omega
    have z5 := HB2.out.fz 5
    have k5 := HB2.out.c5
    clear hB hb1 hb2 hR
    go_upto_region 2 with fail
    have HB3 := hide (HB2.out.set5 false)
    have HR3 := hide (HR2.out.far (p := ⟨g, 5, none⟩) hne (.bool false))
    have HW3 := hide (HW2.out.setCell (p := ⟨g, 5, none⟩) hg1 (.bool false))
    generalize (w2.setCell ⟨g, 5, none⟩ (.bool false)) = w3 at HB3 HR3 HW3 ⊢
    clear k5 z5 HB2 HR2 HW2
    have HG3 := hide (HG.out.low HW3.out)
    have k3 : w3.cell? ⟨g, 3, none⟩ = some (.int .i64 (s.row : Nat)) := HB3.out.c3
    have k4 : w3.cell? ⟨g, 4, none⟩ = some (.int .i64 (s.col : Nat)) := HB3.out.c4
    have k6 : w3.cell? ⟨g, 6, none⟩ = some (.int .i64 (s.top : Nat)) := HB3.out.c6
    go_wp2_with (refine wpList_load_scr HB3.out rfl _ rfl rfl ?_)
    refine (AT.out _ _ _ _).mono ?_
    rintro e w7 ⟨rfl, hb7⟩
    have HR7 := hide (HR3.out.below hb7 HR3.out.lt)
    have HW7 := hide (HW3.out.trans (hb7.mono HW3.out.size))
    have HG7 := hide (HG3.out.low hb7)
    clear hb7 k3 k4 k6 HB3 HR3 HW3 HG3
    go_wp2_with (refine wpList_store_scr HR7.out hsR rfl _ _ rfl rfl rfl rfl ?_; intro w8 hB8 hk8 hs8)
    refine bodyPost_ret (results_scr rfl rfl hB8) rfl ⟨_, rfl, ⟨_, rfl, ?_⟩, HW7.out.trans (hk8.toBelow HW7.out.size (fun k hk => by simp at hk; omega))⟩
    rw [HGE.out]
    exact HG7.out.kept HR7.out (by decide) hk8
end Go.Proofs.YtbhnipepbckalaaDoor
