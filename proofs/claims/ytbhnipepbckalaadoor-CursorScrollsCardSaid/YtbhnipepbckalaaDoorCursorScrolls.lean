/- CursorScrolls: fed and gone back at the margins rows move by one, within the margins alone; what comes in is blank, in the pen's back. (written by tools/gencursorscrolls.py) -/
import Derived.Test.YtbhnipepbckalaaDoorCursorRuns
import Derived.Test.YtbhnipepbckalaaDoorScrStore
import Derived.Test.YtbhnipepbckalaaDoorStoreTwo
import Derived.Test.YtbhnipepbckalaaDoorPenEq
import Derived.Deep.DeepCutAuto
import Derived.Deep.CutBlock
set_option maxRecDepth 100000
namespace Go.Proofs.YtbhnipepbckalaaDoor
open Go Go.RowKit
set_option linter.unusedVariables false
namespace SN
/-- a cell behind a scroll -/
theorem scroll_cell {s : Sc} (h : RightS s) (n : Int) (i j : Nat) : (PG.scrollG s.g s.top s.bot n (fillP s)).f i j = if s.top ≤ i ∧ i ≤ s.bot then (if (s.top : Int) ≤ i + n ∧ (i : Int) + n ≤ s.bot then s.g.f ((i : Int) + n).toNat j else PG.blank (fillP s)) else s.g.f i j := by
  unfold PG.scrollG
  rw [if_pos ⟨h.bot, top_bot h⟩]
theorem feed_at_bot {s : Sc} (h : RightS s) (c : Int) : (feedS (atS s s.bot c)).g = PG.scrollG s.g s.top s.bot 1 (fillP s) ∧ (feedS (atS s s.bot c)).row = s.bot ∧ (feedS (atS s s.bot c)).col = pin c s.g.cols := by
  have e : (atS s s.bot c).row = (atS s s.bot c).bot := at_row h.bot c
  rw [feed_bot e]
  exact ⟨rfl, at_row h.bot c, rfl⟩
theorem back_at_top {s : Sc} (h : RightS s) (c : Int) : (backS (atS s s.top c)).g = PG.scrollG s.g s.top s.bot (-1) (fillP s) ∧ (backS (atS s s.top c)).row = s.top := by
  have hb := h.bot
  have ht := top_bot h
  have e : (atS s s.top c).row = (atS s s.top c).top := at_row (by omega) c
  rw [back_top e]
  exact ⟨rfl, at_row (by omega) c⟩
end SN
set_option maxHeartbeats 16000000 in
theorem cursorScrolls_t (kcs : Array Value) (S : SN.Sc) (w : World) (hk13 : kcs.size = 13) (hS : SN.RightS S) (hR5 : S.g.rows ≤ 5) (hK9 : S.g.cols ≤ 9) (hsp : Spans w)
    (KS : Hid (∀ w', Below w.heap.size w w' → Calls Tryd.prog 12 #[.agg kcs] w' (GotS w' S))) :
    Calls Tryd.prog 6 #[.agg kcs] w fun e w' => e = .returned (.bool true) ∧ Below w.heap.size w w' := by
  have RS := hide hS
  have q1 := hS.g.1
  have q2 := hS.g.2.2.1
  have htop := SN.top_bot hS
  have hbot := hS.bot
  have hcol := hS.col
  have CFA := hide (fun w' v h => cat_is S v (S.bot : Int) (S.col : Int) w' hS (by omega) (by omega) h)
  have CFF := hide (fun w' v h => cfeed_is (SN.atS S S.bot S.col) v w' (SN.right_at hS _ _) h)
  have CBA := hide (fun w' v h => cat_is S v (S.top : Int) (S.col : Int) w' hS (by omega) (by omega) h)
  have CBB := hide (fun w' v h => cback_is (SN.atS S S.top S.col) v w' (SN.right_at hS _ _) h)
  obtain ⟨f1, f2, f3⟩ := SN.feed_at_bot hS (S.col : Int)
  rw [SN.pin_nat hcol] at f3
  obtain ⟨b1, b2⟩ := SN.back_at_top hS (S.col : Int)
  have RF := hide (SN.right_feed (SN.right_at hS (S.bot : Int) (S.col : Int)))
  have RB := hide (SN.right_back (SN.right_at hS (S.top : Int) (S.col : Int)))
  generalize SN.feedS (SN.atS S S.bot S.col) = F at CFF f1 f2 f3 RF
  generalize SN.backS (SN.atS S S.top S.col) = B at CBB b1 b2 RB
  generalize SN.atS S S.bot S.col = FA at CFA CFF
  generalize SN.atS S S.top S.col = BA at CBA CBB
  obtain ⟨g1, g2⟩ := PG.scroll_size S.g S.top S.bot 1 (SN.fillP S)
  obtain ⟨g3, g4⟩ := PG.scroll_size S.g S.top S.bot (-1) (SN.fillP S)
  have EFR := hide f2
  have EFC := hide f3
  have EBR := hide b2
  have HFR := hide (show F.g.rows = S.g.rows by rw [f1, g1])
  have HFC := hide (show F.g.cols = S.g.cols by rw [f1, g2])
  have HBR := hide (show B.g.rows = S.g.rows by rw [b1, g3])
  have HBC := hide (show B.g.cols = S.g.cols by rw [b1, g4])
  have CF := hide (fun i j => (f1 ▸ SN.scroll_cell hS 1 i j : F.g.f i j = _))
  have CB := hide (fun i j => (b1 ▸ SN.scroll_cell hS (-1) i j : B.g.f i j = _))
  obtain ⟨bl, hbl⟩ : ∃ bl, PG.blank (SN.fillP S) = bl := ⟨_, rfl⟩
  have EBL := hide hbl
  have enc : ∀ (X : PG.Cl) (w' : World), (binOp .neq 56 (.agg #[.int .i32 (PG.rn X), .int .i64 (PG.kd X), .int .i64 (PG.pn X).1, .int .i64 (PG.pn X).2.1, .int .i64 (PG.pn X).2.2]) (.agg #[.int .i32 (PG.rn X), .int .i64 (PG.kd X), .int .i64 (PG.pn X).1, .int .i64 (PG.pn X).2.1, .int .i64 (PG.pn X).2.2])).run Tryd.prog w' = .ok (.bool false) w' := fun X w' => by rw [neq_cell]; simp
  have HEN := hide enc
  have cg := cell_guard
  have HSP := hide hsp
  have SLT := hide hsp.lt
  have LO0 := hide (Below.refl w.heap.size w)
  clear hsp f1 f2 f3 b1 b2 g1 g2 g3 g4 enc hbl
  go_enter Tryd.func6, Tryd.ntmps6
  go_wp2_with (first | (refine wpList_box_ks hk13 rfl _ rfl rfl ?_; intro gk wk hKB hbk hlk) | (refine wpList_load_ks hKB rfl _ rfl rfl ?_))
  have LO1 := hide (LO0.out.trans (hbk.mono LO0.out.size))
  clear LO0 hbk
  refine (KS.out _ LO1.out).mono ?_
  rintro e wb1 ⟨v1, rfl, ⟨x1, rfl, hg1⟩, hb1⟩
  have LO2 := hide (LO1.out.trans (hb1.mono LO1.out.size))
  clear LO1 hb1
  obtain ⟨A1, c1, rfl⟩ := gv_slice hg1
  have HGs1 := hide hg1
  clear hg1
  go_upto_region 2 with (first | (refine wpList_alloc_scr rfl rfl ?_; intro gs wags csgs hBgs hzgs hbgs hlgs) | (refine wpList_store_scr hBgs hzgs rfl _ _ rfl rfl rfl rfl ?_; intro wsgs hSgs hkgs hqgs))
  have le_gs : w.heap.size ≤ gs := by have := LO2.out.size; omega
  have HGs2 := hide (HGs1.out.low hbgs)
  have LO3 := hide (LO2.out.trans (hbgs.mono LO2.out.size))
  clear HGs1 LO2 hbgs
  have HGs3 := hide (HGs2.out.kept hBgs (by decide) hkgs)
  have LO4 := hide (LO3.out.trans (hkgs.toBelow LO3.out.size (fun k hh => by simp at hh; omega)))
  clear HGs2 LO3
  have HSs1 := hide hSgs
  clear hSgs hkgs hBgs hlgs
  go_simp
  go_cut [4, 5] from 4 to 32 (fun ua ub wx => ∃ gf gb A3a c3a A3b c3b, ua = .pointer (some ⟨gf, 0, none⟩) ∧ ub = .pointer (some ⟨gb, 0, none⟩) ∧ (wsgs.heap.size ≤ gf ∧ wsgs.heap.size ≤ gb ∧ gf ≠ gb) ∧ SBox wx gf (.slice A3a (F.g.rows * F.g.cols) c3a) F ∧ SBox wx gb (.slice A3b (B.g.rows * B.g.cols) c3b) B ∧ IsG wx F.g (gv F.g.rows F.g.cols (.slice A3a (F.g.rows * F.g.cols) c3a)) ∧ IsG wx B.g (gv B.g.rows B.g.cols (.slice A3b (B.g.rows * B.g.cols) c3b)) ∧ Below wsgs.heap.size wsgs wx)
  case first =>
    refine wp_region_gj (n := 146) [] (fun _ => #[]) [(0, 0, 0, 0, 0), (0, 0, 0, 0, 0), (0, 0, 0, 0, 0), (0, 0, 0, 0, 0), (0, 0, 0, 0, 0), (1, 0, 0, 0, 0), (1, 0, 0, 0, 0), (0, 0, 0, 0, 0), (0, 0, 0, 0, 0), (0, 0, 0, 0, 0), (0, 0, 0, 0, 0), (0, 0, 0, 0, 0), (1, 0, 0, 0, 0), (1, 0, 0, 0, 0), (2, 0, 0, 32, 29), (2, 0, 0, 32, 29), (3, 14, 6, 32, 29), (3, 15, 13, 32, 29)] (fun j => [(.agg (scA (.slice A1 (S.g.rows * S.g.cols) c1) S)), (.pointer (some ⟨gs, 7, none⟩)), (.int .i64 (S.bot : Nat)), (.pointer (some ⟨gs, 4, none⟩)), (.int .i64 (S.col : Nat)), undef, undef, (.agg (scA (.slice A1 (S.g.rows * S.g.cols) c1) S)), (.pointer (some ⟨gs, 6, none⟩)), (.int .i64 (S.top : Nat)), (.pointer (some ⟨gs, 4, none⟩)), (.int .i64 (S.col : Nat)), undef, undef, undef, undef, undef, undef].getD j undef) [none, none, none, none, none, some (ScrV FA), some (ScrV F), none, none, none, none, none, some (ScrV BA), some (ScrV B)] (fun _ => 0) (by kernel_rfl) (by kernel_rfl) (by kernel_rfl) rfl (by kernel_rfl) (gno4 rfl) (fun i j h => by revert h; exact gno4 (p := fun _ => _) rfl i) (AllG.none_ (AllG.none_ (AllG.none_ (AllG.none_ (AllG.none_ (AllG.some_ (ScrV.stays (by kernel_rfl)) (AllG.some_ (ScrV.stays (by kernel_rfl)) (AllG.none_ (AllG.none_ (AllG.none_ (AllG.none_ (AllG.none_ (AllG.some_ (ScrV.stays (by kernel_rfl)) (AllG.some_ (ScrV.stays (by kernel_rfl)) (AllG.nil _))))))))))))))) (fun hGS => cases18 ⟨?_, ?_, ?_, ?_, ?_, ?_, ?_, ?_, ?_, ?_, ?_, ?_, ?_, ?_, ?_, ?_, ?_, ?_⟩) ?_
    · intro L a w' hL hsame hsz hJ hdep hcl
      have hb := hJ.kept.toBelow (Nat.le_refl _) (by simp)
      have e0 : a.eval (.tmp 3) = (.pointer (some ⟨gs, 0, none⟩)) := eval_base hsame (by kernel_rfl)
      have hx := hJ.keptBox ((show Box _ gs 32 (scA (.slice A1 (S.g.rows * S.g.cols) c1) S) from HSs1.out)) (by simp)
      exact Step.val _ rfl rfl (wanted_none rfl) (.agg (scA (.slice A1 (S.g.rows * S.g.cols) c1) S)) w' (fun ρ hρ => exec_load_any hx rfl ρ _ rfl ((hρ _).symm.trans e0)) (hJ.val hGS hcl hL rfl (Below.refl _ _) _ rfl)
    · intro L a w' hL hsame hsz hJ hdep hcl
      have hb := hJ.kept.toBelow (Nat.le_refl _) (by simp)
      have e0 : a.eval (.tmp 3) = (.pointer (some ⟨gs, 0, none⟩)) := eval_base hsame (by kernel_rfl)
      refine Step.val _ rfl rfl (wanted_none rfl) (.pointer (some ⟨gs, 7, none⟩)) w' (fun ρ hρ => ?_) (hJ.val hGS hcl hL rfl (Below.refl _ _) _ rfl)
      rw [hρ] at e0
      clear hJ hsame hdep hcl hρ hsz hb
      go_simp
    · intro L a w' hL hsame hsz hJ hdep hcl
      have hb := hJ.kept.toBelow (Nat.le_refl _) (by simp)
      have e0 : a.eval (.tmp 20) = (.pointer (some ⟨gs, 7, none⟩)) := eval_slot (j := 1) (by kernel_rfl) (hJ.valOf (by decide) (dep_of hdep 1 (by kernel_rfl)) rfl rfl)
      have hx := hJ.keptBox ((show Box _ gs 32 (scA (.slice A1 (S.g.rows * S.g.cols) c1) S) from HSs1.out)) (by simp)
      have q0 : w'.cell? ⟨gs, 7, none⟩ = some (.int .i64 (S.bot : Nat)) := hx.cell 7
      refine Step.val _ rfl rfl (wanted_none rfl) (.int .i64 (S.bot : Nat)) w' (fun ρ hρ => ?_) (hJ.val hGS hcl hL rfl (Below.refl _ _) _ rfl)
      clear hx
      rw [hρ] at e0
      clear hJ hsame hdep hcl hρ hsz hb
      go_simp
    · intro L a w' hL hsame hsz hJ hdep hcl
      have hb := hJ.kept.toBelow (Nat.le_refl _) (by simp)
      have e0 : a.eval (.tmp 3) = (.pointer (some ⟨gs, 0, none⟩)) := eval_base hsame (by kernel_rfl)
      refine Step.val _ rfl rfl (wanted_none rfl) (.pointer (some ⟨gs, 4, none⟩)) w' (fun ρ hρ => ?_) (hJ.val hGS hcl hL rfl (Below.refl _ _) _ rfl)
      rw [hρ] at e0
      clear hJ hsame hdep hcl hρ hsz hb
      go_simp
    · intro L a w' hL hsame hsz hJ hdep hcl
      have hb := hJ.kept.toBelow (Nat.le_refl _) (by simp)
      have e0 : a.eval (.tmp 22) = (.pointer (some ⟨gs, 4, none⟩)) := eval_slot (j := 3) (by kernel_rfl) (hJ.valOf (by decide) (dep_of hdep 3 (by kernel_rfl)) rfl rfl)
      have hx := hJ.keptBox ((show Box _ gs 32 (scA (.slice A1 (S.g.rows * S.g.cols) c1) S) from HSs1.out)) (by simp)
      have q0 : w'.cell? ⟨gs, 4, none⟩ = some (.int .i64 (S.col : Nat)) := hx.cell 4
      refine Step.val _ rfl rfl (wanted_none rfl) (.int .i64 (S.col : Nat)) w' (fun ρ hρ => ?_) (hJ.val hGS hcl hL rfl (Below.refl _ _) _ rfl)
      clear hx
      rw [hρ] at e0
      clear hJ hsame hdep hcl hρ hsz hb
      go_simp
    · intro L a w' hL hsame hsz hJ hdep hcl
      have hb := hJ.kept.toBelow (Nat.le_refl _) (by simp)
      have e0 : a.eval (.tmp 19) = (.agg (scA (.slice A1 (S.g.rows * S.g.cols) c1) S)) := eval_slot (j := 0) (by kernel_rfl) (hJ.valOf (by decide) (dep_of hdep 0 (by kernel_rfl)) rfl rfl)
      have e1 : a.eval (.tmp 21) = (.int .i64 (S.bot : Nat)) := eval_slot (j := 2) (by kernel_rfl) (hJ.valOf (by decide) (dep_of hdep 2 (by kernel_rfl)) rfl rfl)
      have e2 : a.eval (.tmp 23) = (.int .i64 (S.col : Nat)) := eval_slot (j := 4) (by kernel_rfl) (hJ.valOf (by decide) (dep_of hdep 4 (by kernel_rfl)) rfl rfl)
      refine Step.call _ rfl rfl (wanted_none rfl) 15 #[.agg (scA (.slice A1 (S.g.rows * S.g.cols) c1) S), .int .i64 (S.bot : Nat), .int .i64 (S.col : Nat)] (fun ρ hρ => ?_) ?_
      · skip
        rw [hρ] at e0 e1 e2
        have ef : ρ (.func 15) = .func (.func 15) #[] #[] := (hρ _).symm
        clear hJ hsame hdep hcl hρ hsz hb
        go_simp
      · refine (CFA.out _ _ ⟨_, rfl, (HGs3.out.low hb)⟩).mono ?_
        rintro e w2 ⟨v, rfl, hi, bb⟩
        exact ⟨_, rfl, hJ.pred hGS hcl hL rfl bb _ (scrV_of hi)⟩
    · intro L a w' hL hsame hsz hJ hdep hcl
      have hb := hJ.kept.toBelow (Nat.le_refl _) (by simp)
      obtain ⟨A5', c5', hv5, hi5⟩ := (show (ScrV FA) (valOf _ 5 a) w' from hJ.predOf (by decide) (dep_of hdep 5 (by kernel_rfl)) rfl)
      have e0 : a.eval (.tmp 24) = .agg (scA (.slice A5' (FA.g.rows * FA.g.cols) c5') FA) := eval_slot (j := 5) (by kernel_rfl) hv5
      refine Step.call _ rfl rfl (wanted_none rfl) 10 #[.agg (scA (.slice A5' (FA.g.rows * FA.g.cols) c5') FA)] (fun ρ hρ => ?_) ?_
      · skip
        rw [hρ] at e0
        have ef : ρ (.func 10) = .func (.func 10) #[] #[] := (hρ _).symm
        clear hJ hsame hdep hcl hρ hsz hb
        go_simp
      · refine (CFF.out _ _ ⟨_, rfl, hi5⟩).mono ?_
        rintro e w2 ⟨v, rfl, hi, bb⟩
        exact ⟨_, rfl, hJ.pred hGS hcl hL rfl bb _ (scrV_of hi)⟩
    · intro L a w' hL hsame hsz hJ hdep hcl
      have hb := hJ.kept.toBelow (Nat.le_refl _) (by simp)
      have e0 : a.eval (.tmp 3) = (.pointer (some ⟨gs, 0, none⟩)) := eval_base hsame (by kernel_rfl)
      have hx := hJ.keptBox ((show Box _ gs 32 (scA (.slice A1 (S.g.rows * S.g.cols) c1) S) from HSs1.out)) (by simp)
      exact Step.val _ rfl rfl (wanted_none rfl) (.agg (scA (.slice A1 (S.g.rows * S.g.cols) c1) S)) w' (fun ρ hρ => exec_load_any hx rfl ρ _ rfl ((hρ _).symm.trans e0)) (hJ.val hGS hcl hL rfl (Below.refl _ _) _ rfl)
    · intro L a w' hL hsame hsz hJ hdep hcl
      have hb := hJ.kept.toBelow (Nat.le_refl _) (by simp)
      have e0 : a.eval (.tmp 3) = (.pointer (some ⟨gs, 0, none⟩)) := eval_base hsame (by kernel_rfl)
      refine Step.val _ rfl rfl (wanted_none rfl) (.pointer (some ⟨gs, 6, none⟩)) w' (fun ρ hρ => ?_) (hJ.val hGS hcl hL rfl (Below.refl _ _) _ rfl)
      rw [hρ] at e0
      clear hJ hsame hdep hcl hρ hsz hb
      go_simp
    · intro L a w' hL hsame hsz hJ hdep hcl
      have hb := hJ.kept.toBelow (Nat.le_refl _) (by simp)
      have e0 : a.eval (.tmp 27) = (.pointer (some ⟨gs, 6, none⟩)) := eval_slot (j := 8) (by kernel_rfl) (hJ.valOf (by decide) (dep_of hdep 8 (by kernel_rfl)) rfl rfl)
      have hx := hJ.keptBox ((show Box _ gs 32 (scA (.slice A1 (S.g.rows * S.g.cols) c1) S) from HSs1.out)) (by simp)
      have q0 : w'.cell? ⟨gs, 6, none⟩ = some (.int .i64 (S.top : Nat)) := hx.cell 6
      refine Step.val _ rfl rfl (wanted_none rfl) (.int .i64 (S.top : Nat)) w' (fun ρ hρ => ?_) (hJ.val hGS hcl hL rfl (Below.refl _ _) _ rfl)
      clear hx
      rw [hρ] at e0
      clear hJ hsame hdep hcl hρ hsz hb
      go_simp
    · intro L a w' hL hsame hsz hJ hdep hcl
      have hb := hJ.kept.toBelow (Nat.le_refl _) (by simp)
      have e0 : a.eval (.tmp 3) = (.pointer (some ⟨gs, 0, none⟩)) := eval_base hsame (by kernel_rfl)
      refine Step.val _ rfl rfl (wanted_none rfl) (.pointer (some ⟨gs, 4, none⟩)) w' (fun ρ hρ => ?_) (hJ.val hGS hcl hL rfl (Below.refl _ _) _ rfl)
      rw [hρ] at e0
      clear hJ hsame hdep hcl hρ hsz hb
      go_simp
    · intro L a w' hL hsame hsz hJ hdep hcl
      have hb := hJ.kept.toBelow (Nat.le_refl _) (by simp)
      have e0 : a.eval (.tmp 29) = (.pointer (some ⟨gs, 4, none⟩)) := eval_slot (j := 10) (by kernel_rfl) (hJ.valOf (by decide) (dep_of hdep 10 (by kernel_rfl)) rfl rfl)
      have hx := hJ.keptBox ((show Box _ gs 32 (scA (.slice A1 (S.g.rows * S.g.cols) c1) S) from HSs1.out)) (by simp)
      have q0 : w'.cell? ⟨gs, 4, none⟩ = some (.int .i64 (S.col : Nat)) := hx.cell 4
      refine Step.val _ rfl rfl (wanted_none rfl) (.int .i64 (S.col : Nat)) w' (fun ρ hρ => ?_) (hJ.val hGS hcl hL rfl (Below.refl _ _) _ rfl)
      clear hx
      rw [hρ] at e0
      clear hJ hsame hdep hcl hρ hsz hb
      go_simp
    · intro L a w' hL hsame hsz hJ hdep hcl
      have hb := hJ.kept.toBelow (Nat.le_refl _) (by simp)
      have e0 : a.eval (.tmp 26) = (.agg (scA (.slice A1 (S.g.rows * S.g.cols) c1) S)) := eval_slot (j := 7) (by kernel_rfl) (hJ.valOf (by decide) (dep_of hdep 7 (by kernel_rfl)) rfl rfl)
      have e1 : a.eval (.tmp 28) = (.int .i64 (S.top : Nat)) := eval_slot (j := 9) (by kernel_rfl) (hJ.valOf (by decide) (dep_of hdep 9 (by kernel_rfl)) rfl rfl)
      have e2 : a.eval (.tmp 30) = (.int .i64 (S.col : Nat)) := eval_slot (j := 11) (by kernel_rfl) (hJ.valOf (by decide) (dep_of hdep 11 (by kernel_rfl)) rfl rfl)
      refine Step.call _ rfl rfl (wanted_none rfl) 15 #[.agg (scA (.slice A1 (S.g.rows * S.g.cols) c1) S), .int .i64 (S.top : Nat), .int .i64 (S.col : Nat)] (fun ρ hρ => ?_) ?_
      · skip
        rw [hρ] at e0 e1 e2
        have ef : ρ (.func 15) = .func (.func 15) #[] #[] := (hρ _).symm
        clear hJ hsame hdep hcl hρ hsz hb
        go_simp
      · refine (CBA.out _ _ ⟨_, rfl, (HGs3.out.low hb)⟩).mono ?_
        rintro e w2 ⟨v, rfl, hi, bb⟩
        exact ⟨_, rfl, hJ.pred hGS hcl hL rfl bb _ (scrV_of hi)⟩
    · intro L a w' hL hsame hsz hJ hdep hcl
      have hb := hJ.kept.toBelow (Nat.le_refl _) (by simp)
      obtain ⟨A12', c12', hv12, hi12⟩ := (show (ScrV BA) (valOf _ 12 a) w' from hJ.predOf (by decide) (dep_of hdep 12 (by kernel_rfl)) rfl)
      have e0 : a.eval (.tmp 31) = .agg (scA (.slice A12' (BA.g.rows * BA.g.cols) c12') BA) := eval_slot (j := 12) (by kernel_rfl) hv12
      refine Step.call _ rfl rfl (wanted_none rfl) 17 #[.agg (scA (.slice A12' (BA.g.rows * BA.g.cols) c12') BA)] (fun ρ hρ => ?_) ?_
      · skip
        rw [hρ] at e0
        have ef : ρ (.func 17) = .func (.func 17) #[] #[] := (hρ _).symm
        clear hJ hsame hdep hcl hρ hsz hb
        go_simp
      · refine (CBB.out _ _ ⟨_, rfl, hi12⟩).mono ?_
        rintro e w2 ⟨v, rfl, hi, bb⟩
        exact ⟨_, rfl, hJ.pred hGS hcl hL rfl bb _ (scrV_of hi)⟩
    · intro L a w' hL hsame hsz hJ hdep hcl
      have hb := hJ.kept.toBelow (Nat.le_refl _) (by simp)
      refine Step.val _ rfl rfl (wanted_none rfl) (.pointer (some ⟨w'.heap.size, 0, none⟩)) (w'.alloc (.cells #[.int .i64 0, .int .i64 0, .slice none 0 0, .int .i64 0, .int .i64 0, .bool false, .int .i64 0, .int .i64 0, .int .i64 0, .int .i64 0, .int .i64 0, .int .u64 0, .int .u8 0, .int .u8 0, .int .i64 0, .bool false, .bool false, .bool false, .bool false, .bool false, .int .i64 0, .int .i64 0, .int .i64 0, .int .i64 0, .int .i64 0, .int .u8 0, .int .u8 0, .int .i64 0, .bool false] 32)) (fun ρ hρ => ?_) (hJ.box hGS hcl hL rfl 32 rfl #[.int .i64 0, .int .i64 0, .slice none 0 0, .int .i64 0, .int .i64 0, .bool false, .int .i64 0, .int .i64 0, .int .i64 0, .int .i64 0, .int .i64 0, .int .u64 0, .int .u8 0, .int .u8 0, .int .i64 0, .bool false, .bool false, .bool false, .bool false, .bool false, .int .i64 0, .int .i64 0, .int .i64 0, .int .i64 0, .int .i64 0, .int .u8 0, .int .u8 0, .int .i64 0, .bool false] rfl)
      clear hJ hsame hdep hcl hρ hsz hb
      go_simp
    · intro L a w' hL hsame hsz hJ hdep hcl
      have hb := hJ.kept.toBelow (Nat.le_refl _) (by simp)
      refine Step.val _ rfl rfl (wanted_none rfl) (.pointer (some ⟨w'.heap.size, 0, none⟩)) (w'.alloc (.cells #[.int .i64 0, .int .i64 0, .slice none 0 0, .int .i64 0, .int .i64 0, .bool false, .int .i64 0, .int .i64 0, .int .i64 0, .int .i64 0, .int .i64 0, .int .u64 0, .int .u8 0, .int .u8 0, .int .i64 0, .bool false, .bool false, .bool false, .bool false, .bool false, .int .i64 0, .int .i64 0, .int .i64 0, .int .i64 0, .int .i64 0, .int .u8 0, .int .u8 0, .int .i64 0, .bool false] 32)) (fun ρ hρ => ?_) (hJ.box hGS hcl hL rfl 32 rfl #[.int .i64 0, .int .i64 0, .slice none 0 0, .int .i64 0, .int .i64 0, .bool false, .int .i64 0, .int .i64 0, .int .i64 0, .int .i64 0, .int .i64 0, .int .u64 0, .int .u8 0, .int .u8 0, .int .i64 0, .bool false, .bool false, .bool false, .bool false, .bool false, .int .i64 0, .int .i64 0, .int .i64 0, .int .i64 0, .int .i64 0, .int .u8 0, .int .u8 0, .int .i64 0, .bool false] rfl)
      clear hJ hsame hdep hcl hρ hsz hb
      go_simp
    · intro L a w' hL hsame hsz hJ hdep hcl
      have hb := hJ.kept.toBelow (Nat.le_refl _) (by simp)
      obtain ⟨A6', c6', hv6, hi6⟩ := (show (ScrV F) (valOf _ 6 a) w' from hJ.predOf (by decide) (dep_of hdep 6 (by kernel_rfl)) rfl)
      have es : a.eval (.tmp 25) = .agg (scA (.slice A6' (F.g.rows * F.g.cols) c6') F) := eval_slot (j := 6) (by kernel_rfl) hv6
      have la := dep_of hdep 14 (by kernel_rfl)
      obtain ⟨g, cs, hg, hg0, hx, hs⟩ := hJ.boxOf (j := 14) (by decide) la rfl
      have ea : a.eval (.tmp 4) = .pointer (some ⟨g, 0, none⟩) := eval_slot (j := 14) (by kernel_rfl) hg
      exact Step.skip _ rfl (wanted_none rfl) _ (fun ρ hρ => exec_store_any hx hs rfl (scA_one rfl _) ρ _ rfl ((hρ _).symm.trans ea) ((hρ _).symm.trans es)) (hJ.put hGS hcl hL rfl la (dep_of hdep 6 (by kernel_rfl)) hg rfl hv6)
    · intro L a w' hL hsame hsz hJ hdep hcl
      have hb := hJ.kept.toBelow (Nat.le_refl _) (by simp)
      obtain ⟨A13', c13', hv13, hi13⟩ := (show (ScrV B) (valOf _ 13 a) w' from hJ.predOf (by decide) (dep_of hdep 13 (by kernel_rfl)) rfl)
      have es : a.eval (.tmp 32) = .agg (scA (.slice A13' (B.g.rows * B.g.cols) c13') B) := eval_slot (j := 13) (by kernel_rfl) hv13
      have la := dep_of hdep 15 (by kernel_rfl)
      obtain ⟨g, cs, hg, hg0, hx, hs⟩ := hJ.boxOf (j := 15) (by decide) la rfl
      have ea : a.eval (.tmp 5) = .pointer (some ⟨g, 0, none⟩) := eval_slot (j := 15) (by kernel_rfl) hg
      exact Step.skip _ rfl (wanted_none rfl) _ (fun ρ hρ => exec_store_any hx hs rfl (scA_one rfl _) ρ _ rfl ((hρ _).symm.trans ea) ((hρ _).symm.trans es)) (hJ.put hGS hcl hL rfl la (dep_of hdep 13 (by kernel_rfl)) hg rfl hv13)
    · intro u w' hF
      change Exit.then _ _ Exit.normal (Act.put (Act.put (Act.put (Act.put (Act.put (Act.put (Act.put (Act.put (Act.put (Act.put (Act.put (Act.put (Act.put (Act.put (Act.put (Act.put (Act.put (Act.put (putAll _ u 0 _) (some 19) (u 0)) (some 20) (u 1)) (some 21) (u 2)) (some 22) (u 3)) (some 23) (u 4)) (some 24) (u 5)) (some 25) (u 6)) (some 26) (u 7)) (some 27) (u 8)) (some 28) (u 9)) (some 29) (u 10)) (some 30) (u 11)) (some 31) (u 12)) (some 32) (u 13)) (some 4) (u 14)) (some 5) (u 15)) none (u 16)) none (u 17)) _
      simp only [putAll]
      obtain ⟨Aa, ca, fa, hia⟩ := (show ScrV F (u 6) w' from hF.fin1 (j := 6) (by decide) rfl)
      obtain ⟨Ab, cb, fb, hib⟩ := (show ScrV B (u 13) w' from hF.fin1 (j := 13) (by decide) rfl)
      obtain ⟨ga, csa, va, la, _, _⟩ := (hF.all 14 (by decide) rfl).2.2.1 rfl
      obtain ⟨ga0, csa', va', fsa, hBa⟩ := (hF.all 16 (by decide) rfl).2.2.2.1 rfl
      obtain rfl : ga0 = ga := by
        have := va'.symm.trans va
        cases this
        rfl
      obtain rfl : csa' = scA (.slice Aa (F.g.rows * F.g.cols) ca) F := by
        have := fsa.symm.trans fa
        cases this
        rfl
      obtain ⟨gb, csb, vb, lb, _, _⟩ := (hF.all 15 (by decide) rfl).2.2.1 rfl
      obtain ⟨gb0, csb', vb', fsb, hBb⟩ := (hF.all 17 (by decide) rfl).2.2.2.1 rfl
      obtain rfl : gb0 = gb := by
        have := vb'.symm.trans vb
        cases this
        rfl
      obtain rfl : csb' = scA (.slice Ab (B.g.rows * B.g.cols) cb) B := by
        have := fsb.symm.trans fb
        cases this
        rfl
      have nab := hF.dist 14 15 rfl rfl rfl rfl (by decide)
      have hk := hF.kept.toBelow (Nat.le_refl _) (by simp)
      clear hF va' fsa vb' fsb
      generalize u 0 = y0
      generalize u 1 = y1
      generalize u 2 = y2
      generalize u 3 = y3
      generalize u 4 = y4
      generalize u 5 = y5
      generalize u 6 = y6 at fa ⊢
      generalize u 7 = y7
      generalize u 8 = y8
      generalize u 9 = y9
      generalize u 10 = y10
      generalize u 11 = y11
      generalize u 12 = y12
      generalize u 13 = y13 at fb ⊢
      generalize u 14 = y14 at va nab ⊢
      generalize u 15 = y15 at vb nab ⊢
      generalize u 16 = y16
      generalize u 17 = y17
      subst fa fb va vb
      have m1 : ga0 ≠ gb0 := fun e => nab (by rw [e])
      clear nab
      go_simp
      go_step
      go_meet
      exact ⟨ga0, gb0, Aa, ca, Ab, cb, rfl, rfl, ⟨la, lb, m1⟩, hBa, hBb, hia, hib, hk⟩
  case rest =>
    obtain ⟨gf, gb, A3a, c3a, A3b, c3b, rfl, rfl, ⟨lgf, lgb, ne_gf_gb⟩, hBgf, hBgb, higf, higb, hb3⟩ := hcut
    have ne_gs_gf : gs ≠ gf := by have := HSs1.out.lt; omega
    have ne_gs_gb : gs ≠ gb := by have := HSs1.out.lt; omega
    have le_gf : w.heap.size ≤ gf := by have := LO4.out.size; omega
    have le_gb : w.heap.size ≤ gb := by have := LO4.out.size; omega
    have HSs2 := hide (HSs1.out.below hb3 HSs1.out.lt)
    have HGs4 := hide (HGs3.out.low hb3)
    have LO5 := hide (LO4.out.trans (hb3.mono LO4.out.size))
    clear HSs1 HGs3 LO4 hb3
    have HSf1 := hide hBgf
    clear hBgf
    have HSb1 := hide hBgb
    clear hBgb
    have HGf1 := hide higf
    clear higf
    have HGb1 := hide higb
    clear higb
    rename World => wr3
    clear lgf lgb
    have k_gs_9 := (show _ = some (.int .i64 S.pen.2.1 : Value) from HSs2.out.c9)
    go_upto_region 4 with fail
    clear k_gs_9
    have hc0 : Box (wr3.alloc (.cells #[.int .i32 32, .int .i64 0, .int .i64 (-1), .int .i64 S.pen.2.1, .int .i64 0] 56)) wr3.heap.size 56 #[.int .i32 32, .int .i64 0, .int .i64 (-1), .int .i64 S.pen.2.1, .int .i64 0] := Box.new _ _ _
    rw [show (#[.int .i32 32, .int .i64 0, .int .i64 (-1), .int .i64 S.pen.2.1, .int .i64 0] : Array Value) = #[.int .i32 (PG.rn bl), .int .i64 (PG.kd bl), .int .i64 (PG.pn bl).1, .int .i64 (PG.pn bl).2.1, .int .i64 (PG.pn bl).2.2] from by rw [← EBL.out]; rfl] at hc0 ⊢
    have hal : Below wr3.heap.size wr3 (wr3.alloc (.cells #[.int .i32 (PG.rn bl), .int .i64 (PG.kd bl), .int .i64 (PG.pn bl).1, .int .i64 (PG.pn bl).2.1, .int .i64 (PG.pn bl).2.2] 56)) := (Below.refl _ _).alloc (Nat.le_refl _) _
    have hlc : w.heap.size ≤ wr3.heap.size := LO5.out.size
    generalize wr3.alloc (.cells #[.int .i32 (PG.rn bl), .int .i64 (PG.kd bl), .int .i64 (PG.pn bl).1, .int .i64 (PG.pn bl).2.1, .int .i64 (PG.pn bl).2.2] 56) = w0 at hc0 hal ⊢
    have HSs3 := hide (HSs2.out.below hal HSs2.out.lt)
    have HSf2 := hide (HSf1.out.below hal HSf1.out.lt)
    have HSb2 := hide (HSb1.out.below hal HSb1.out.lt)
    have HGs5 := hide (HGs4.out.low hal)
    have HGf2 := hide (HGf1.out.low hal)
    have HGb2 := hide (HGb1.out.low hal)
    have LO6 := hide (LO5.out.trans (hal.mono LO5.out.size))
    clear HSs2 HSf1 HSb1 HGs4 HGf1 HGb1 LO5 hal
    generalize wr3.heap.size = gc at hc0 hlc ⊢
    have HC := hide hc0
    clear hc0
    go_wp2_with fail
    go_loopw [7] (fun i wr => ∃ y : Nat, y ≤ S.g.rows ∧ i = .int .i64 y ∧ Hid (Below w0.heap.size w0 wr)) (fun i _ => S.g.rows - (intOf i).toNat)
    case atStart => exact ⟨0, Nat.zero_le _, rfl, hide (Below.refl _ _)⟩
    case round =>
      obtain ⟨y, hy, rfl, hby⟩ := hrel
      have r0 : wr.cell? ⟨gs, 0, none⟩ = some (.int .i64 (S.g.rows : Nat)) := (HSs3.out.below hby.out HSs3.out.lt).c0
      by_cases hyr : y < S.g.rows
      · go_wp2_with fail
        clear r0
        go_loopw [8] (fun i wr => ∃ x : Nat, x ≤ S.g.cols ∧ i = .int .i64 x ∧ Hid (Below w0.heap.size w0 wr)) (fun i _ => S.g.cols - (intOf i).toNat)
        case atStart => exact ⟨0, Nat.zero_le _, rfl, hby⟩
        case round =>
          obtain ⟨x, hx, rfl, hbx⟩ := hrel
          have hb1 := hbx.out
          have k0 : wr.cell? ⟨gs, 0, none⟩ = some (.int .i64 (S.g.rows : Nat)) := (HSs3.out.below hb1 HSs3.out.lt).c0
          have k1 : wr.cell? ⟨gs, 1, none⟩ = some (.int .i64 (S.g.cols : Nat)) := (HSs3.out.below hb1 HSs3.out.lt).c1
          have k2 : wr.cell? ⟨gs, 2, none⟩ = some (.slice A1 (S.g.rows * S.g.cols) c1) := (HSs3.out.below hb1 HSs3.out.lt).c2
          by_cases hxc : x < S.g.cols
          · skip
            have hFy : y < F.g.rows := by rw [HFR.out]; exact hyr
            have hFx : x < F.g.cols := by rw [HFC.out]; exact hxc
            have hBy : y < B.g.rows := by rw [HBR.out]; exact hyr
            have hBx : x < B.g.cols := by rw [HBC.out]; exact hxc
            have c1_ := CF.out y x
            have c2_ := CB.out y x
            have hcs : y < S.top ∨ (S.top ≤ y ∧ S.bot < y) ∨ (S.top < y ∧ y < S.bot) ∨ (y ≤ S.top ∧ S.top ≤ y ∧ y < S.bot) ∨ (S.top < y ∧ y ≤ S.bot ∧ S.bot ≤ y) ∨ (y ≤ S.top ∧ S.top ≤ y ∧ y ≤ S.bot ∧ S.bot ≤ y) := by omega
            rcases hcs with hc | hc | hc | hc | hc | hc
            · as_aux_lemma =>
                obtain ⟨O, hO⟩ : ∃ O, S.g.f y x = O := ⟨_, rfl⟩
                rw [if_neg (by omega), hO] at c1_ c2_
                have HE1 := hide c1_
                have HE2 := hide c2_
                have HO := hide hO
                clear c1_ c2_ hO
                go_wp2_with fail
                refine (u_atc RS.out.g (HGs5.out.low hb1) y x hyr hxc HO.out).mono ?_
                rintro e wa ⟨rfl, ba⟩
                go_upto_region 11 with fail
                have hwa2 := (hb1.trans (ba.mono hb1.size)).alloc (hb1.trans (ba.mono hb1.size)).size (.cells #[.int .i32 (PG.rn O), .int .i64 (PG.kd O), .int .i64 (PG.pn O).1, .int .i64 (PG.pn O).2.1, .int .i64 (PG.pn O).2.2] 56)
                have lwa2 : w0.heap.size ≤ wa.heap.size := (hb1.trans (ba.mono hb1.size)).size
                have bg9 := Box.new wa 56 #[.int .i32 (PG.rn O), .int .i64 (PG.kd O), .int .i64 (PG.pn O).1, .int .i64 (PG.pn O).2.1, .int .i64 (PG.pn O).2.2]
                clear ba k0 k1 k2
                generalize wa.alloc (.cells #[.int .i32 (PG.rn O), .int .i64 (PG.kd O), .int .i64 (PG.pn O).1, .int .i64 (PG.pn O).2.1, .int .i64 (PG.pn O).2.2] 56) = wa2 at hwa2 bg9  ⊢
                generalize wa.heap.size = g9 at lwa2 bg9 ⊢
                have k0 : wa2.cell? ⟨gf, 0, none⟩ = some (.int .i64 (F.g.rows : Nat)) := (HSf2.out.below hwa2 HSf2.out.lt).c0
                have k1 : wa2.cell? ⟨gf, 1, none⟩ = some (.int .i64 (F.g.cols : Nat)) := (HSf2.out.below hwa2 HSf2.out.lt).c1
                have k2 : wa2.cell? ⟨gf, 2, none⟩ = some (.slice A3a (F.g.rows * F.g.cols) c3a) := (HSf2.out.below hwa2 HSf2.out.lt).c2
                go_wp2_with fail
                refine (u_atc RF.out.g (HGf2.out.low hwa2) y x hFy hFx HE1.out).mono ?_
                rintro e wb ⟨rfl, bb⟩
                go_upto_region 12 with fail
                have hwb2 := (hwa2.trans (bb.mono hwa2.size)).alloc (hwa2.trans (bb.mono hwa2.size)).size (.cells #[.int .i32 (PG.rn O), .int .i64 (PG.kd O), .int .i64 (PG.pn O).1, .int .i64 (PG.pn O).2.1, .int .i64 (PG.pn O).2.2] 56)
                have lwb2 : w0.heap.size ≤ wb.heap.size := (hwa2.trans (bb.mono hwa2.size)).size
                have bg11 := Box.new wb 56 #[.int .i32 (PG.rn O), .int .i64 (PG.kd O), .int .i64 (PG.pn O).1, .int .i64 (PG.pn O).2.1, .int .i64 (PG.pn O).2.2]
                have bo2 := (bg9.below bb bg9.lt).alloc (.cells #[.int .i32 (PG.rn O), .int .i64 (PG.kd O), .int .i64 (PG.pn O).1, .int .i64 (PG.pn O).2.1, .int .i64 (PG.pn O).2.2] 56)
                clear bg9
                clear bb k0 k1 k2
                generalize wb.alloc (.cells #[.int .i32 (PG.rn O), .int .i64 (PG.kd O), .int .i64 (PG.pn O).1, .int .i64 (PG.pn O).2.1, .int .i64 (PG.pn O).2.2] 56) = wb2 at hwb2 bg11 bo2 ⊢
                generalize wb.heap.size = g11 at lwb2 bg11 ⊢
                have k0 : wb2.cell? ⟨gb, 0, none⟩ = some (.int .i64 (B.g.rows : Nat)) := (HSb2.out.below hwb2 HSb2.out.lt).c0
                have k1 : wb2.cell? ⟨gb, 1, none⟩ = some (.int .i64 (B.g.cols : Nat)) := (HSb2.out.below hwb2 HSb2.out.lt).c1
                have k2 : wb2.cell? ⟨gb, 2, none⟩ = some (.slice A3b (B.g.rows * B.g.cols) c3b) := (HSb2.out.below hwb2 HSb2.out.lt).c2
                go_wp2_with fail
                refine (u_atc RB.out.g (HGb2.out.low hwb2) y x hBy hBx HE2.out).mono ?_
                rintro e wd ⟨rfl, bd⟩
                go_upto_region 13 with fail
                have hwd2 := (hwb2.trans (bd.mono hwb2.size)).alloc (hwb2.trans (bd.mono hwb2.size)).size (.cells #[.int .i32 (PG.rn O), .int .i64 (PG.kd O), .int .i64 (PG.pn O).1, .int .i64 (PG.pn O).2.1, .int .i64 (PG.pn O).2.2] 56)
                have lwd2 : w0.heap.size ≤ wd.heap.size := (hwb2.trans (bd.mono hwb2.size)).size
                have bg13 := Box.new wd 56 #[.int .i32 (PG.rn O), .int .i64 (PG.kd O), .int .i64 (PG.pn O).1, .int .i64 (PG.pn O).2.1, .int .i64 (PG.pn O).2.2]
                have bo3 := (bo2.below bd bo2.lt).alloc (.cells #[.int .i32 (PG.rn O), .int .i64 (PG.kd O), .int .i64 (PG.pn O).1, .int .i64 (PG.pn O).2.1, .int .i64 (PG.pn O).2.2] 56)
                clear bo2
                have bu2 := (bg11.below bd bg11.lt).alloc (.cells #[.int .i32 (PG.rn O), .int .i64 (PG.kd O), .int .i64 (PG.pn O).1, .int .i64 (PG.pn O).2.1, .int .i64 (PG.pn O).2.2] 56)
                clear bg11
                clear bd k0 k1 k2
                generalize wd.alloc (.cells #[.int .i32 (PG.rn O), .int .i64 (PG.kd O), .int .i64 (PG.pn O).1, .int .i64 (PG.pn O).2.1, .int .i64 (PG.pn O).2.2] 56) = wd2 at hwd2 bg13 bo3 bu2 ⊢
                generalize wd.heap.size = g13 at lwd2 bg13 ⊢
                go_cut [15, 16] from 76 to 77 (fun ua ub wx => ∃ gA gB, ua = .pointer (some ⟨gA, 0, none⟩) ∧ ub = .pointer (some ⟨gB, 0, none⟩) ∧ (wd2.heap.size ≤ gA ∧ wd2.heap.size ≤ gB ∧ gA ≠ gB) ∧ Box wx gA 56 #[.int .i32 (PG.rn O), .int .i64 (PG.kd O), .int .i64 (PG.pn O).1, .int .i64 (PG.pn O).2.1, .int .i64 (PG.pn O).2.2] ∧ Box wx gB 56 #[.int .i32 (PG.rn O), .int .i64 (PG.kd O), .int .i64 (PG.pn O).1, .int .i64 (PG.pn O).2.1, .int .i64 (PG.pn O).2.2] ∧ Below wd2.heap.size wd2 wx)
                case first =>
                  refine wp_region_gj (n := 146) [] (fun _ => #[]) [(0, 0, 0, 0, 0), (0, 0, 0, 0, 0), (2, 0, 0, 56, 5), (2, 0, 0, 56, 5), (3, 2, 0, 56, 5), (3, 3, 1, 56, 5)] (fun j => [(.agg #[.int .i32 (PG.rn O), .int .i64 (PG.kd O), .int .i64 (PG.pn O).1, .int .i64 (PG.pn O).2.1, .int .i64 (PG.pn O).2.2]), (.agg #[.int .i32 (PG.rn O), .int .i64 (PG.kd O), .int .i64 (PG.pn O).1, .int .i64 (PG.pn O).2.1, .int .i64 (PG.pn O).2.2]), undef, undef, undef, undef].getD j undef) [] (fun _ => 0) (by kernel_rfl) (by kernel_rfl) (by kernel_rfl) rfl (by kernel_rfl) (gno4 rfl) (fun i j h => by revert h; exact gno4 (p := fun _ => _) rfl i) (AllG.nil _) (fun hGS => cases6 ⟨?_, ?_, ?_, ?_, ?_, ?_⟩) ?_
                  · intro L a w' hL hsame hsz hJ hdep hcl
                    have hb := hJ.kept.toBelow (Nat.le_refl _) (by simp)
                    have e0 : a.eval (.tmp 9) = (.pointer (some ⟨g9, 0, none⟩)) := eval_base hsame (by kernel_rfl)
                    have hx := hJ.keptBox (bo3) (by simp)
                    have q0 : w'.cell? ⟨g9, 0, none⟩ = some (.int .i32 (PG.rn O)) := hx.cell 0
                    have q1 : w'.cell? ⟨g9, 1, none⟩ = some (.int .i64 (PG.kd O)) := hx.cell 1
                    have q2 : w'.cell? ⟨g9, 2, none⟩ = some (.int .i64 (PG.pn O).1) := hx.cell 2
                    have q3 : w'.cell? ⟨g9, 3, none⟩ = some (.int .i64 (PG.pn O).2.1) := hx.cell 3
                    have q4 : w'.cell? ⟨g9, 4, none⟩ = some (.int .i64 (PG.pn O).2.2) := hx.cell 4
                    refine Step.val _ rfl rfl (wanted_none rfl) (.agg #[.int .i32 (PG.rn O), .int .i64 (PG.kd O), .int .i64 (PG.pn O).1, .int .i64 (PG.pn O).2.1, .int .i64 (PG.pn O).2.2]) w' (fun ρ hρ => ?_) (hJ.val hGS hcl hL rfl (Below.refl _ _) _ rfl)
                    clear hx
                    rw [hρ] at e0
                    clear hJ hsame hdep hcl hρ hsz hb
                    go_simp
                  · intro L a w' hL hsame hsz hJ hdep hcl
                    have hb := hJ.kept.toBelow (Nat.le_refl _) (by simp)
                    have e0 : a.eval (.tmp 9) = (.pointer (some ⟨g9, 0, none⟩)) := eval_base hsame (by kernel_rfl)
                    have hx := hJ.keptBox (bo3) (by simp)
                    have q0 : w'.cell? ⟨g9, 0, none⟩ = some (.int .i32 (PG.rn O)) := hx.cell 0
                    have q1 : w'.cell? ⟨g9, 1, none⟩ = some (.int .i64 (PG.kd O)) := hx.cell 1
                    have q2 : w'.cell? ⟨g9, 2, none⟩ = some (.int .i64 (PG.pn O).1) := hx.cell 2
                    have q3 : w'.cell? ⟨g9, 3, none⟩ = some (.int .i64 (PG.pn O).2.1) := hx.cell 3
                    have q4 : w'.cell? ⟨g9, 4, none⟩ = some (.int .i64 (PG.pn O).2.2) := hx.cell 4
                    refine Step.val _ rfl rfl (wanted_none rfl) (.agg #[.int .i32 (PG.rn O), .int .i64 (PG.kd O), .int .i64 (PG.pn O).1, .int .i64 (PG.pn O).2.1, .int .i64 (PG.pn O).2.2]) w' (fun ρ hρ => ?_) (hJ.val hGS hcl hL rfl (Below.refl _ _) _ rfl)
                    clear hx
                    rw [hρ] at e0
                    clear hJ hsame hdep hcl hρ hsz hb
                    go_simp
                  · intro L a w' hL hsame hsz hJ hdep hcl
                    have hb := hJ.kept.toBelow (Nat.le_refl _) (by simp)
                    refine Step.val _ rfl rfl (wanted_none rfl) (.pointer (some ⟨w'.heap.size, 0, none⟩)) (w'.alloc (.cells #[.int .i32 0, .int .i64 0, .int .i64 0, .int .i64 0, .int .i64 0] 56)) (fun ρ hρ => ?_) (hJ.box hGS hcl hL rfl 56 rfl #[.int .i32 0, .int .i64 0, .int .i64 0, .int .i64 0, .int .i64 0] rfl)
                    clear hJ hsame hdep hcl hρ hsz hb
                    go_simp
                  · intro L a w' hL hsame hsz hJ hdep hcl
                    have hb := hJ.kept.toBelow (Nat.le_refl _) (by simp)
                    refine Step.val _ rfl rfl (wanted_none rfl) (.pointer (some ⟨w'.heap.size, 0, none⟩)) (w'.alloc (.cells #[.int .i32 0, .int .i64 0, .int .i64 0, .int .i64 0, .int .i64 0] 56)) (fun ρ hρ => ?_) (hJ.box hGS hcl hL rfl 56 rfl #[.int .i32 0, .int .i64 0, .int .i64 0, .int .i64 0, .int .i64 0] rfl)
                    clear hJ hsame hdep hcl hρ hsz hb
                    go_simp
                  · intro L a w' hL hsame hsz hJ hdep hcl
                    have hb := hJ.kept.toBelow (Nat.le_refl _) (by simp)
                    have hsv := hJ.valOf (j := 0) (by decide) (dep_of hdep 0 (by kernel_rfl)) rfl rfl
                    have es : a.eval (.tmp 76) = (.agg #[.int .i32 (PG.rn O), .int .i64 (PG.kd O), .int .i64 (PG.pn O).1, .int .i64 (PG.pn O).2.1, .int .i64 (PG.pn O).2.2]) := eval_slot (j := 0) (by kernel_rfl) hsv
                    have la := dep_of hdep 2 (by kernel_rfl)
                    obtain ⟨g, cs, hg, hg0, hx, hs⟩ := hJ.boxOf (j := 2) (by decide) la rfl
                    have ea : a.eval (.tmp 15) = .pointer (some ⟨g, 0, none⟩) := eval_slot (j := 2) (by kernel_rfl) hg
                    obtain ⟨m0, hm0⟩ : ∃ m, w'.cell? ⟨g, 0, none⟩ = some m := ⟨_, (hx.cell 0).trans (Array.getElem?_eq_getElem (by rw [hs]; decide))⟩
                    have hf0 := hx.frozen 0
                    obtain ⟨m1, hm1⟩ : ∃ m, w'.cell? ⟨g, 1, none⟩ = some m := ⟨_, (hx.cell 1).trans (Array.getElem?_eq_getElem (by rw [hs]; decide))⟩
                    have hf1 := hx.frozen 1
                    obtain ⟨m2, hm2⟩ : ∃ m, w'.cell? ⟨g, 2, none⟩ = some m := ⟨_, (hx.cell 2).trans (Array.getElem?_eq_getElem (by rw [hs]; decide))⟩
                    have hf2 := hx.frozen 2
                    obtain ⟨m3, hm3⟩ : ∃ m, w'.cell? ⟨g, 3, none⟩ = some m := ⟨_, (hx.cell 3).trans (Array.getElem?_eq_getElem (by rw [hs]; decide))⟩
                    have hf3 := hx.frozen 3
                    obtain ⟨m4, hm4⟩ : ∃ m, w'.cell? ⟨g, 4, none⟩ = some m := ⟨_, (hx.cell 4).trans (Array.getElem?_eq_getElem (by rw [hs]; decide))⟩
                    have hf4 := hx.frozen 4
                    refine Step.skip _ rfl (wanted_none rfl) (setL w' g 0 [.int .i32 (PG.rn O), .int .i64 (PG.kd O), .int .i64 (PG.pn O).1, .int .i64 (PG.pn O).2.1, .int .i64 (PG.pn O).2.2]) (fun ρ hρ => ?_) (hJ.put hGS hcl hL rfl la (dep_of hdep 0 (by kernel_rfl)) hg rfl hsv)
                    rw [hρ] at es ea
                    clear hJ hsame hdep hcl hρ hsz hb hsv hx hs hg
                    simp only [setL]
                    go_simp
                  · intro L a w' hL hsame hsz hJ hdep hcl
                    have hb := hJ.kept.toBelow (Nat.le_refl _) (by simp)
                    have hsv := hJ.valOf (j := 1) (by decide) (dep_of hdep 1 (by kernel_rfl)) rfl rfl
                    have es : a.eval (.tmp 77) = (.agg #[.int .i32 (PG.rn O), .int .i64 (PG.kd O), .int .i64 (PG.pn O).1, .int .i64 (PG.pn O).2.1, .int .i64 (PG.pn O).2.2]) := eval_slot (j := 1) (by kernel_rfl) hsv
                    have la := dep_of hdep 3 (by kernel_rfl)
                    obtain ⟨g, cs, hg, hg0, hx, hs⟩ := hJ.boxOf (j := 3) (by decide) la rfl
                    have ea : a.eval (.tmp 16) = .pointer (some ⟨g, 0, none⟩) := eval_slot (j := 3) (by kernel_rfl) hg
                    obtain ⟨m0, hm0⟩ : ∃ m, w'.cell? ⟨g, 0, none⟩ = some m := ⟨_, (hx.cell 0).trans (Array.getElem?_eq_getElem (by rw [hs]; decide))⟩
                    have hf0 := hx.frozen 0
                    obtain ⟨m1, hm1⟩ : ∃ m, w'.cell? ⟨g, 1, none⟩ = some m := ⟨_, (hx.cell 1).trans (Array.getElem?_eq_getElem (by rw [hs]; decide))⟩
                    have hf1 := hx.frozen 1
                    obtain ⟨m2, hm2⟩ : ∃ m, w'.cell? ⟨g, 2, none⟩ = some m := ⟨_, (hx.cell 2).trans (Array.getElem?_eq_getElem (by rw [hs]; decide))⟩
                    have hf2 := hx.frozen 2
                    obtain ⟨m3, hm3⟩ : ∃ m, w'.cell? ⟨g, 3, none⟩ = some m := ⟨_, (hx.cell 3).trans (Array.getElem?_eq_getElem (by rw [hs]; decide))⟩
                    have hf3 := hx.frozen 3
                    obtain ⟨m4, hm4⟩ : ∃ m, w'.cell? ⟨g, 4, none⟩ = some m := ⟨_, (hx.cell 4).trans (Array.getElem?_eq_getElem (by rw [hs]; decide))⟩
                    have hf4 := hx.frozen 4
                    refine Step.skip _ rfl (wanted_none rfl) (setL w' g 0 [.int .i32 (PG.rn O), .int .i64 (PG.kd O), .int .i64 (PG.pn O).1, .int .i64 (PG.pn O).2.1, .int .i64 (PG.pn O).2.2]) (fun ρ hρ => ?_) (hJ.put hGS hcl hL rfl la (dep_of hdep 1 (by kernel_rfl)) hg rfl hsv)
                    rw [hρ] at es ea
                    clear hJ hsame hdep hcl hρ hsz hb hsv hx hs hg
                    simp only [setL]
                    go_simp
                  · intro u w' hF
                    change Exit.then _ _ Exit.normal (Act.put (Act.put (Act.put (Act.put (Act.put (Act.put (putAll _ u 0 _) (some 76) (u 0)) (some 77) (u 1)) (some 15) (u 2)) (some 16) (u 3)) none (u 4)) none (u 5)) _
                    simp only [putAll]
                    obtain ⟨gA, ha, la, hA⟩ := hF.fin3 (j := 4) (a := 2) (v := 0) (by decide) rfl rfl rfl (by decide) rfl (by decide) rfl (cs := #[.int .i32 (PG.rn O), .int .i64 (PG.kd O), .int .i64 (PG.pn O).1, .int .i64 (PG.pn O).2.1, .int .i64 (PG.pn O).2.2]) rfl
                    obtain ⟨gB, hbb, lb, hB⟩ := hF.fin3 (j := 5) (a := 3) (v := 1) (by decide) rfl rfl rfl (by decide) rfl (by decide) rfl (cs := #[.int .i32 (PG.rn O), .int .i64 (PG.kd O), .int .i64 (PG.pn O).1, .int .i64 (PG.pn O).2.1, .int .i64 (PG.pn O).2.2]) rfl
                    have nab := hF.dist 2 3 rfl rfl rfl rfl (by decide)
                    have hk := hF.kept.toBelow (Nat.le_refl _) (by simp)
                    clear hF
                    generalize u 0 = y0
                    generalize u 1 = y1
                    generalize u 2 = y2 at ha nab ⊢
                    generalize u 3 = y3 at hbb nab ⊢
                    generalize u 4 = y4
                    generalize u 5 = y5
                    subst ha hbb
                    have m1 : gA ≠ gB := fun e => nab (by rw [e])
                    clear nab
                    go_simp
                    go_step
                    go_meet
                    exact ⟨gA, gB, rfl, rfl, ⟨la, lb, m1⟩, hA, hB, hk⟩
                case rest =>
                  obtain ⟨gA, gB, rfl, rfl, ⟨la, lb, nab⟩, hA, hB, hbe⟩ := hcut
                  rename World => we
                  have hwe := hwd2.trans (hbe.mono hwd2.size)
                  have bu3 := bu2.below hbe bu2.lt
                  have bd3 := bg13.below hbe bg13.lt
                  have nA11 : g11 ≠ gA := by have := bu2.lt; omega
                  have nB11 : g11 ≠ gB := by have := bu2.lt; omega
                  have nA13 : g13 ≠ gA := by have := bg13.lt; omega
                  have nB13 : g13 ≠ gB := by have := bg13.lt; omega
                  have l2 := hwd2.size
                  have lA : w0.heap.size ≤ gA := by omega
                  have lB : w0.heap.size ≤ gB := by omega
                  clear bu2 bg13 bo3 hbe la lb hwd2 hwb2 hwa2 lwd2 lwb2 lwa2
                  have q6 : we.cell? ⟨gs, 6, none⟩ = some (.int .i64 (S.top : Nat)) := (HSs3.out.below hwe HSs3.out.lt).c6
                  have q7 : we.cell? ⟨gs, 7, none⟩ = some (.int .i64 (S.bot : Nat)) := (HSs3.out.below hwe HSs3.out.lt).c7
                  have u0 : we.cell? ⟨g11, 0, none⟩ = some (.int .i32 (PG.rn O)) := bu3.cell 0
                  have u1 : we.cell? ⟨g11, 1, none⟩ = some (.int .i64 (PG.kd O)) := bu3.cell 1
                  have u2 : we.cell? ⟨g11, 2, none⟩ = some (.int .i64 (PG.pn O).1) := bu3.cell 2
                  have u3 : we.cell? ⟨g11, 3, none⟩ = some (.int .i64 (PG.pn O).2.1) := bu3.cell 3
                  have u4 : we.cell? ⟨g11, 4, none⟩ = some (.int .i64 (PG.pn O).2.2) := bu3.cell 4
                  have d0 : we.cell? ⟨g13, 0, none⟩ = some (.int .i32 (PG.rn O)) := bd3.cell 0
                  have d1 : we.cell? ⟨g13, 1, none⟩ = some (.int .i64 (PG.kd O)) := bd3.cell 1
                  have d2 : we.cell? ⟨g13, 2, none⟩ = some (.int .i64 (PG.pn O).1) := bd3.cell 2
                  have d3 : we.cell? ⟨g13, 3, none⟩ = some (.int .i64 (PG.pn O).2.1) := bd3.cell 3
                  have d4 : we.cell? ⟨g13, 4, none⟩ = some (.int .i64 (PG.pn O).2.2) := bd3.cell 4
                  have a0 : we.cell? ⟨gA, 0, none⟩ = some (.int .i32 (PG.rn O)) := hA.cell 0
                  have a1 : we.cell? ⟨gA, 1, none⟩ = some (.int .i64 (PG.kd O)) := hA.cell 1
                  have a2 : we.cell? ⟨gA, 2, none⟩ = some (.int .i64 (PG.pn O).1) := hA.cell 2
                  have a3 : we.cell? ⟨gA, 3, none⟩ = some (.int .i64 (PG.pn O).2.1) := hA.cell 3
                  have a4 : we.cell? ⟨gA, 4, none⟩ = some (.int .i64 (PG.pn O).2.2) := hA.cell 4
                  have b0 : we.cell? ⟨gB, 0, none⟩ = some (.int .i32 (PG.rn O)) := hB.cell 0
                  have b1 : we.cell? ⟨gB, 1, none⟩ = some (.int .i64 (PG.kd O)) := hB.cell 1
                  have b2 : we.cell? ⟨gB, 2, none⟩ = some (.int .i64 (PG.pn O).1) := hB.cell 2
                  have b3 : we.cell? ⟨gB, 3, none⟩ = some (.int .i64 (PG.pn O).2.1) := hB.cell 3
                  have b4 : we.cell? ⟨gB, 4, none⟩ = some (.int .i64 (PG.pn O).2.2) := hB.cell 4
                  have en1 := HEN.out O
                  have en2 := HEN.out O
                  go_wp2_with fail
                  go_roundw
                  case rel => exact ⟨x + 1, by omega, by go_num, hide hwe⟩
                  case measure => simp [intOf]; omega
            · as_aux_lemma =>
                obtain ⟨O, hO⟩ : ∃ O, S.g.f y x = O := ⟨_, rfl⟩
                rw [if_neg (by omega), hO] at c1_ c2_
                have HE1 := hide c1_
                have HE2 := hide c2_
                have HO := hide hO
                clear c1_ c2_ hO
                go_wp2_with fail
                refine (u_atc RS.out.g (HGs5.out.low hb1) y x hyr hxc HO.out).mono ?_
                rintro e wa ⟨rfl, ba⟩
                go_upto_region 11 with fail
                have hwa2 := (hb1.trans (ba.mono hb1.size)).alloc (hb1.trans (ba.mono hb1.size)).size (.cells #[.int .i32 (PG.rn O), .int .i64 (PG.kd O), .int .i64 (PG.pn O).1, .int .i64 (PG.pn O).2.1, .int .i64 (PG.pn O).2.2] 56)
                have lwa2 : w0.heap.size ≤ wa.heap.size := (hb1.trans (ba.mono hb1.size)).size
                have bg9 := Box.new wa 56 #[.int .i32 (PG.rn O), .int .i64 (PG.kd O), .int .i64 (PG.pn O).1, .int .i64 (PG.pn O).2.1, .int .i64 (PG.pn O).2.2]
                clear ba k0 k1 k2
                generalize wa.alloc (.cells #[.int .i32 (PG.rn O), .int .i64 (PG.kd O), .int .i64 (PG.pn O).1, .int .i64 (PG.pn O).2.1, .int .i64 (PG.pn O).2.2] 56) = wa2 at hwa2 bg9  ⊢
                generalize wa.heap.size = g9 at lwa2 bg9 ⊢
                have k0 : wa2.cell? ⟨gf, 0, none⟩ = some (.int .i64 (F.g.rows : Nat)) := (HSf2.out.below hwa2 HSf2.out.lt).c0
                have k1 : wa2.cell? ⟨gf, 1, none⟩ = some (.int .i64 (F.g.cols : Nat)) := (HSf2.out.below hwa2 HSf2.out.lt).c1
                have k2 : wa2.cell? ⟨gf, 2, none⟩ = some (.slice A3a (F.g.rows * F.g.cols) c3a) := (HSf2.out.below hwa2 HSf2.out.lt).c2
                go_wp2_with fail
                refine (u_atc RF.out.g (HGf2.out.low hwa2) y x hFy hFx HE1.out).mono ?_
                rintro e wb ⟨rfl, bb⟩
                go_upto_region 12 with fail
                have hwb2 := (hwa2.trans (bb.mono hwa2.size)).alloc (hwa2.trans (bb.mono hwa2.size)).size (.cells #[.int .i32 (PG.rn O), .int .i64 (PG.kd O), .int .i64 (PG.pn O).1, .int .i64 (PG.pn O).2.1, .int .i64 (PG.pn O).2.2] 56)
                have lwb2 : w0.heap.size ≤ wb.heap.size := (hwa2.trans (bb.mono hwa2.size)).size
                have bg11 := Box.new wb 56 #[.int .i32 (PG.rn O), .int .i64 (PG.kd O), .int .i64 (PG.pn O).1, .int .i64 (PG.pn O).2.1, .int .i64 (PG.pn O).2.2]
                have bo2 := (bg9.below bb bg9.lt).alloc (.cells #[.int .i32 (PG.rn O), .int .i64 (PG.kd O), .int .i64 (PG.pn O).1, .int .i64 (PG.pn O).2.1, .int .i64 (PG.pn O).2.2] 56)
                clear bg9
                clear bb k0 k1 k2
                generalize wb.alloc (.cells #[.int .i32 (PG.rn O), .int .i64 (PG.kd O), .int .i64 (PG.pn O).1, .int .i64 (PG.pn O).2.1, .int .i64 (PG.pn O).2.2] 56) = wb2 at hwb2 bg11 bo2 ⊢
                generalize wb.heap.size = g11 at lwb2 bg11 ⊢
                have k0 : wb2.cell? ⟨gb, 0, none⟩ = some (.int .i64 (B.g.rows : Nat)) := (HSb2.out.below hwb2 HSb2.out.lt).c0
                have k1 : wb2.cell? ⟨gb, 1, none⟩ = some (.int .i64 (B.g.cols : Nat)) := (HSb2.out.below hwb2 HSb2.out.lt).c1
                have k2 : wb2.cell? ⟨gb, 2, none⟩ = some (.slice A3b (B.g.rows * B.g.cols) c3b) := (HSb2.out.below hwb2 HSb2.out.lt).c2
                go_wp2_with fail
                refine (u_atc RB.out.g (HGb2.out.low hwb2) y x hBy hBx HE2.out).mono ?_
                rintro e wd ⟨rfl, bd⟩
                go_upto_region 13 with fail
                have hwd2 := (hwb2.trans (bd.mono hwb2.size)).alloc (hwb2.trans (bd.mono hwb2.size)).size (.cells #[.int .i32 (PG.rn O), .int .i64 (PG.kd O), .int .i64 (PG.pn O).1, .int .i64 (PG.pn O).2.1, .int .i64 (PG.pn O).2.2] 56)
                have lwd2 : w0.heap.size ≤ wd.heap.size := (hwb2.trans (bd.mono hwb2.size)).size
                have bg13 := Box.new wd 56 #[.int .i32 (PG.rn O), .int .i64 (PG.kd O), .int .i64 (PG.pn O).1, .int .i64 (PG.pn O).2.1, .int .i64 (PG.pn O).2.2]
                have bo3 := (bo2.below bd bo2.lt).alloc (.cells #[.int .i32 (PG.rn O), .int .i64 (PG.kd O), .int .i64 (PG.pn O).1, .int .i64 (PG.pn O).2.1, .int .i64 (PG.pn O).2.2] 56)
                clear bo2
                have bu2 := (bg11.below bd bg11.lt).alloc (.cells #[.int .i32 (PG.rn O), .int .i64 (PG.kd O), .int .i64 (PG.pn O).1, .int .i64 (PG.pn O).2.1, .int .i64 (PG.pn O).2.2] 56)
                clear bg11
                clear bd k0 k1 k2
                generalize wd.alloc (.cells #[.int .i32 (PG.rn O), .int .i64 (PG.kd O), .int .i64 (PG.pn O).1, .int .i64 (PG.pn O).2.1, .int .i64 (PG.pn O).2.2] 56) = wd2 at hwd2 bg13 bo3 bu2 ⊢
                generalize wd.heap.size = g13 at lwd2 bg13 ⊢
                go_cut [15, 16] from 76 to 77 (fun ua ub wx => ∃ gA gB, ua = .pointer (some ⟨gA, 0, none⟩) ∧ ub = .pointer (some ⟨gB, 0, none⟩) ∧ (wd2.heap.size ≤ gA ∧ wd2.heap.size ≤ gB ∧ gA ≠ gB) ∧ Box wx gA 56 #[.int .i32 (PG.rn O), .int .i64 (PG.kd O), .int .i64 (PG.pn O).1, .int .i64 (PG.pn O).2.1, .int .i64 (PG.pn O).2.2] ∧ Box wx gB 56 #[.int .i32 (PG.rn O), .int .i64 (PG.kd O), .int .i64 (PG.pn O).1, .int .i64 (PG.pn O).2.1, .int .i64 (PG.pn O).2.2] ∧ Below wd2.heap.size wd2 wx)
                case first =>
                  refine wp_region_gj (n := 146) [] (fun _ => #[]) [(0, 0, 0, 0, 0), (0, 0, 0, 0, 0), (2, 0, 0, 56, 5), (2, 0, 0, 56, 5), (3, 2, 0, 56, 5), (3, 3, 1, 56, 5)] (fun j => [(.agg #[.int .i32 (PG.rn O), .int .i64 (PG.kd O), .int .i64 (PG.pn O).1, .int .i64 (PG.pn O).2.1, .int .i64 (PG.pn O).2.2]), (.agg #[.int .i32 (PG.rn O), .int .i64 (PG.kd O), .int .i64 (PG.pn O).1, .int .i64 (PG.pn O).2.1, .int .i64 (PG.pn O).2.2]), undef, undef, undef, undef].getD j undef) [] (fun _ => 0) (by kernel_rfl) (by kernel_rfl) (by kernel_rfl) rfl (by kernel_rfl) (gno4 rfl) (fun i j h => by revert h; exact gno4 (p := fun _ => _) rfl i) (AllG.nil _) (fun hGS => cases6 ⟨?_, ?_, ?_, ?_, ?_, ?_⟩) ?_
                  · intro L a w' hL hsame hsz hJ hdep hcl
                    have hb := hJ.kept.toBelow (Nat.le_refl _) (by simp)
                    have e0 : a.eval (.tmp 9) = (.pointer (some ⟨g9, 0, none⟩)) := eval_base hsame (by kernel_rfl)
                    have hx := hJ.keptBox (bo3) (by simp)
                    have q0 : w'.cell? ⟨g9, 0, none⟩ = some (.int .i32 (PG.rn O)) := hx.cell 0
                    have q1 : w'.cell? ⟨g9, 1, none⟩ = some (.int .i64 (PG.kd O)) := hx.cell 1
                    have q2 : w'.cell? ⟨g9, 2, none⟩ = some (.int .i64 (PG.pn O).1) := hx.cell 2
                    have q3 : w'.cell? ⟨g9, 3, none⟩ = some (.int .i64 (PG.pn O).2.1) := hx.cell 3
                    have q4 : w'.cell? ⟨g9, 4, none⟩ = some (.int .i64 (PG.pn O).2.2) := hx.cell 4
                    refine Step.val _ rfl rfl (wanted_none rfl) (.agg #[.int .i32 (PG.rn O), .int .i64 (PG.kd O), .int .i64 (PG.pn O).1, .int .i64 (PG.pn O).2.1, .int .i64 (PG.pn O).2.2]) w' (fun ρ hρ => ?_) (hJ.val hGS hcl hL rfl (Below.refl _ _) _ rfl)
                    clear hx
                    rw [hρ] at e0
                    clear hJ hsame hdep hcl hρ hsz hb
                    go_simp
                  · intro L a w' hL hsame hsz hJ hdep hcl
                    have hb := hJ.kept.toBelow (Nat.le_refl _) (by simp)
                    have e0 : a.eval (.tmp 9) = (.pointer (some ⟨g9, 0, none⟩)) := eval_base hsame (by kernel_rfl)
                    have hx := hJ.keptBox (bo3) (by simp)
                    have q0 : w'.cell? ⟨g9, 0, none⟩ = some (.int .i32 (PG.rn O)) := hx.cell 0
                    have q1 : w'.cell? ⟨g9, 1, none⟩ = some (.int .i64 (PG.kd O)) := hx.cell 1
                    have q2 : w'.cell? ⟨g9, 2, none⟩ = some (.int .i64 (PG.pn O).1) := hx.cell 2
                    have q3 : w'.cell? ⟨g9, 3, none⟩ = some (.int .i64 (PG.pn O).2.1) := hx.cell 3
                    have q4 : w'.cell? ⟨g9, 4, none⟩ = some (.int .i64 (PG.pn O).2.2) := hx.cell 4
                    refine Step.val _ rfl rfl (wanted_none rfl) (.agg #[.int .i32 (PG.rn O), .int .i64 (PG.kd O), .int .i64 (PG.pn O).1, .int .i64 (PG.pn O).2.1, .int .i64 (PG.pn O).2.2]) w' (fun ρ hρ => ?_) (hJ.val hGS hcl hL rfl (Below.refl _ _) _ rfl)
                    clear hx
                    rw [hρ] at e0
                    clear hJ hsame hdep hcl hρ hsz hb
                    go_simp
                  · intro L a w' hL hsame hsz hJ hdep hcl
                    have hb := hJ.kept.toBelow (Nat.le_refl _) (by simp)
                    refine Step.val _ rfl rfl (wanted_none rfl) (.pointer (some ⟨w'.heap.size, 0, none⟩)) (w'.alloc (.cells #[.int .i32 0, .int .i64 0, .int .i64 0, .int .i64 0, .int .i64 0] 56)) (fun ρ hρ => ?_) (hJ.box hGS hcl hL rfl 56 rfl #[.int .i32 0, .int .i64 0, .int .i64 0, .int .i64 0, .int .i64 0] rfl)
                    clear hJ hsame hdep hcl hρ hsz hb
                    go_simp
                  · intro L a w' hL hsame hsz hJ hdep hcl
                    have hb := hJ.kept.toBelow (Nat.le_refl _) (by simp)
                    refine Step.val _ rfl rfl (wanted_none rfl) (.pointer (some ⟨w'.heap.size, 0, none⟩)) (w'.alloc (.cells #[.int .i32 0, .int .i64 0, .int .i64 0, .int .i64 0, .int .i64 0] 56)) (fun ρ hρ => ?_) (hJ.box hGS hcl hL rfl 56 rfl #[.int .i32 0, .int .i64 0, .int .i64 0, .int .i64 0, .int .i64 0] rfl)
                    clear hJ hsame hdep hcl hρ hsz hb
                    go_simp
                  · intro L a w' hL hsame hsz hJ hdep hcl
                    have hb := hJ.kept.toBelow (Nat.le_refl _) (by simp)
                    have hsv := hJ.valOf (j := 0) (by decide) (dep_of hdep 0 (by kernel_rfl)) rfl rfl
                    have es : a.eval (.tmp 76) = (.agg #[.int .i32 (PG.rn O), .int .i64 (PG.kd O), .int .i64 (PG.pn O).1, .int .i64 (PG.pn O).2.1, .int .i64 (PG.pn O).2.2]) := eval_slot (j := 0) (by kernel_rfl) hsv
                    have la := dep_of hdep 2 (by kernel_rfl)
                    obtain ⟨g, cs, hg, hg0, hx, hs⟩ := hJ.boxOf (j := 2) (by decide) la rfl
                    have ea : a.eval (.tmp 15) = .pointer (some ⟨g, 0, none⟩) := eval_slot (j := 2) (by kernel_rfl) hg
                    obtain ⟨m0, hm0⟩ : ∃ m, w'.cell? ⟨g, 0, none⟩ = some m := ⟨_, (hx.cell 0).trans (Array.getElem?_eq_getElem (by rw [hs]; decide))⟩
                    have hf0 := hx.frozen 0
                    obtain ⟨m1, hm1⟩ : ∃ m, w'.cell? ⟨g, 1, none⟩ = some m := ⟨_, (hx.cell 1).trans (Array.getElem?_eq_getElem (by rw [hs]; decide))⟩
                    have hf1 := hx.frozen 1
                    obtain ⟨m2, hm2⟩ : ∃ m, w'.cell? ⟨g, 2, none⟩ = some m := ⟨_, (hx.cell 2).trans (Array.getElem?_eq_getElem (by rw [hs]; decide))⟩
                    have hf2 := hx.frozen 2
                    obtain ⟨m3, hm3⟩ : ∃ m, w'.cell? ⟨g, 3, none⟩ = some m := ⟨_, (hx.cell 3).trans (Array.getElem?_eq_getElem (by rw [hs]; decide))⟩
                    have hf3 := hx.frozen 3
                    obtain ⟨m4, hm4⟩ : ∃ m, w'.cell? ⟨g, 4, none⟩ = some m := ⟨_, (hx.cell 4).trans (Array.getElem?_eq_getElem (by rw [hs]; decide))⟩
                    have hf4 := hx.frozen 4
                    refine Step.skip _ rfl (wanted_none rfl) (setL w' g 0 [.int .i32 (PG.rn O), .int .i64 (PG.kd O), .int .i64 (PG.pn O).1, .int .i64 (PG.pn O).2.1, .int .i64 (PG.pn O).2.2]) (fun ρ hρ => ?_) (hJ.put hGS hcl hL rfl la (dep_of hdep 0 (by kernel_rfl)) hg rfl hsv)
                    rw [hρ] at es ea
                    clear hJ hsame hdep hcl hρ hsz hb hsv hx hs hg
                    simp only [setL]
                    go_simp
                  · intro L a w' hL hsame hsz hJ hdep hcl
                    have hb := hJ.kept.toBelow (Nat.le_refl _) (by simp)
                    have hsv := hJ.valOf (j := 1) (by decide) (dep_of hdep 1 (by kernel_rfl)) rfl rfl
                    have es : a.eval (.tmp 77) = (.agg #[.int .i32 (PG.rn O), .int .i64 (PG.kd O), .int .i64 (PG.pn O).1, .int .i64 (PG.pn O).2.1, .int .i64 (PG.pn O).2.2]) := eval_slot (j := 1) (by kernel_rfl) hsv
                    have la := dep_of hdep 3 (by kernel_rfl)
                    obtain ⟨g, cs, hg, hg0, hx, hs⟩ := hJ.boxOf (j := 3) (by decide) la rfl
                    have ea : a.eval (.tmp 16) = .pointer (some ⟨g, 0, none⟩) := eval_slot (j := 3) (by kernel_rfl) hg
                    obtain ⟨m0, hm0⟩ : ∃ m, w'.cell? ⟨g, 0, none⟩ = some m := ⟨_, (hx.cell 0).trans (Array.getElem?_eq_getElem (by rw [hs]; decide))⟩
                    have hf0 := hx.frozen 0
                    obtain ⟨m1, hm1⟩ : ∃ m, w'.cell? ⟨g, 1, none⟩ = some m := ⟨_, (hx.cell 1).trans (Array.getElem?_eq_getElem (by rw [hs]; decide))⟩
                    have hf1 := hx.frozen 1
                    obtain ⟨m2, hm2⟩ : ∃ m, w'.cell? ⟨g, 2, none⟩ = some m := ⟨_, (hx.cell 2).trans (Array.getElem?_eq_getElem (by rw [hs]; decide))⟩
                    have hf2 := hx.frozen 2
                    obtain ⟨m3, hm3⟩ : ∃ m, w'.cell? ⟨g, 3, none⟩ = some m := ⟨_, (hx.cell 3).trans (Array.getElem?_eq_getElem (by rw [hs]; decide))⟩
                    have hf3 := hx.frozen 3
                    obtain ⟨m4, hm4⟩ : ∃ m, w'.cell? ⟨g, 4, none⟩ = some m := ⟨_, (hx.cell 4).trans (Array.getElem?_eq_getElem (by rw [hs]; decide))⟩
                    have hf4 := hx.frozen 4
                    refine Step.skip _ rfl (wanted_none rfl) (setL w' g 0 [.int .i32 (PG.rn O), .int .i64 (PG.kd O), .int .i64 (PG.pn O).1, .int .i64 (PG.pn O).2.1, .int .i64 (PG.pn O).2.2]) (fun ρ hρ => ?_) (hJ.put hGS hcl hL rfl la (dep_of hdep 1 (by kernel_rfl)) hg rfl hsv)
                    rw [hρ] at es ea
                    clear hJ hsame hdep hcl hρ hsz hb hsv hx hs hg
                    simp only [setL]
                    go_simp
                  · intro u w' hF
                    change Exit.then _ _ Exit.normal (Act.put (Act.put (Act.put (Act.put (Act.put (Act.put (putAll _ u 0 _) (some 76) (u 0)) (some 77) (u 1)) (some 15) (u 2)) (some 16) (u 3)) none (u 4)) none (u 5)) _
                    simp only [putAll]
                    obtain ⟨gA, ha, la, hA⟩ := hF.fin3 (j := 4) (a := 2) (v := 0) (by decide) rfl rfl rfl (by decide) rfl (by decide) rfl (cs := #[.int .i32 (PG.rn O), .int .i64 (PG.kd O), .int .i64 (PG.pn O).1, .int .i64 (PG.pn O).2.1, .int .i64 (PG.pn O).2.2]) rfl
                    obtain ⟨gB, hbb, lb, hB⟩ := hF.fin3 (j := 5) (a := 3) (v := 1) (by decide) rfl rfl rfl (by decide) rfl (by decide) rfl (cs := #[.int .i32 (PG.rn O), .int .i64 (PG.kd O), .int .i64 (PG.pn O).1, .int .i64 (PG.pn O).2.1, .int .i64 (PG.pn O).2.2]) rfl
                    have nab := hF.dist 2 3 rfl rfl rfl rfl (by decide)
                    have hk := hF.kept.toBelow (Nat.le_refl _) (by simp)
                    clear hF
                    generalize u 0 = y0
                    generalize u 1 = y1
                    generalize u 2 = y2 at ha nab ⊢
                    generalize u 3 = y3 at hbb nab ⊢
                    generalize u 4 = y4
                    generalize u 5 = y5
                    subst ha hbb
                    have m1 : gA ≠ gB := fun e => nab (by rw [e])
                    clear nab
                    go_simp
                    go_step
                    go_meet
                    exact ⟨gA, gB, rfl, rfl, ⟨la, lb, m1⟩, hA, hB, hk⟩
                case rest =>
                  obtain ⟨gA, gB, rfl, rfl, ⟨la, lb, nab⟩, hA, hB, hbe⟩ := hcut
                  rename World => we
                  have hwe := hwd2.trans (hbe.mono hwd2.size)
                  have bu3 := bu2.below hbe bu2.lt
                  have bd3 := bg13.below hbe bg13.lt
                  have nA11 : g11 ≠ gA := by have := bu2.lt; omega
                  have nB11 : g11 ≠ gB := by have := bu2.lt; omega
                  have nA13 : g13 ≠ gA := by have := bg13.lt; omega
                  have nB13 : g13 ≠ gB := by have := bg13.lt; omega
                  have l2 := hwd2.size
                  have lA : w0.heap.size ≤ gA := by omega
                  have lB : w0.heap.size ≤ gB := by omega
                  clear bu2 bg13 bo3 hbe la lb hwd2 hwb2 hwa2 lwd2 lwb2 lwa2
                  have q6 : we.cell? ⟨gs, 6, none⟩ = some (.int .i64 (S.top : Nat)) := (HSs3.out.below hwe HSs3.out.lt).c6
                  have q7 : we.cell? ⟨gs, 7, none⟩ = some (.int .i64 (S.bot : Nat)) := (HSs3.out.below hwe HSs3.out.lt).c7
                  have u0 : we.cell? ⟨g11, 0, none⟩ = some (.int .i32 (PG.rn O)) := bu3.cell 0
                  have u1 : we.cell? ⟨g11, 1, none⟩ = some (.int .i64 (PG.kd O)) := bu3.cell 1
                  have u2 : we.cell? ⟨g11, 2, none⟩ = some (.int .i64 (PG.pn O).1) := bu3.cell 2
                  have u3 : we.cell? ⟨g11, 3, none⟩ = some (.int .i64 (PG.pn O).2.1) := bu3.cell 3
                  have u4 : we.cell? ⟨g11, 4, none⟩ = some (.int .i64 (PG.pn O).2.2) := bu3.cell 4
                  have d0 : we.cell? ⟨g13, 0, none⟩ = some (.int .i32 (PG.rn O)) := bd3.cell 0
                  have d1 : we.cell? ⟨g13, 1, none⟩ = some (.int .i64 (PG.kd O)) := bd3.cell 1
                  have d2 : we.cell? ⟨g13, 2, none⟩ = some (.int .i64 (PG.pn O).1) := bd3.cell 2
                  have d3 : we.cell? ⟨g13, 3, none⟩ = some (.int .i64 (PG.pn O).2.1) := bd3.cell 3
                  have d4 : we.cell? ⟨g13, 4, none⟩ = some (.int .i64 (PG.pn O).2.2) := bd3.cell 4
                  have a0 : we.cell? ⟨gA, 0, none⟩ = some (.int .i32 (PG.rn O)) := hA.cell 0
                  have a1 : we.cell? ⟨gA, 1, none⟩ = some (.int .i64 (PG.kd O)) := hA.cell 1
                  have a2 : we.cell? ⟨gA, 2, none⟩ = some (.int .i64 (PG.pn O).1) := hA.cell 2
                  have a3 : we.cell? ⟨gA, 3, none⟩ = some (.int .i64 (PG.pn O).2.1) := hA.cell 3
                  have a4 : we.cell? ⟨gA, 4, none⟩ = some (.int .i64 (PG.pn O).2.2) := hA.cell 4
                  have b0 : we.cell? ⟨gB, 0, none⟩ = some (.int .i32 (PG.rn O)) := hB.cell 0
                  have b1 : we.cell? ⟨gB, 1, none⟩ = some (.int .i64 (PG.kd O)) := hB.cell 1
                  have b2 : we.cell? ⟨gB, 2, none⟩ = some (.int .i64 (PG.pn O).1) := hB.cell 2
                  have b3 : we.cell? ⟨gB, 3, none⟩ = some (.int .i64 (PG.pn O).2.1) := hB.cell 3
                  have b4 : we.cell? ⟨gB, 4, none⟩ = some (.int .i64 (PG.pn O).2.2) := hB.cell 4
                  have en1 := HEN.out O
                  have en2 := HEN.out O
                  go_wp2_with fail
                  go_roundw
                  case rel => exact ⟨x + 1, by omega, by go_num, hide hwe⟩
                  case measure => simp [intOf]; omega
            · as_aux_lemma =>
                obtain ⟨O, hO⟩ : ∃ O, S.g.f y x = O := ⟨_, rfl⟩
                rw [if_pos (by omega), if_pos (by omega), show ((y : Int) + 1).toNat = y + 1 by omega] at c1_
                obtain ⟨U1, hU⟩ : ∃ U, S.g.f (y + 1) x = U := ⟨_, rfl⟩
                rw [hU] at c1_
                have HU := hide hU
                clear hU
                rw [if_pos (by omega), if_pos (by omega), show ((y : Int) + -1).toNat = y - 1 by omega] at c2_
                obtain ⟨D1, hD⟩ : ∃ D, S.g.f (y - 1) x = D := ⟨_, rfl⟩
                rw [hD] at c2_
                have HD := hide hD
                clear hD
                have HE1 := hide c1_
                have HE2 := hide c2_
                have HO := hide hO
                clear c1_ c2_ hO
                go_wp2_with fail
                refine (u_atc RS.out.g (HGs5.out.low hb1) y x hyr hxc HO.out).mono ?_
                rintro e wa ⟨rfl, ba⟩
                go_upto_region 11 with fail
                have hwa2 := (hb1.trans (ba.mono hb1.size)).alloc (hb1.trans (ba.mono hb1.size)).size (.cells #[.int .i32 (PG.rn O), .int .i64 (PG.kd O), .int .i64 (PG.pn O).1, .int .i64 (PG.pn O).2.1, .int .i64 (PG.pn O).2.2] 56)
                have lwa2 : w0.heap.size ≤ wa.heap.size := (hb1.trans (ba.mono hb1.size)).size
                have bg9 := Box.new wa 56 #[.int .i32 (PG.rn O), .int .i64 (PG.kd O), .int .i64 (PG.pn O).1, .int .i64 (PG.pn O).2.1, .int .i64 (PG.pn O).2.2]
                clear ba k0 k1 k2
                generalize wa.alloc (.cells #[.int .i32 (PG.rn O), .int .i64 (PG.kd O), .int .i64 (PG.pn O).1, .int .i64 (PG.pn O).2.1, .int .i64 (PG.pn O).2.2] 56) = wa2 at hwa2 bg9  ⊢
                generalize wa.heap.size = g9 at lwa2 bg9 ⊢
                have k0 : wa2.cell? ⟨gf, 0, none⟩ = some (.int .i64 (F.g.rows : Nat)) := (HSf2.out.below hwa2 HSf2.out.lt).c0
                have k1 : wa2.cell? ⟨gf, 1, none⟩ = some (.int .i64 (F.g.cols : Nat)) := (HSf2.out.below hwa2 HSf2.out.lt).c1
                have k2 : wa2.cell? ⟨gf, 2, none⟩ = some (.slice A3a (F.g.rows * F.g.cols) c3a) := (HSf2.out.below hwa2 HSf2.out.lt).c2
                go_wp2_with fail
                refine (u_atc RF.out.g (HGf2.out.low hwa2) y x hFy hFx HE1.out).mono ?_
                rintro e wb ⟨rfl, bb⟩
                go_upto_region 12 with fail
                have hwb2 := (hwa2.trans (bb.mono hwa2.size)).alloc (hwa2.trans (bb.mono hwa2.size)).size (.cells #[.int .i32 (PG.rn U1), .int .i64 (PG.kd U1), .int .i64 (PG.pn U1).1, .int .i64 (PG.pn U1).2.1, .int .i64 (PG.pn U1).2.2] 56)
                have lwb2 : w0.heap.size ≤ wb.heap.size := (hwa2.trans (bb.mono hwa2.size)).size
                have bg11 := Box.new wb 56 #[.int .i32 (PG.rn U1), .int .i64 (PG.kd U1), .int .i64 (PG.pn U1).1, .int .i64 (PG.pn U1).2.1, .int .i64 (PG.pn U1).2.2]
                have bo2 := (bg9.below bb bg9.lt).alloc (.cells #[.int .i32 (PG.rn U1), .int .i64 (PG.kd U1), .int .i64 (PG.pn U1).1, .int .i64 (PG.pn U1).2.1, .int .i64 (PG.pn U1).2.2] 56)
                clear bg9
                clear bb k0 k1 k2
                generalize wb.alloc (.cells #[.int .i32 (PG.rn U1), .int .i64 (PG.kd U1), .int .i64 (PG.pn U1).1, .int .i64 (PG.pn U1).2.1, .int .i64 (PG.pn U1).2.2] 56) = wb2 at hwb2 bg11 bo2 ⊢
                generalize wb.heap.size = g11 at lwb2 bg11 ⊢
                have k0 : wb2.cell? ⟨gb, 0, none⟩ = some (.int .i64 (B.g.rows : Nat)) := (HSb2.out.below hwb2 HSb2.out.lt).c0
                have k1 : wb2.cell? ⟨gb, 1, none⟩ = some (.int .i64 (B.g.cols : Nat)) := (HSb2.out.below hwb2 HSb2.out.lt).c1
                have k2 : wb2.cell? ⟨gb, 2, none⟩ = some (.slice A3b (B.g.rows * B.g.cols) c3b) := (HSb2.out.below hwb2 HSb2.out.lt).c2
                go_wp2_with fail
                refine (u_atc RB.out.g (HGb2.out.low hwb2) y x hBy hBx HE2.out).mono ?_
                rintro e wd ⟨rfl, bd⟩
                go_upto_region 13 with fail
                have hwd2 := (hwb2.trans (bd.mono hwb2.size)).alloc (hwb2.trans (bd.mono hwb2.size)).size (.cells #[.int .i32 (PG.rn D1), .int .i64 (PG.kd D1), .int .i64 (PG.pn D1).1, .int .i64 (PG.pn D1).2.1, .int .i64 (PG.pn D1).2.2] 56)
                have lwd2 : w0.heap.size ≤ wd.heap.size := (hwb2.trans (bd.mono hwb2.size)).size
                have bg13 := Box.new wd 56 #[.int .i32 (PG.rn D1), .int .i64 (PG.kd D1), .int .i64 (PG.pn D1).1, .int .i64 (PG.pn D1).2.1, .int .i64 (PG.pn D1).2.2]
                have bo3 := (bo2.below bd bo2.lt).alloc (.cells #[.int .i32 (PG.rn D1), .int .i64 (PG.kd D1), .int .i64 (PG.pn D1).1, .int .i64 (PG.pn D1).2.1, .int .i64 (PG.pn D1).2.2] 56)
                clear bo2
                have bu2 := (bg11.below bd bg11.lt).alloc (.cells #[.int .i32 (PG.rn D1), .int .i64 (PG.kd D1), .int .i64 (PG.pn D1).1, .int .i64 (PG.pn D1).2.1, .int .i64 (PG.pn D1).2.2] 56)
                clear bg11
                clear bd k0 k1 k2
                generalize wd.alloc (.cells #[.int .i32 (PG.rn D1), .int .i64 (PG.kd D1), .int .i64 (PG.pn D1).1, .int .i64 (PG.pn D1).2.1, .int .i64 (PG.pn D1).2.2] 56) = wd2 at hwd2 bg13 bo3 bu2 ⊢
                generalize wd.heap.size = g13 at lwd2 bg13 ⊢
                go_cut [15, 16] from 76 to 77 (fun ua ub wx => ∃ gA gB, ua = .pointer (some ⟨gA, 0, none⟩) ∧ ub = .pointer (some ⟨gB, 0, none⟩) ∧ (wd2.heap.size ≤ gA ∧ wd2.heap.size ≤ gB ∧ gA ≠ gB) ∧ Box wx gA 56 #[.int .i32 (PG.rn O), .int .i64 (PG.kd O), .int .i64 (PG.pn O).1, .int .i64 (PG.pn O).2.1, .int .i64 (PG.pn O).2.2] ∧ Box wx gB 56 #[.int .i32 (PG.rn O), .int .i64 (PG.kd O), .int .i64 (PG.pn O).1, .int .i64 (PG.pn O).2.1, .int .i64 (PG.pn O).2.2] ∧ Below wd2.heap.size wd2 wx)
                case first =>
                  refine wp_region_gj (n := 146) [] (fun _ => #[]) [(0, 0, 0, 0, 0), (0, 0, 0, 0, 0), (2, 0, 0, 56, 5), (2, 0, 0, 56, 5), (3, 2, 0, 56, 5), (3, 3, 1, 56, 5)] (fun j => [(.agg #[.int .i32 (PG.rn O), .int .i64 (PG.kd O), .int .i64 (PG.pn O).1, .int .i64 (PG.pn O).2.1, .int .i64 (PG.pn O).2.2]), (.agg #[.int .i32 (PG.rn O), .int .i64 (PG.kd O), .int .i64 (PG.pn O).1, .int .i64 (PG.pn O).2.1, .int .i64 (PG.pn O).2.2]), undef, undef, undef, undef].getD j undef) [] (fun _ => 0) (by kernel_rfl) (by kernel_rfl) (by kernel_rfl) rfl (by kernel_rfl) (gno4 rfl) (fun i j h => by revert h; exact gno4 (p := fun _ => _) rfl i) (AllG.nil _) (fun hGS => cases6 ⟨?_, ?_, ?_, ?_, ?_, ?_⟩) ?_
                  · intro L a w' hL hsame hsz hJ hdep hcl
                    have hb := hJ.kept.toBelow (Nat.le_refl _) (by simp)
                    have e0 : a.eval (.tmp 9) = (.pointer (some ⟨g9, 0, none⟩)) := eval_base hsame (by kernel_rfl)
                    have hx := hJ.keptBox (bo3) (by simp)
                    have q0 : w'.cell? ⟨g9, 0, none⟩ = some (.int .i32 (PG.rn O)) := hx.cell 0
                    have q1 : w'.cell? ⟨g9, 1, none⟩ = some (.int .i64 (PG.kd O)) := hx.cell 1
                    have q2 : w'.cell? ⟨g9, 2, none⟩ = some (.int .i64 (PG.pn O).1) := hx.cell 2
                    have q3 : w'.cell? ⟨g9, 3, none⟩ = some (.int .i64 (PG.pn O).2.1) := hx.cell 3
                    have q4 : w'.cell? ⟨g9, 4, none⟩ = some (.int .i64 (PG.pn O).2.2) := hx.cell 4
                    refine Step.val _ rfl rfl (wanted_none rfl) (.agg #[.int .i32 (PG.rn O), .int .i64 (PG.kd O), .int .i64 (PG.pn O).1, .int .i64 (PG.pn O).2.1, .int .i64 (PG.pn O).2.2]) w' (fun ρ hρ => ?_) (hJ.val hGS hcl hL rfl (Below.refl _ _) _ rfl)
                    clear hx
                    rw [hρ] at e0
                    clear hJ hsame hdep hcl hρ hsz hb
                    go_simp
                  · intro L a w' hL hsame hsz hJ hdep hcl
                    have hb := hJ.kept.toBelow (Nat.le_refl _) (by simp)
                    have e0 : a.eval (.tmp 9) = (.pointer (some ⟨g9, 0, none⟩)) := eval_base hsame (by kernel_rfl)
                    have hx := hJ.keptBox (bo3) (by simp)
                    have q0 : w'.cell? ⟨g9, 0, none⟩ = some (.int .i32 (PG.rn O)) := hx.cell 0
                    have q1 : w'.cell? ⟨g9, 1, none⟩ = some (.int .i64 (PG.kd O)) := hx.cell 1
                    have q2 : w'.cell? ⟨g9, 2, none⟩ = some (.int .i64 (PG.pn O).1) := hx.cell 2
                    have q3 : w'.cell? ⟨g9, 3, none⟩ = some (.int .i64 (PG.pn O).2.1) := hx.cell 3
                    have q4 : w'.cell? ⟨g9, 4, none⟩ = some (.int .i64 (PG.pn O).2.2) := hx.cell 4
                    refine Step.val _ rfl rfl (wanted_none rfl) (.agg #[.int .i32 (PG.rn O), .int .i64 (PG.kd O), .int .i64 (PG.pn O).1, .int .i64 (PG.pn O).2.1, .int .i64 (PG.pn O).2.2]) w' (fun ρ hρ => ?_) (hJ.val hGS hcl hL rfl (Below.refl _ _) _ rfl)
                    clear hx
                    rw [hρ] at e0
                    clear hJ hsame hdep hcl hρ hsz hb
                    go_simp
                  · intro L a w' hL hsame hsz hJ hdep hcl
                    have hb := hJ.kept.toBelow (Nat.le_refl _) (by simp)
                    refine Step.val _ rfl rfl (wanted_none rfl) (.pointer (some ⟨w'.heap.size, 0, none⟩)) (w'.alloc (.cells #[.int .i32 0, .int .i64 0, .int .i64 0, .int .i64 0, .int .i64 0] 56)) (fun ρ hρ => ?_) (hJ.box hGS hcl hL rfl 56 rfl #[.int .i32 0, .int .i64 0, .int .i64 0, .int .i64 0, .int .i64 0] rfl)
                    clear hJ hsame hdep hcl hρ hsz hb
                    go_simp
                  · intro L a w' hL hsame hsz hJ hdep hcl
                    have hb := hJ.kept.toBelow (Nat.le_refl _) (by simp)
                    refine Step.val _ rfl rfl (wanted_none rfl) (.pointer (some ⟨w'.heap.size, 0, none⟩)) (w'.alloc (.cells #[.int .i32 0, .int .i64 0, .int .i64 0, .int .i64 0, .int .i64 0] 56)) (fun ρ hρ => ?_) (hJ.box hGS hcl hL rfl 56 rfl #[.int .i32 0, .int .i64 0, .int .i64 0, .int .i64 0, .int .i64 0] rfl)
                    clear hJ hsame hdep hcl hρ hsz hb
                    go_simp
                  · intro L a w' hL hsame hsz hJ hdep hcl
                    have hb := hJ.kept.toBelow (Nat.le_refl _) (by simp)
                    have hsv := hJ.valOf (j := 0) (by decide) (dep_of hdep 0 (by kernel_rfl)) rfl rfl
                    have es : a.eval (.tmp 76) = (.agg #[.int .i32 (PG.rn O), .int .i64 (PG.kd O), .int .i64 (PG.pn O).1, .int .i64 (PG.pn O).2.1, .int .i64 (PG.pn O).2.2]) := eval_slot (j := 0) (by kernel_rfl) hsv
                    have la := dep_of hdep 2 (by kernel_rfl)
                    obtain ⟨g, cs, hg, hg0, hx, hs⟩ := hJ.boxOf (j := 2) (by decide) la rfl
                    have ea : a.eval (.tmp 15) = .pointer (some ⟨g, 0, none⟩) := eval_slot (j := 2) (by kernel_rfl) hg
                    obtain ⟨m0, hm0⟩ : ∃ m, w'.cell? ⟨g, 0, none⟩ = some m := ⟨_, (hx.cell 0).trans (Array.getElem?_eq_getElem (by rw [hs]; decide))⟩
                    have hf0 := hx.frozen 0
                    obtain ⟨m1, hm1⟩ : ∃ m, w'.cell? ⟨g, 1, none⟩ = some m := ⟨_, (hx.cell 1).trans (Array.getElem?_eq_getElem (by rw [hs]; decide))⟩
                    have hf1 := hx.frozen 1
                    obtain ⟨m2, hm2⟩ : ∃ m, w'.cell? ⟨g, 2, none⟩ = some m := ⟨_, (hx.cell 2).trans (Array.getElem?_eq_getElem (by rw [hs]; decide))⟩
                    have hf2 := hx.frozen 2
                    obtain ⟨m3, hm3⟩ : ∃ m, w'.cell? ⟨g, 3, none⟩ = some m := ⟨_, (hx.cell 3).trans (Array.getElem?_eq_getElem (by rw [hs]; decide))⟩
                    have hf3 := hx.frozen 3
                    obtain ⟨m4, hm4⟩ : ∃ m, w'.cell? ⟨g, 4, none⟩ = some m := ⟨_, (hx.cell 4).trans (Array.getElem?_eq_getElem (by rw [hs]; decide))⟩
                    have hf4 := hx.frozen 4
                    refine Step.skip _ rfl (wanted_none rfl) (setL w' g 0 [.int .i32 (PG.rn O), .int .i64 (PG.kd O), .int .i64 (PG.pn O).1, .int .i64 (PG.pn O).2.1, .int .i64 (PG.pn O).2.2]) (fun ρ hρ => ?_) (hJ.put hGS hcl hL rfl la (dep_of hdep 0 (by kernel_rfl)) hg rfl hsv)
                    rw [hρ] at es ea
                    clear hJ hsame hdep hcl hρ hsz hb hsv hx hs hg
                    simp only [setL]
                    go_simp
                  · intro L a w' hL hsame hsz hJ hdep hcl
                    have hb := hJ.kept.toBelow (Nat.le_refl _) (by simp)
                    have hsv := hJ.valOf (j := 1) (by decide) (dep_of hdep 1 (by kernel_rfl)) rfl rfl
                    have es : a.eval (.tmp 77) = (.agg #[.int .i32 (PG.rn O), .int .i64 (PG.kd O), .int .i64 (PG.pn O).1, .int .i64 (PG.pn O).2.1, .int .i64 (PG.pn O).2.2]) := eval_slot (j := 1) (by kernel_rfl) hsv
                    have la := dep_of hdep 3 (by kernel_rfl)
                    obtain ⟨g, cs, hg, hg0, hx, hs⟩ := hJ.boxOf (j := 3) (by decide) la rfl
                    have ea : a.eval (.tmp 16) = .pointer (some ⟨g, 0, none⟩) := eval_slot (j := 3) (by kernel_rfl) hg
                    obtain ⟨m0, hm0⟩ : ∃ m, w'.cell? ⟨g, 0, none⟩ = some m := ⟨_, (hx.cell 0).trans (Array.getElem?_eq_getElem (by rw [hs]; decide))⟩
                    have hf0 := hx.frozen 0
                    obtain ⟨m1, hm1⟩ : ∃ m, w'.cell? ⟨g, 1, none⟩ = some m := ⟨_, (hx.cell 1).trans (Array.getElem?_eq_getElem (by rw [hs]; decide))⟩
                    have hf1 := hx.frozen 1
                    obtain ⟨m2, hm2⟩ : ∃ m, w'.cell? ⟨g, 2, none⟩ = some m := ⟨_, (hx.cell 2).trans (Array.getElem?_eq_getElem (by rw [hs]; decide))⟩
                    have hf2 := hx.frozen 2
                    obtain ⟨m3, hm3⟩ : ∃ m, w'.cell? ⟨g, 3, none⟩ = some m := ⟨_, (hx.cell 3).trans (Array.getElem?_eq_getElem (by rw [hs]; decide))⟩
                    have hf3 := hx.frozen 3
                    obtain ⟨m4, hm4⟩ : ∃ m, w'.cell? ⟨g, 4, none⟩ = some m := ⟨_, (hx.cell 4).trans (Array.getElem?_eq_getElem (by rw [hs]; decide))⟩
                    have hf4 := hx.frozen 4
                    refine Step.skip _ rfl (wanted_none rfl) (setL w' g 0 [.int .i32 (PG.rn O), .int .i64 (PG.kd O), .int .i64 (PG.pn O).1, .int .i64 (PG.pn O).2.1, .int .i64 (PG.pn O).2.2]) (fun ρ hρ => ?_) (hJ.put hGS hcl hL rfl la (dep_of hdep 1 (by kernel_rfl)) hg rfl hsv)
                    rw [hρ] at es ea
                    clear hJ hsame hdep hcl hρ hsz hb hsv hx hs hg
                    simp only [setL]
                    go_simp
                  · intro u w' hF
                    change Exit.then _ _ Exit.normal (Act.put (Act.put (Act.put (Act.put (Act.put (Act.put (putAll _ u 0 _) (some 76) (u 0)) (some 77) (u 1)) (some 15) (u 2)) (some 16) (u 3)) none (u 4)) none (u 5)) _
                    simp only [putAll]
                    obtain ⟨gA, ha, la, hA⟩ := hF.fin3 (j := 4) (a := 2) (v := 0) (by decide) rfl rfl rfl (by decide) rfl (by decide) rfl (cs := #[.int .i32 (PG.rn O), .int .i64 (PG.kd O), .int .i64 (PG.pn O).1, .int .i64 (PG.pn O).2.1, .int .i64 (PG.pn O).2.2]) rfl
                    obtain ⟨gB, hbb, lb, hB⟩ := hF.fin3 (j := 5) (a := 3) (v := 1) (by decide) rfl rfl rfl (by decide) rfl (by decide) rfl (cs := #[.int .i32 (PG.rn O), .int .i64 (PG.kd O), .int .i64 (PG.pn O).1, .int .i64 (PG.pn O).2.1, .int .i64 (PG.pn O).2.2]) rfl
                    have nab := hF.dist 2 3 rfl rfl rfl rfl (by decide)
                    have hk := hF.kept.toBelow (Nat.le_refl _) (by simp)
                    clear hF
                    generalize u 0 = y0
                    generalize u 1 = y1
                    generalize u 2 = y2 at ha nab ⊢
                    generalize u 3 = y3 at hbb nab ⊢
                    generalize u 4 = y4
                    generalize u 5 = y5
                    subst ha hbb
                    have m1 : gA ≠ gB := fun e => nab (by rw [e])
                    clear nab
                    go_simp
                    go_step
                    go_meet
                    exact ⟨gA, gB, rfl, rfl, ⟨la, lb, m1⟩, hA, hB, hk⟩
                case rest =>
                  obtain ⟨gA, gB, rfl, rfl, ⟨la, lb, nab⟩, hA, hB, hbe⟩ := hcut
                  rename World => we
                  have hwe := hwd2.trans (hbe.mono hwd2.size)
                  have bu3 := bu2.below hbe bu2.lt
                  have bd3 := bg13.below hbe bg13.lt
                  have nA11 : g11 ≠ gA := by have := bu2.lt; omega
                  have nB11 : g11 ≠ gB := by have := bu2.lt; omega
                  have nA13 : g13 ≠ gA := by have := bg13.lt; omega
                  have nB13 : g13 ≠ gB := by have := bg13.lt; omega
                  have l2 := hwd2.size
                  have lA : w0.heap.size ≤ gA := by omega
                  have lB : w0.heap.size ≤ gB := by omega
                  clear bu2 bg13 bo3 hbe la lb hwd2 hwb2 hwa2 lwd2 lwb2 lwa2
                  have q6 : we.cell? ⟨gs, 6, none⟩ = some (.int .i64 (S.top : Nat)) := (HSs3.out.below hwe HSs3.out.lt).c6
                  have q7 : we.cell? ⟨gs, 7, none⟩ = some (.int .i64 (S.bot : Nat)) := (HSs3.out.below hwe HSs3.out.lt).c7
                  go_upto_region 15 with fail
                  have ncA : gc ≠ gA := by have := HC.out.lt; omega
                  have ncB : gc ≠ gB := by have := HC.out.lt; omega
                  have hcb := HC.out.below hwe HC.out.lt
                  have c0 : we.cell? ⟨gc, 0, none⟩ = some (.int .i32 (PG.rn bl)) := hcb.cell 0
                  have c1 : we.cell? ⟨gc, 1, none⟩ = some (.int .i64 (PG.kd bl)) := hcb.cell 1
                  have c2 : we.cell? ⟨gc, 2, none⟩ = some (.int .i64 (PG.pn bl).1) := hcb.cell 2
                  have c3 : we.cell? ⟨gc, 3, none⟩ = some (.int .i64 (PG.pn bl).2.1) := hcb.cell 3
                  have c4 : we.cell? ⟨gc, 4, none⟩ = some (.int .i64 (PG.pn bl).2.2) := hcb.cell 4
                  have a0 : we.cell? ⟨gA, 0, none⟩ = some (.int .i32 (PG.rn O)) := hA.cell 0
                  have a1 : we.cell? ⟨gA, 1, none⟩ = some (.int .i64 (PG.kd O)) := hA.cell 1
                  have a2 : we.cell? ⟨gA, 2, none⟩ = some (.int .i64 (PG.pn O).1) := hA.cell 2
                  have a3 : we.cell? ⟨gA, 3, none⟩ = some (.int .i64 (PG.pn O).2.1) := hA.cell 3
                  have a4 : we.cell? ⟨gA, 4, none⟩ = some (.int .i64 (PG.pn O).2.2) := hA.cell 4
                  have b0 : we.cell? ⟨gB, 0, none⟩ = some (.int .i32 (PG.rn O)) := hB.cell 0
                  have b1 : we.cell? ⟨gB, 1, none⟩ = some (.int .i64 (PG.kd O)) := hB.cell 1
                  have b2 : we.cell? ⟨gB, 2, none⟩ = some (.int .i64 (PG.pn O).1) := hB.cell 2
                  have b3 : we.cell? ⟨gB, 3, none⟩ = some (.int .i64 (PG.pn O).2.1) := hB.cell 3
                  have b4 : we.cell? ⟨gB, 4, none⟩ = some (.int .i64 (PG.pn O).2.2) := hB.cell 4
                  have za0 := hA.frozen 0
                  have za1 := hA.frozen 1
                  have za2 := hA.frozen 2
                  have za3 := hA.frozen 3
                  have za4 := hA.frozen 4
                  have zb0 := hB.frozen 0
                  have zb1 := hB.frozen 1
                  have zb2 := hB.frozen 2
                  have zb3 := hB.frozen 3
                  have zb4 := hB.frozen 4
                  go_cut [] from 78 to 90 (fun wx => Box wx gA 56 #[.int .i32 (PG.rn bl), .int .i64 (PG.kd bl), .int .i64 (PG.pn bl).1, .int .i64 (PG.pn bl).2.1, .int .i64 (PG.pn bl).2.2] ∧ Box wx gB 56 #[.int .i32 (PG.rn bl), .int .i64 (PG.kd bl), .int .i64 (PG.pn bl).1, .int .i64 (PG.pn bl).2.1, .int .i64 (PG.pn bl).2.2] ∧ Box wx g11 56 #[.int .i32 (PG.rn U1), .int .i64 (PG.kd U1), .int .i64 (PG.pn U1).1, .int .i64 (PG.pn U1).2.1, .int .i64 (PG.pn U1).2.2] ∧ Box wx g13 56 #[.int .i32 (PG.rn D1), .int .i64 (PG.kd D1), .int .i64 (PG.pn D1).1, .int .i64 (PG.pn D1).2.1, .int .i64 (PG.pn D1).2.2] ∧ Below w0.heap.size w0 wx)
                  case first =>
                    refine wp_region_gj (n := 146) [some gA, some gB] (fun j => cond (Nat.beq j 2) #[.int .i32 (PG.rn O), .int .i64 (PG.kd O), .int .i64 (PG.pn O).1, .int .i64 (PG.pn O).2.1, .int .i64 (PG.pn O).2.2] #[.int .i32 (PG.rn O), .int .i64 (PG.kd O), .int .i64 (PG.pn O).1, .int .i64 (PG.pn O).2.1, .int .i64 (PG.pn O).2.2]) [(0, 0, 0, 0, 0), (0, 0, 0, 0, 0), (4, 0, 0, 56, 5), (4, 0, 1, 56, 5)] (fun j => [(.agg #[.int .i32 (PG.rn bl), .int .i64 (PG.kd bl), .int .i64 (PG.pn bl).1, .int .i64 (PG.pn bl).2.1, .int .i64 (PG.pn bl).2.2]), (.agg #[.int .i32 (PG.rn bl), .int .i64 (PG.kd bl), .int .i64 (PG.pn bl).1, .int .i64 (PG.pn bl).2.1, .int .i64 (PG.pn bl).2.2]), undef, undef].getD j undef) [] (fun j => cond (Nat.beq j 2) gA gB) (by kernel_rfl) (by kernel_rfl) (by kernel_rfl) rfl (by kernel_rfl) (gonly4b (k := 2) (l := 3) rfl ⟨List.Mem.head _, rfl, hA⟩ ⟨List.Mem.tail _ (List.Mem.head _), rfl, hB⟩) (gonly44b (k := 2) (l := 3) rfl nab (Ne.symm nab)) (AllG.nil _) (fun hGS => cases4 ⟨?_, ?_, ?_, ?_⟩) ?_
                    · intro L a w' hL hsame hsz hJ hdep hcl
                      have hb := trivial
                      have e0 : a.eval (.tmp 6) = (.pointer (some ⟨gc, 0, none⟩)) := eval_base hsame (by kernel_rfl)
                      have hx := hJ.keptBox (hcb) (by simp; exact ⟨ncA, ncB⟩)
                      have q0 : w'.cell? ⟨gc, 0, none⟩ = some (.int .i32 (PG.rn bl)) := hx.cell 0
                      have q1 : w'.cell? ⟨gc, 1, none⟩ = some (.int .i64 (PG.kd bl)) := hx.cell 1
                      have q2 : w'.cell? ⟨gc, 2, none⟩ = some (.int .i64 (PG.pn bl).1) := hx.cell 2
                      have q3 : w'.cell? ⟨gc, 3, none⟩ = some (.int .i64 (PG.pn bl).2.1) := hx.cell 3
                      have q4 : w'.cell? ⟨gc, 4, none⟩ = some (.int .i64 (PG.pn bl).2.2) := hx.cell 4
                      refine Step.val _ rfl rfl (wanted_none rfl) (.agg #[.int .i32 (PG.rn bl), .int .i64 (PG.kd bl), .int .i64 (PG.pn bl).1, .int .i64 (PG.pn bl).2.1, .int .i64 (PG.pn bl).2.2]) w' (fun ρ hρ => ?_) (hJ.val hGS hcl hL rfl (Below.refl _ _) _ rfl)
                      clear hx
                      rw [hρ] at e0
                      clear hJ hsame hdep hcl hρ hsz hb
                      go_simp
                    · intro L a w' hL hsame hsz hJ hdep hcl
                      have hb := trivial
                      have e0 : a.eval (.tmp 6) = (.pointer (some ⟨gc, 0, none⟩)) := eval_base hsame (by kernel_rfl)
                      have hx := hJ.keptBox (hcb) (by simp; exact ⟨ncA, ncB⟩)
                      have q0 : w'.cell? ⟨gc, 0, none⟩ = some (.int .i32 (PG.rn bl)) := hx.cell 0
                      have q1 : w'.cell? ⟨gc, 1, none⟩ = some (.int .i64 (PG.kd bl)) := hx.cell 1
                      have q2 : w'.cell? ⟨gc, 2, none⟩ = some (.int .i64 (PG.pn bl).1) := hx.cell 2
                      have q3 : w'.cell? ⟨gc, 3, none⟩ = some (.int .i64 (PG.pn bl).2.1) := hx.cell 3
                      have q4 : w'.cell? ⟨gc, 4, none⟩ = some (.int .i64 (PG.pn bl).2.2) := hx.cell 4
                      refine Step.val _ rfl rfl (wanted_none rfl) (.agg #[.int .i32 (PG.rn bl), .int .i64 (PG.kd bl), .int .i64 (PG.pn bl).1, .int .i64 (PG.pn bl).2.1, .int .i64 (PG.pn bl).2.2]) w' (fun ρ hρ => ?_) (hJ.val hGS hcl hL rfl (Below.refl _ _) _ rfl)
                      clear hx
                      rw [hρ] at e0
                      clear hJ hsame hdep hcl hρ hsz hb
                      go_simp
                    · intro L a w' hL hsame hsz hJ hdep hcl
                      have hb := trivial
                      have hsv := hJ.valOf (j := 0) (by decide) (dep_of hdep 0 (by kernel_rfl)) rfl rfl
                      have es : a.eval (.tmp 88) = (.agg #[.int .i32 (PG.rn bl), .int .i64 (PG.kd bl), .int .i64 (PG.pn bl).1, .int .i64 (PG.pn bl).2.1, .int .i64 (PG.pn bl).2.2]) := eval_slot (j := 0) (by kernel_rfl) hsv
                      have hx : Box w' gA 56 #[.int .i32 (PG.rn O), .int .i64 (PG.kd O), .int .i64 (PG.pn O).1, .int .i64 (PG.pn O).2.1, .int .i64 (PG.pn O).2.2] := hJ.old 2 rfl hL
                      have hs : (#[.int .i32 (PG.rn O), .int .i64 (PG.kd O), .int .i64 (PG.pn O).1, .int .i64 (PG.pn O).2.1, .int .i64 (PG.pn O).2.2] : Array Value).size = 5 := rfl
                      have ea : a.eval (.tmp 15) = .pointer (some ⟨gA, 0, none⟩) := eval_base hsame (by kernel_rfl)
                      obtain ⟨m0, hm0⟩ : ∃ m, w'.cell? ⟨gA, 0, none⟩ = some m := ⟨_, (hx.cell 0).trans (Array.getElem?_eq_getElem (by rw [hs]; decide))⟩
                      have hf0 := hx.frozen 0
                      obtain ⟨m1, hm1⟩ : ∃ m, w'.cell? ⟨gA, 1, none⟩ = some m := ⟨_, (hx.cell 1).trans (Array.getElem?_eq_getElem (by rw [hs]; decide))⟩
                      have hf1 := hx.frozen 1
                      obtain ⟨m2, hm2⟩ : ∃ m, w'.cell? ⟨gA, 2, none⟩ = some m := ⟨_, (hx.cell 2).trans (Array.getElem?_eq_getElem (by rw [hs]; decide))⟩
                      have hf2 := hx.frozen 2
                      obtain ⟨m3, hm3⟩ : ∃ m, w'.cell? ⟨gA, 3, none⟩ = some m := ⟨_, (hx.cell 3).trans (Array.getElem?_eq_getElem (by rw [hs]; decide))⟩
                      have hf3 := hx.frozen 3
                      obtain ⟨m4, hm4⟩ : ∃ m, w'.cell? ⟨gA, 4, none⟩ = some m := ⟨_, (hx.cell 4).trans (Array.getElem?_eq_getElem (by rw [hs]; decide))⟩
                      have hf4 := hx.frozen 4
                      refine Step.skip _ rfl (wanted_none rfl) (setL w' gA 0 [.int .i32 (PG.rn bl), .int .i64 (PG.kd bl), .int .i64 (PG.pn bl).1, .int .i64 (PG.pn bl).2.1, .int .i64 (PG.pn bl).2.2]) (fun ρ hρ => ?_) (hJ.set hGS hcl hL rfl (dep_of hdep 0 (by kernel_rfl)) rfl hsv)
                      rw [hρ] at es ea
                      clear hJ hsame hdep hcl hρ hsz hb hsv hx hs
                      simp only [setL]
                      go_simp
                    · intro L a w' hL hsame hsz hJ hdep hcl
                      have hb := trivial
                      have hsv := hJ.valOf (j := 1) (by decide) (dep_of hdep 1 (by kernel_rfl)) rfl rfl
                      have es : a.eval (.tmp 89) = (.agg #[.int .i32 (PG.rn bl), .int .i64 (PG.kd bl), .int .i64 (PG.pn bl).1, .int .i64 (PG.pn bl).2.1, .int .i64 (PG.pn bl).2.2]) := eval_slot (j := 1) (by kernel_rfl) hsv
                      have hx : Box w' gB 56 #[.int .i32 (PG.rn O), .int .i64 (PG.kd O), .int .i64 (PG.pn O).1, .int .i64 (PG.pn O).2.1, .int .i64 (PG.pn O).2.2] := hJ.old 3 rfl hL
                      have hs : (#[.int .i32 (PG.rn O), .int .i64 (PG.kd O), .int .i64 (PG.pn O).1, .int .i64 (PG.pn O).2.1, .int .i64 (PG.pn O).2.2] : Array Value).size = 5 := rfl
                      have ea : a.eval (.tmp 16) = .pointer (some ⟨gB, 0, none⟩) := eval_base hsame (by kernel_rfl)
                      obtain ⟨m0, hm0⟩ : ∃ m, w'.cell? ⟨gB, 0, none⟩ = some m := ⟨_, (hx.cell 0).trans (Array.getElem?_eq_getElem (by rw [hs]; decide))⟩
                      have hf0 := hx.frozen 0
                      obtain ⟨m1, hm1⟩ : ∃ m, w'.cell? ⟨gB, 1, none⟩ = some m := ⟨_, (hx.cell 1).trans (Array.getElem?_eq_getElem (by rw [hs]; decide))⟩
                      have hf1 := hx.frozen 1
                      obtain ⟨m2, hm2⟩ : ∃ m, w'.cell? ⟨gB, 2, none⟩ = some m := ⟨_, (hx.cell 2).trans (Array.getElem?_eq_getElem (by rw [hs]; decide))⟩
                      have hf2 := hx.frozen 2
                      obtain ⟨m3, hm3⟩ : ∃ m, w'.cell? ⟨gB, 3, none⟩ = some m := ⟨_, (hx.cell 3).trans (Array.getElem?_eq_getElem (by rw [hs]; decide))⟩
                      have hf3 := hx.frozen 3
                      obtain ⟨m4, hm4⟩ : ∃ m, w'.cell? ⟨gB, 4, none⟩ = some m := ⟨_, (hx.cell 4).trans (Array.getElem?_eq_getElem (by rw [hs]; decide))⟩
                      have hf4 := hx.frozen 4
                      refine Step.skip _ rfl (wanted_none rfl) (setL w' gB 0 [.int .i32 (PG.rn bl), .int .i64 (PG.kd bl), .int .i64 (PG.pn bl).1, .int .i64 (PG.pn bl).2.1, .int .i64 (PG.pn bl).2.2]) (fun ρ hρ => ?_) (hJ.set hGS hcl hL rfl (dep_of hdep 1 (by kernel_rfl)) rfl hsv)
                      rw [hρ] at es ea
                      clear hJ hsame hdep hcl hρ hsz hb hsv hx hs
                      simp only [setL]
                      go_simp
                    · intro u w' hF
                      change Exit.then _ _ Exit.normal (Act.put (Act.put (Act.put (Act.put (putAll _ u 0 _) (some 88) (u 0)) (some 89) (u 1)) none (u 2)) none (u 3)) _
                      simp only [putAll]
                      have hA3 : Box w' gA 56 #[.int .i32 (PG.rn bl), .int .i64 (PG.kd bl), .int .i64 (PG.pn bl).1, .int .i64 (PG.pn bl).2.1, .int .i64 (PG.pn bl).2.2] := hF.fin4 (j := 2) (v := 0) (by decide) rfl rfl (by decide) rfl (cs := #[.int .i32 (PG.rn bl), .int .i64 (PG.kd bl), .int .i64 (PG.pn bl).1, .int .i64 (PG.pn bl).2.1, .int .i64 (PG.pn bl).2.2]) rfl
                      have hB3 : Box w' gB 56 #[.int .i32 (PG.rn bl), .int .i64 (PG.kd bl), .int .i64 (PG.pn bl).1, .int .i64 (PG.pn bl).2.1, .int .i64 (PG.pn bl).2.2] := hF.fin4 (j := 3) (v := 1) (by decide) rfl rfl (by decide) rfl (cs := #[.int .i32 (PG.rn bl), .int .i64 (PG.kd bl), .int .i64 (PG.pn bl).1, .int .i64 (PG.pn bl).2.1, .int .i64 (PG.pn bl).2.2]) rfl
                      have hk := hF.kept
                      clear hF
                      generalize u 0 = y0
                      generalize u 1 = y1
                      generalize u 2 = y2
                      generalize u 3 = y3
                      go_simp
                      go_step
                      go_meet
                      exact ⟨hA3, hB3, bu3.kept hk (by simp; exact ⟨nA11, nB11⟩), bd3.kept hk (by simp; exact ⟨nA13, nB13⟩), hwe.trans (hk.toBelow hwe.size (fun k hh => by simp at hh; omega))⟩
                  case rest =>
                    obtain ⟨hA2, hB2, bu4, bd4, hw3⟩ := hcut
                    rename World => w3
                    clear c0 c1 c2 c3 c4 a0 a1 a2 a3 a4 b0 b1 b2 b3 b4 za0 za1 za2 za3 za4 zb0 zb1 zb2 zb3 zb4 hcb q6 q7 hA hB bu3 bd3
                    have q7 : w3.cell? ⟨gs, 7, none⟩ = some (.int .i64 (S.bot : Nat)) := (HSs3.out.below hw3 HSs3.out.lt).c7
                    have q6 : w3.cell? ⟨gs, 6, none⟩ = some (.int .i64 (S.top : Nat)) := (HSs3.out.below hw3 HSs3.out.lt).c6
                    have Uu_ := fun w' h => u_atc (w := w') (v := gv S.g.rows S.g.cols (.slice A1 (S.g.rows * S.g.cols) c1)) RS.out.g h (y + 1) x (by omega) hxc HU.out
                    rw [show (((y + 1) : Nat) : Int) = (y : Int) + 1 by omega] at Uu_
                    have k0 : w3.cell? ⟨gs, 0, none⟩ = some (.int .i64 (S.g.rows : Nat)) := (HSs3.out.below hw3 HSs3.out.lt).c0
                    have k1 : w3.cell? ⟨gs, 1, none⟩ = some (.int .i64 (S.g.cols : Nat)) := (HSs3.out.below hw3 HSs3.out.lt).c1
                    have k2 : w3.cell? ⟨gs, 2, none⟩ = some (.slice A1 (S.g.rows * S.g.cols) c1) := (HSs3.out.below hw3 HSs3.out.lt).c2
                    go_upto_region 17 with fail
                    go_cut [] from 90 to 102 (fun wx => Box wx gA 56 #[.int .i32 (PG.rn U1), .int .i64 (PG.kd U1), .int .i64 (PG.pn U1).1, .int .i64 (PG.pn U1).2.1, .int .i64 (PG.pn U1).2.2] ∧ Box wx gB 56 #[.int .i32 (PG.rn bl), .int .i64 (PG.kd bl), .int .i64 (PG.pn bl).1, .int .i64 (PG.pn bl).2.1, .int .i64 (PG.pn bl).2.2] ∧ Box wx g11 56 #[.int .i32 (PG.rn U1), .int .i64 (PG.kd U1), .int .i64 (PG.pn U1).1, .int .i64 (PG.pn U1).2.1, .int .i64 (PG.pn U1).2.2] ∧ Box wx g13 56 #[.int .i32 (PG.rn D1), .int .i64 (PG.kd D1), .int .i64 (PG.pn D1).1, .int .i64 (PG.pn D1).2.1, .int .i64 (PG.pn D1).2.2] ∧ Below w0.heap.size w0 wx)
                    case first =>
                      go_wp2_with fail
                      refine (Uu_ _ (HGs5.out.low hw3)).mono ?_
                      rintro e wf ⟨rfl, bwf⟩
                      clear Uu_
                      have x1u := hA2.below bwf hA2.lt
                      have x2u := hB2.below bwf hB2.lt
                      have x3u := bu4.below bwf bu4.lt
                      have x4u := bd4.below bwf bd4.lt
                      have x5u := hw3.trans (bwf.mono hw3.size)
                      have a0 : wf.cell? ⟨gA, 0, none⟩ = some (.int .i32 (PG.rn bl)) := x1u.cell 0
                      have a1 : wf.cell? ⟨gA, 1, none⟩ = some (.int .i64 (PG.kd bl)) := x1u.cell 1
                      have a2 : wf.cell? ⟨gA, 2, none⟩ = some (.int .i64 (PG.pn bl).1) := x1u.cell 2
                      have a3 : wf.cell? ⟨gA, 3, none⟩ = some (.int .i64 (PG.pn bl).2.1) := x1u.cell 3
                      have a4 : wf.cell? ⟨gA, 4, none⟩ = some (.int .i64 (PG.pn bl).2.2) := x1u.cell 4
                      have za0 := x1u.frozen 0
                      have za1 := x1u.frozen 1
                      have za2 := x1u.frozen 2
                      have za3 := x1u.frozen 3
                      have za4 := x1u.frozen 4
                      clear k0 k1 k2 q6 q7 hA2 hB2 bu4 bd4
                      go_wp2_with fail
                      have y1u : Box (((((wf.setCell ⟨gA, 0, none⟩ (.int .i32 (PG.rn U1))).setCell ⟨gA, 1, none⟩ (.int .i64 (PG.kd U1))).setCell ⟨gA, 2, none⟩ (.int .i64 (PG.pn U1).1)).setCell ⟨gA, 3, none⟩ (.int .i64 (PG.pn U1).2.1)).setCell ⟨gA, 4, none⟩ (.int .i64 (PG.pn U1).2.2)) gA 56 #[.int .i32 (PG.rn U1), .int .i64 (PG.kd U1), .int .i64 (PG.pn U1).1, .int .i64 (PG.pn U1).2.1, .int .i64 (PG.pn U1).2.2] := (((((x1u.set 0 (.int .i32 (PG.rn U1))).set 1 (.int .i64 (PG.kd U1))).set 2 (.int .i64 (PG.pn U1).1)).set 3 (.int .i64 (PG.pn U1).2.1)).set 4 (.int .i64 (PG.pn U1).2.2))
                      have y2u : Box (((((wf.setCell ⟨gA, 0, none⟩ (.int .i32 (PG.rn U1))).setCell ⟨gA, 1, none⟩ (.int .i64 (PG.kd U1))).setCell ⟨gA, 2, none⟩ (.int .i64 (PG.pn U1).1)).setCell ⟨gA, 3, none⟩ (.int .i64 (PG.pn U1).2.1)).setCell ⟨gA, 4, none⟩ (.int .i64 (PG.pn U1).2.2)) gB 56 #[.int .i32 (PG.rn bl), .int .i64 (PG.kd bl), .int .i64 (PG.pn bl).1, .int .i64 (PG.pn bl).2.1, .int .i64 (PG.pn bl).2.2] := (((((x2u.far (p := ⟨gA, 0, none⟩) (Ne.symm nab) (.int .i32 (PG.rn U1))).far (p := ⟨gA, 1, none⟩) (Ne.symm nab) (.int .i64 (PG.kd U1))).far (p := ⟨gA, 2, none⟩) (Ne.symm nab) (.int .i64 (PG.pn U1).1)).far (p := ⟨gA, 3, none⟩) (Ne.symm nab) (.int .i64 (PG.pn U1).2.1)).far (p := ⟨gA, 4, none⟩) (Ne.symm nab) (.int .i64 (PG.pn U1).2.2))
                      have y3u : Box (((((wf.setCell ⟨gA, 0, none⟩ (.int .i32 (PG.rn U1))).setCell ⟨gA, 1, none⟩ (.int .i64 (PG.kd U1))).setCell ⟨gA, 2, none⟩ (.int .i64 (PG.pn U1).1)).setCell ⟨gA, 3, none⟩ (.int .i64 (PG.pn U1).2.1)).setCell ⟨gA, 4, none⟩ (.int .i64 (PG.pn U1).2.2)) g11 56 #[.int .i32 (PG.rn U1), .int .i64 (PG.kd U1), .int .i64 (PG.pn U1).1, .int .i64 (PG.pn U1).2.1, .int .i64 (PG.pn U1).2.2] := (((((x3u.far (p := ⟨gA, 0, none⟩) nA11 (.int .i32 (PG.rn U1))).far (p := ⟨gA, 1, none⟩) nA11 (.int .i64 (PG.kd U1))).far (p := ⟨gA, 2, none⟩) nA11 (.int .i64 (PG.pn U1).1)).far (p := ⟨gA, 3, none⟩) nA11 (.int .i64 (PG.pn U1).2.1)).far (p := ⟨gA, 4, none⟩) nA11 (.int .i64 (PG.pn U1).2.2))
                      have y4u : Box (((((wf.setCell ⟨gA, 0, none⟩ (.int .i32 (PG.rn U1))).setCell ⟨gA, 1, none⟩ (.int .i64 (PG.kd U1))).setCell ⟨gA, 2, none⟩ (.int .i64 (PG.pn U1).1)).setCell ⟨gA, 3, none⟩ (.int .i64 (PG.pn U1).2.1)).setCell ⟨gA, 4, none⟩ (.int .i64 (PG.pn U1).2.2)) g13 56 #[.int .i32 (PG.rn D1), .int .i64 (PG.kd D1), .int .i64 (PG.pn D1).1, .int .i64 (PG.pn D1).2.1, .int .i64 (PG.pn D1).2.2] := (((((x4u.far (p := ⟨gA, 0, none⟩) nA13 (.int .i32 (PG.rn U1))).far (p := ⟨gA, 1, none⟩) nA13 (.int .i64 (PG.kd U1))).far (p := ⟨gA, 2, none⟩) nA13 (.int .i64 (PG.pn U1).1)).far (p := ⟨gA, 3, none⟩) nA13 (.int .i64 (PG.pn U1).2.1)).far (p := ⟨gA, 4, none⟩) nA13 (.int .i64 (PG.pn U1).2.2))
                      have y5u : Below w0.heap.size w0 (((((wf.setCell ⟨gA, 0, none⟩ (.int .i32 (PG.rn U1))).setCell ⟨gA, 1, none⟩ (.int .i64 (PG.kd U1))).setCell ⟨gA, 2, none⟩ (.int .i64 (PG.pn U1).1)).setCell ⟨gA, 3, none⟩ (.int .i64 (PG.pn U1).2.1)).setCell ⟨gA, 4, none⟩ (.int .i64 (PG.pn U1).2.2)) := (((((x5u.setCell (p := ⟨gA, 0, none⟩) lA (.int .i32 (PG.rn U1))).setCell (p := ⟨gA, 1, none⟩) lA (.int .i64 (PG.kd U1))).setCell (p := ⟨gA, 2, none⟩) lA (.int .i64 (PG.pn U1).1)).setCell (p := ⟨gA, 3, none⟩) lA (.int .i64 (PG.pn U1).2.1)).setCell (p := ⟨gA, 4, none⟩) lA (.int .i64 (PG.pn U1).2.2))
                      go_meet
                      exact ⟨y1u, y2u, y3u, y4u, y5u⟩
                    case rest =>
                      clear k0 k1 k2 q6 q7 hA2 hB2 bu4 bd4 hw3 Uu_
                      obtain ⟨y1u, y2u, y3u, y4u, y5u⟩ := hcut
                      rename World => wf2
                      have q6 : wf2.cell? ⟨gs, 6, none⟩ = some (.int .i64 (S.top : Nat)) := (HSs3.out.below y5u HSs3.out.lt).c6
                      have q7 : wf2.cell? ⟨gs, 7, none⟩ = some (.int .i64 (S.bot : Nat)) := (HSs3.out.below y5u HSs3.out.lt).c7
                      have Ud_ := fun w' h => u_atc (w := w') (v := gv S.g.rows S.g.cols (.slice A1 (S.g.rows * S.g.cols) c1)) RS.out.g h (y - 1) x (by omega) hxc HD.out
                      rw [show (((y - 1) : Nat) : Int) = (y : Int) - 1 by omega] at Ud_
                      have k0 : wf2.cell? ⟨gs, 0, none⟩ = some (.int .i64 (S.g.rows : Nat)) := (HSs3.out.below y5u HSs3.out.lt).c0
                      have k1 : wf2.cell? ⟨gs, 1, none⟩ = some (.int .i64 (S.g.cols : Nat)) := (HSs3.out.below y5u HSs3.out.lt).c1
                      have k2 : wf2.cell? ⟨gs, 2, none⟩ = some (.slice A1 (S.g.rows * S.g.cols) c1) := (HSs3.out.below y5u HSs3.out.lt).c2
                      go_upto_region 19 with fail
                      go_cut [] from 103 to 115 (fun wx => Box wx gB 56 #[.int .i32 (PG.rn D1), .int .i64 (PG.kd D1), .int .i64 (PG.pn D1).1, .int .i64 (PG.pn D1).2.1, .int .i64 (PG.pn D1).2.2] ∧ Box wx gA 56 #[.int .i32 (PG.rn U1), .int .i64 (PG.kd U1), .int .i64 (PG.pn U1).1, .int .i64 (PG.pn U1).2.1, .int .i64 (PG.pn U1).2.2] ∧ Box wx g11 56 #[.int .i32 (PG.rn U1), .int .i64 (PG.kd U1), .int .i64 (PG.pn U1).1, .int .i64 (PG.pn U1).2.1, .int .i64 (PG.pn U1).2.2] ∧ Box wx g13 56 #[.int .i32 (PG.rn D1), .int .i64 (PG.kd D1), .int .i64 (PG.pn D1).1, .int .i64 (PG.pn D1).2.1, .int .i64 (PG.pn D1).2.2] ∧ Below w0.heap.size w0 wx)
                      case first =>
                        go_wp2_with fail
                        refine (Ud_ _ (HGs5.out.low y5u)).mono ?_
                        rintro e wg ⟨rfl, bwg⟩
                        clear Ud_
                        have x1d := y2u.below bwg y2u.lt
                        have x2d := y1u.below bwg y1u.lt
                        have x3d := y3u.below bwg y3u.lt
                        have x4d := y4u.below bwg y4u.lt
                        have x5d := y5u.trans (bwg.mono y5u.size)
                        have a0 : wg.cell? ⟨gB, 0, none⟩ = some (.int .i32 (PG.rn bl)) := x1d.cell 0
                        have a1 : wg.cell? ⟨gB, 1, none⟩ = some (.int .i64 (PG.kd bl)) := x1d.cell 1
                        have a2 : wg.cell? ⟨gB, 2, none⟩ = some (.int .i64 (PG.pn bl).1) := x1d.cell 2
                        have a3 : wg.cell? ⟨gB, 3, none⟩ = some (.int .i64 (PG.pn bl).2.1) := x1d.cell 3
                        have a4 : wg.cell? ⟨gB, 4, none⟩ = some (.int .i64 (PG.pn bl).2.2) := x1d.cell 4
                        have za0 := x1d.frozen 0
                        have za1 := x1d.frozen 1
                        have za2 := x1d.frozen 2
                        have za3 := x1d.frozen 3
                        have za4 := x1d.frozen 4
                        clear k0 k1 k2 q6 q7 y2u y1u y3u y4u
                        go_wp2_with fail
                        have y1d : Box (((((wg.setCell ⟨gB, 0, none⟩ (.int .i32 (PG.rn D1))).setCell ⟨gB, 1, none⟩ (.int .i64 (PG.kd D1))).setCell ⟨gB, 2, none⟩ (.int .i64 (PG.pn D1).1)).setCell ⟨gB, 3, none⟩ (.int .i64 (PG.pn D1).2.1)).setCell ⟨gB, 4, none⟩ (.int .i64 (PG.pn D1).2.2)) gB 56 #[.int .i32 (PG.rn D1), .int .i64 (PG.kd D1), .int .i64 (PG.pn D1).1, .int .i64 (PG.pn D1).2.1, .int .i64 (PG.pn D1).2.2] := (((((x1d.set 0 (.int .i32 (PG.rn D1))).set 1 (.int .i64 (PG.kd D1))).set 2 (.int .i64 (PG.pn D1).1)).set 3 (.int .i64 (PG.pn D1).2.1)).set 4 (.int .i64 (PG.pn D1).2.2))
                        have y2d : Box (((((wg.setCell ⟨gB, 0, none⟩ (.int .i32 (PG.rn D1))).setCell ⟨gB, 1, none⟩ (.int .i64 (PG.kd D1))).setCell ⟨gB, 2, none⟩ (.int .i64 (PG.pn D1).1)).setCell ⟨gB, 3, none⟩ (.int .i64 (PG.pn D1).2.1)).setCell ⟨gB, 4, none⟩ (.int .i64 (PG.pn D1).2.2)) gA 56 #[.int .i32 (PG.rn U1), .int .i64 (PG.kd U1), .int .i64 (PG.pn U1).1, .int .i64 (PG.pn U1).2.1, .int .i64 (PG.pn U1).2.2] := (((((x2d.far (p := ⟨gB, 0, none⟩) nab (.int .i32 (PG.rn D1))).far (p := ⟨gB, 1, none⟩) nab (.int .i64 (PG.kd D1))).far (p := ⟨gB, 2, none⟩) nab (.int .i64 (PG.pn D1).1)).far (p := ⟨gB, 3, none⟩) nab (.int .i64 (PG.pn D1).2.1)).far (p := ⟨gB, 4, none⟩) nab (.int .i64 (PG.pn D1).2.2))
                        have y3d : Box (((((wg.setCell ⟨gB, 0, none⟩ (.int .i32 (PG.rn D1))).setCell ⟨gB, 1, none⟩ (.int .i64 (PG.kd D1))).setCell ⟨gB, 2, none⟩ (.int .i64 (PG.pn D1).1)).setCell ⟨gB, 3, none⟩ (.int .i64 (PG.pn D1).2.1)).setCell ⟨gB, 4, none⟩ (.int .i64 (PG.pn D1).2.2)) g11 56 #[.int .i32 (PG.rn U1), .int .i64 (PG.kd U1), .int .i64 (PG.pn U1).1, .int .i64 (PG.pn U1).2.1, .int .i64 (PG.pn U1).2.2] := (((((x3d.far (p := ⟨gB, 0, none⟩) nB11 (.int .i32 (PG.rn D1))).far (p := ⟨gB, 1, none⟩) nB11 (.int .i64 (PG.kd D1))).far (p := ⟨gB, 2, none⟩) nB11 (.int .i64 (PG.pn D1).1)).far (p := ⟨gB, 3, none⟩) nB11 (.int .i64 (PG.pn D1).2.1)).far (p := ⟨gB, 4, none⟩) nB11 (.int .i64 (PG.pn D1).2.2))
                        have y4d : Box (((((wg.setCell ⟨gB, 0, none⟩ (.int .i32 (PG.rn D1))).setCell ⟨gB, 1, none⟩ (.int .i64 (PG.kd D1))).setCell ⟨gB, 2, none⟩ (.int .i64 (PG.pn D1).1)).setCell ⟨gB, 3, none⟩ (.int .i64 (PG.pn D1).2.1)).setCell ⟨gB, 4, none⟩ (.int .i64 (PG.pn D1).2.2)) g13 56 #[.int .i32 (PG.rn D1), .int .i64 (PG.kd D1), .int .i64 (PG.pn D1).1, .int .i64 (PG.pn D1).2.1, .int .i64 (PG.pn D1).2.2] := (((((x4d.far (p := ⟨gB, 0, none⟩) nB13 (.int .i32 (PG.rn D1))).far (p := ⟨gB, 1, none⟩) nB13 (.int .i64 (PG.kd D1))).far (p := ⟨gB, 2, none⟩) nB13 (.int .i64 (PG.pn D1).1)).far (p := ⟨gB, 3, none⟩) nB13 (.int .i64 (PG.pn D1).2.1)).far (p := ⟨gB, 4, none⟩) nB13 (.int .i64 (PG.pn D1).2.2))
                        have y5d : Below w0.heap.size w0 (((((wg.setCell ⟨gB, 0, none⟩ (.int .i32 (PG.rn D1))).setCell ⟨gB, 1, none⟩ (.int .i64 (PG.kd D1))).setCell ⟨gB, 2, none⟩ (.int .i64 (PG.pn D1).1)).setCell ⟨gB, 3, none⟩ (.int .i64 (PG.pn D1).2.1)).setCell ⟨gB, 4, none⟩ (.int .i64 (PG.pn D1).2.2)) := (((((x5d.setCell (p := ⟨gB, 0, none⟩) lB (.int .i32 (PG.rn D1))).setCell (p := ⟨gB, 1, none⟩) lB (.int .i64 (PG.kd D1))).setCell (p := ⟨gB, 2, none⟩) lB (.int .i64 (PG.pn D1).1)).setCell (p := ⟨gB, 3, none⟩) lB (.int .i64 (PG.pn D1).2.1)).setCell (p := ⟨gB, 4, none⟩) lB (.int .i64 (PG.pn D1).2.2))
                        go_meet
                        exact ⟨y1d, y2d, y3d, y4d, y5d⟩
                      case rest =>
                        clear k0 k1 k2 q6 q7 y2u y1u y3u y4u y5u Ud_
                        obtain ⟨y1d, y2d, y3d, y4d, y5d⟩ := hcut
                        rename World => wg2
                        have q6 : wg2.cell? ⟨gs, 6, none⟩ = some (.int .i64 (S.top : Nat)) := (HSs3.out.below y5d HSs3.out.lt).c6
                        have q7 : wg2.cell? ⟨gs, 7, none⟩ = some (.int .i64 (S.bot : Nat)) := (HSs3.out.below y5d HSs3.out.lt).c7
                        have u0 : wg2.cell? ⟨g11, 0, none⟩ = some (.int .i32 (PG.rn U1)) := y3d.cell 0
                        have u1 : wg2.cell? ⟨g11, 1, none⟩ = some (.int .i64 (PG.kd U1)) := y3d.cell 1
                        have u2 : wg2.cell? ⟨g11, 2, none⟩ = some (.int .i64 (PG.pn U1).1) := y3d.cell 2
                        have u3 : wg2.cell? ⟨g11, 3, none⟩ = some (.int .i64 (PG.pn U1).2.1) := y3d.cell 3
                        have u4 : wg2.cell? ⟨g11, 4, none⟩ = some (.int .i64 (PG.pn U1).2.2) := y3d.cell 4
                        have d0 : wg2.cell? ⟨g13, 0, none⟩ = some (.int .i32 (PG.rn D1)) := y4d.cell 0
                        have d1 : wg2.cell? ⟨g13, 1, none⟩ = some (.int .i64 (PG.kd D1)) := y4d.cell 1
                        have d2 : wg2.cell? ⟨g13, 2, none⟩ = some (.int .i64 (PG.pn D1).1) := y4d.cell 2
                        have d3 : wg2.cell? ⟨g13, 3, none⟩ = some (.int .i64 (PG.pn D1).2.1) := y4d.cell 3
                        have d4 : wg2.cell? ⟨g13, 4, none⟩ = some (.int .i64 (PG.pn D1).2.2) := y4d.cell 4
                        have a0 : wg2.cell? ⟨gA, 0, none⟩ = some (.int .i32 (PG.rn U1)) := y2d.cell 0
                        have a1 : wg2.cell? ⟨gA, 1, none⟩ = some (.int .i64 (PG.kd U1)) := y2d.cell 1
                        have a2 : wg2.cell? ⟨gA, 2, none⟩ = some (.int .i64 (PG.pn U1).1) := y2d.cell 2
                        have a3 : wg2.cell? ⟨gA, 3, none⟩ = some (.int .i64 (PG.pn U1).2.1) := y2d.cell 3
                        have a4 : wg2.cell? ⟨gA, 4, none⟩ = some (.int .i64 (PG.pn U1).2.2) := y2d.cell 4
                        have b0 : wg2.cell? ⟨gB, 0, none⟩ = some (.int .i32 (PG.rn D1)) := y1d.cell 0
                        have b1 : wg2.cell? ⟨gB, 1, none⟩ = some (.int .i64 (PG.kd D1)) := y1d.cell 1
                        have b2 : wg2.cell? ⟨gB, 2, none⟩ = some (.int .i64 (PG.pn D1).1) := y1d.cell 2
                        have b3 : wg2.cell? ⟨gB, 3, none⟩ = some (.int .i64 (PG.pn D1).2.1) := y1d.cell 3
                        have b4 : wg2.cell? ⟨gB, 4, none⟩ = some (.int .i64 (PG.pn D1).2.2) := y1d.cell 4
                        have en1 := HEN.out U1
                        have en2 := HEN.out D1
                        go_wp2_with fail
                        go_roundw
                        case rel => exact ⟨x + 1, by omega, by go_num, hide y5d⟩
                        case measure => simp [intOf]; omega
            · as_aux_lemma =>
                obtain ⟨O, hO⟩ : ∃ O, S.g.f y x = O := ⟨_, rfl⟩
                rw [if_pos (by omega), if_pos (by omega), show ((y : Int) + 1).toNat = y + 1 by omega] at c1_
                obtain ⟨U1, hU⟩ : ∃ U, S.g.f (y + 1) x = U := ⟨_, rfl⟩
                rw [hU] at c1_
                have HU := hide hU
                clear hU
                rw [if_pos (by omega), if_neg (by omega), EBL.out] at c2_
                have HE1 := hide c1_
                have HE2 := hide c2_
                have HO := hide hO
                clear c1_ c2_ hO
                go_wp2_with fail
                refine (u_atc RS.out.g (HGs5.out.low hb1) y x hyr hxc HO.out).mono ?_
                rintro e wa ⟨rfl, ba⟩
                go_upto_region 11 with fail
                have hwa2 := (hb1.trans (ba.mono hb1.size)).alloc (hb1.trans (ba.mono hb1.size)).size (.cells #[.int .i32 (PG.rn O), .int .i64 (PG.kd O), .int .i64 (PG.pn O).1, .int .i64 (PG.pn O).2.1, .int .i64 (PG.pn O).2.2] 56)
                have lwa2 : w0.heap.size ≤ wa.heap.size := (hb1.trans (ba.mono hb1.size)).size
                have bg9 := Box.new wa 56 #[.int .i32 (PG.rn O), .int .i64 (PG.kd O), .int .i64 (PG.pn O).1, .int .i64 (PG.pn O).2.1, .int .i64 (PG.pn O).2.2]
                clear ba k0 k1 k2
                generalize wa.alloc (.cells #[.int .i32 (PG.rn O), .int .i64 (PG.kd O), .int .i64 (PG.pn O).1, .int .i64 (PG.pn O).2.1, .int .i64 (PG.pn O).2.2] 56) = wa2 at hwa2 bg9  ⊢
                generalize wa.heap.size = g9 at lwa2 bg9 ⊢
                have k0 : wa2.cell? ⟨gf, 0, none⟩ = some (.int .i64 (F.g.rows : Nat)) := (HSf2.out.below hwa2 HSf2.out.lt).c0
                have k1 : wa2.cell? ⟨gf, 1, none⟩ = some (.int .i64 (F.g.cols : Nat)) := (HSf2.out.below hwa2 HSf2.out.lt).c1
                have k2 : wa2.cell? ⟨gf, 2, none⟩ = some (.slice A3a (F.g.rows * F.g.cols) c3a) := (HSf2.out.below hwa2 HSf2.out.lt).c2
                go_wp2_with fail
                refine (u_atc RF.out.g (HGf2.out.low hwa2) y x hFy hFx HE1.out).mono ?_
                rintro e wb ⟨rfl, bb⟩
                go_upto_region 12 with fail
                have hwb2 := (hwa2.trans (bb.mono hwa2.size)).alloc (hwa2.trans (bb.mono hwa2.size)).size (.cells #[.int .i32 (PG.rn U1), .int .i64 (PG.kd U1), .int .i64 (PG.pn U1).1, .int .i64 (PG.pn U1).2.1, .int .i64 (PG.pn U1).2.2] 56)
                have lwb2 : w0.heap.size ≤ wb.heap.size := (hwa2.trans (bb.mono hwa2.size)).size
                have bg11 := Box.new wb 56 #[.int .i32 (PG.rn U1), .int .i64 (PG.kd U1), .int .i64 (PG.pn U1).1, .int .i64 (PG.pn U1).2.1, .int .i64 (PG.pn U1).2.2]
                have bo2 := (bg9.below bb bg9.lt).alloc (.cells #[.int .i32 (PG.rn U1), .int .i64 (PG.kd U1), .int .i64 (PG.pn U1).1, .int .i64 (PG.pn U1).2.1, .int .i64 (PG.pn U1).2.2] 56)
                clear bg9
                clear bb k0 k1 k2
                generalize wb.alloc (.cells #[.int .i32 (PG.rn U1), .int .i64 (PG.kd U1), .int .i64 (PG.pn U1).1, .int .i64 (PG.pn U1).2.1, .int .i64 (PG.pn U1).2.2] 56) = wb2 at hwb2 bg11 bo2 ⊢
                generalize wb.heap.size = g11 at lwb2 bg11 ⊢
                have k0 : wb2.cell? ⟨gb, 0, none⟩ = some (.int .i64 (B.g.rows : Nat)) := (HSb2.out.below hwb2 HSb2.out.lt).c0
                have k1 : wb2.cell? ⟨gb, 1, none⟩ = some (.int .i64 (B.g.cols : Nat)) := (HSb2.out.below hwb2 HSb2.out.lt).c1
                have k2 : wb2.cell? ⟨gb, 2, none⟩ = some (.slice A3b (B.g.rows * B.g.cols) c3b) := (HSb2.out.below hwb2 HSb2.out.lt).c2
                go_wp2_with fail
                refine (u_atc RB.out.g (HGb2.out.low hwb2) y x hBy hBx HE2.out).mono ?_
                rintro e wd ⟨rfl, bd⟩
                go_upto_region 13 with fail
                have hwd2 := (hwb2.trans (bd.mono hwb2.size)).alloc (hwb2.trans (bd.mono hwb2.size)).size (.cells #[.int .i32 (PG.rn bl), .int .i64 (PG.kd bl), .int .i64 (PG.pn bl).1, .int .i64 (PG.pn bl).2.1, .int .i64 (PG.pn bl).2.2] 56)
                have lwd2 : w0.heap.size ≤ wd.heap.size := (hwb2.trans (bd.mono hwb2.size)).size
                have bg13 := Box.new wd 56 #[.int .i32 (PG.rn bl), .int .i64 (PG.kd bl), .int .i64 (PG.pn bl).1, .int .i64 (PG.pn bl).2.1, .int .i64 (PG.pn bl).2.2]
                have bo3 := (bo2.below bd bo2.lt).alloc (.cells #[.int .i32 (PG.rn bl), .int .i64 (PG.kd bl), .int .i64 (PG.pn bl).1, .int .i64 (PG.pn bl).2.1, .int .i64 (PG.pn bl).2.2] 56)
                clear bo2
                have bu2 := (bg11.below bd bg11.lt).alloc (.cells #[.int .i32 (PG.rn bl), .int .i64 (PG.kd bl), .int .i64 (PG.pn bl).1, .int .i64 (PG.pn bl).2.1, .int .i64 (PG.pn bl).2.2] 56)
                clear bg11
                clear bd k0 k1 k2
                generalize wd.alloc (.cells #[.int .i32 (PG.rn bl), .int .i64 (PG.kd bl), .int .i64 (PG.pn bl).1, .int .i64 (PG.pn bl).2.1, .int .i64 (PG.pn bl).2.2] 56) = wd2 at hwd2 bg13 bo3 bu2 ⊢
                generalize wd.heap.size = g13 at lwd2 bg13 ⊢
                go_cut [15, 16] from 76 to 77 (fun ua ub wx => ∃ gA gB, ua = .pointer (some ⟨gA, 0, none⟩) ∧ ub = .pointer (some ⟨gB, 0, none⟩) ∧ (wd2.heap.size ≤ gA ∧ wd2.heap.size ≤ gB ∧ gA ≠ gB) ∧ Box wx gA 56 #[.int .i32 (PG.rn O), .int .i64 (PG.kd O), .int .i64 (PG.pn O).1, .int .i64 (PG.pn O).2.1, .int .i64 (PG.pn O).2.2] ∧ Box wx gB 56 #[.int .i32 (PG.rn O), .int .i64 (PG.kd O), .int .i64 (PG.pn O).1, .int .i64 (PG.pn O).2.1, .int .i64 (PG.pn O).2.2] ∧ Below wd2.heap.size wd2 wx)
                case first =>
                  refine wp_region_gj (n := 146) [] (fun _ => #[]) [(0, 0, 0, 0, 0), (0, 0, 0, 0, 0), (2, 0, 0, 56, 5), (2, 0, 0, 56, 5), (3, 2, 0, 56, 5), (3, 3, 1, 56, 5)] (fun j => [(.agg #[.int .i32 (PG.rn O), .int .i64 (PG.kd O), .int .i64 (PG.pn O).1, .int .i64 (PG.pn O).2.1, .int .i64 (PG.pn O).2.2]), (.agg #[.int .i32 (PG.rn O), .int .i64 (PG.kd O), .int .i64 (PG.pn O).1, .int .i64 (PG.pn O).2.1, .int .i64 (PG.pn O).2.2]), undef, undef, undef, undef].getD j undef) [] (fun _ => 0) (by kernel_rfl) (by kernel_rfl) (by kernel_rfl) rfl (by kernel_rfl) (gno4 rfl) (fun i j h => by revert h; exact gno4 (p := fun _ => _) rfl i) (AllG.nil _) (fun hGS => cases6 ⟨?_, ?_, ?_, ?_, ?_, ?_⟩) ?_
                  · intro L a w' hL hsame hsz hJ hdep hcl
                    have hb := hJ.kept.toBelow (Nat.le_refl _) (by simp)
                    have e0 : a.eval (.tmp 9) = (.pointer (some ⟨g9, 0, none⟩)) := eval_base hsame (by kernel_rfl)
                    have hx := hJ.keptBox (bo3) (by simp)
                    have q0 : w'.cell? ⟨g9, 0, none⟩ = some (.int .i32 (PG.rn O)) := hx.cell 0
                    have q1 : w'.cell? ⟨g9, 1, none⟩ = some (.int .i64 (PG.kd O)) := hx.cell 1
                    have q2 : w'.cell? ⟨g9, 2, none⟩ = some (.int .i64 (PG.pn O).1) := hx.cell 2
                    have q3 : w'.cell? ⟨g9, 3, none⟩ = some (.int .i64 (PG.pn O).2.1) := hx.cell 3
                    have q4 : w'.cell? ⟨g9, 4, none⟩ = some (.int .i64 (PG.pn O).2.2) := hx.cell 4
                    refine Step.val _ rfl rfl (wanted_none rfl) (.agg #[.int .i32 (PG.rn O), .int .i64 (PG.kd O), .int .i64 (PG.pn O).1, .int .i64 (PG.pn O).2.1, .int .i64 (PG.pn O).2.2]) w' (fun ρ hρ => ?_) (hJ.val hGS hcl hL rfl (Below.refl _ _) _ rfl)
                    clear hx
                    rw [hρ] at e0
                    clear hJ hsame hdep hcl hρ hsz hb
                    go_simp
                  · intro L a w' hL hsame hsz hJ hdep hcl
                    have hb := hJ.kept.toBelow (Nat.le_refl _) (by simp)
                    have e0 : a.eval (.tmp 9) = (.pointer (some ⟨g9, 0, none⟩)) := eval_base hsame (by kernel_rfl)
                    have hx := hJ.keptBox (bo3) (by simp)
                    have q0 : w'.cell? ⟨g9, 0, none⟩ = some (.int .i32 (PG.rn O)) := hx.cell 0
                    have q1 : w'.cell? ⟨g9, 1, none⟩ = some (.int .i64 (PG.kd O)) := hx.cell 1
                    have q2 : w'.cell? ⟨g9, 2, none⟩ = some (.int .i64 (PG.pn O).1) := hx.cell 2
                    have q3 : w'.cell? ⟨g9, 3, none⟩ = some (.int .i64 (PG.pn O).2.1) := hx.cell 3
                    have q4 : w'.cell? ⟨g9, 4, none⟩ = some (.int .i64 (PG.pn O).2.2) := hx.cell 4
                    refine Step.val _ rfl rfl (wanted_none rfl) (.agg #[.int .i32 (PG.rn O), .int .i64 (PG.kd O), .int .i64 (PG.pn O).1, .int .i64 (PG.pn O).2.1, .int .i64 (PG.pn O).2.2]) w' (fun ρ hρ => ?_) (hJ.val hGS hcl hL rfl (Below.refl _ _) _ rfl)
                    clear hx
                    rw [hρ] at e0
                    clear hJ hsame hdep hcl hρ hsz hb
                    go_simp
                  · intro L a w' hL hsame hsz hJ hdep hcl
                    have hb := hJ.kept.toBelow (Nat.le_refl _) (by simp)
                    refine Step.val _ rfl rfl (wanted_none rfl) (.pointer (some ⟨w'.heap.size, 0, none⟩)) (w'.alloc (.cells #[.int .i32 0, .int .i64 0, .int .i64 0, .int .i64 0, .int .i64 0] 56)) (fun ρ hρ => ?_) (hJ.box hGS hcl hL rfl 56 rfl #[.int .i32 0, .int .i64 0, .int .i64 0, .int .i64 0, .int .i64 0] rfl)
                    clear hJ hsame hdep hcl hρ hsz hb
                    go_simp
                  · intro L a w' hL hsame hsz hJ hdep hcl
                    have hb := hJ.kept.toBelow (Nat.le_refl _) (by simp)
                    refine Step.val _ rfl rfl (wanted_none rfl) (.pointer (some ⟨w'.heap.size, 0, none⟩)) (w'.alloc (.cells #[.int .i32 0, .int .i64 0, .int .i64 0, .int .i64 0, .int .i64 0] 56)) (fun ρ hρ => ?_) (hJ.box hGS hcl hL rfl 56 rfl #[.int .i32 0, .int .i64 0, .int .i64 0, .int .i64 0, .int .i64 0] rfl)
                    clear hJ hsame hdep hcl hρ hsz hb
                    go_simp
                  · intro L a w' hL hsame hsz hJ hdep hcl
                    have hb := hJ.kept.toBelow (Nat.le_refl _) (by simp)
                    have hsv := hJ.valOf (j := 0) (by decide) (dep_of hdep 0 (by kernel_rfl)) rfl rfl
                    have es : a.eval (.tmp 76) = (.agg #[.int .i32 (PG.rn O), .int .i64 (PG.kd O), .int .i64 (PG.pn O).1, .int .i64 (PG.pn O).2.1, .int .i64 (PG.pn O).2.2]) := eval_slot (j := 0) (by kernel_rfl) hsv
                    have la := dep_of hdep 2 (by kernel_rfl)
                    obtain ⟨g, cs, hg, hg0, hx, hs⟩ := hJ.boxOf (j := 2) (by decide) la rfl
                    have ea : a.eval (.tmp 15) = .pointer (some ⟨g, 0, none⟩) := eval_slot (j := 2) (by kernel_rfl) hg
                    obtain ⟨m0, hm0⟩ : ∃ m, w'.cell? ⟨g, 0, none⟩ = some m := ⟨_, (hx.cell 0).trans (Array.getElem?_eq_getElem (by rw [hs]; decide))⟩
                    have hf0 := hx.frozen 0
                    obtain ⟨m1, hm1⟩ : ∃ m, w'.cell? ⟨g, 1, none⟩ = some m := ⟨_, (hx.cell 1).trans (Array.getElem?_eq_getElem (by rw [hs]; decide))⟩
                    have hf1 := hx.frozen 1
                    obtain ⟨m2, hm2⟩ : ∃ m, w'.cell? ⟨g, 2, none⟩ = some m := ⟨_, (hx.cell 2).trans (Array.getElem?_eq_getElem (by rw [hs]; decide))⟩
                    have hf2 := hx.frozen 2
                    obtain ⟨m3, hm3⟩ : ∃ m, w'.cell? ⟨g, 3, none⟩ = some m := ⟨_, (hx.cell 3).trans (Array.getElem?_eq_getElem (by rw [hs]; decide))⟩
                    have hf3 := hx.frozen 3
                    obtain ⟨m4, hm4⟩ : ∃ m, w'.cell? ⟨g, 4, none⟩ = some m := ⟨_, (hx.cell 4).trans (Array.getElem?_eq_getElem (by rw [hs]; decide))⟩
                    have hf4 := hx.frozen 4
                    refine Step.skip _ rfl (wanted_none rfl) (setL w' g 0 [.int .i32 (PG.rn O), .int .i64 (PG.kd O), .int .i64 (PG.pn O).1, .int .i64 (PG.pn O).2.1, .int .i64 (PG.pn O).2.2]) (fun ρ hρ => ?_) (hJ.put hGS hcl hL rfl la (dep_of hdep 0 (by kernel_rfl)) hg rfl hsv)
                    rw [hρ] at es ea
                    clear hJ hsame hdep hcl hρ hsz hb hsv hx hs hg
                    simp only [setL]
                    go_simp
                  · intro L a w' hL hsame hsz hJ hdep hcl
                    have hb := hJ.kept.toBelow (Nat.le_refl _) (by simp)
                    have hsv := hJ.valOf (j := 1) (by decide) (dep_of hdep 1 (by kernel_rfl)) rfl rfl
                    have es : a.eval (.tmp 77) = (.agg #[.int .i32 (PG.rn O), .int .i64 (PG.kd O), .int .i64 (PG.pn O).1, .int .i64 (PG.pn O).2.1, .int .i64 (PG.pn O).2.2]) := eval_slot (j := 1) (by kernel_rfl) hsv
                    have la := dep_of hdep 3 (by kernel_rfl)
                    obtain ⟨g, cs, hg, hg0, hx, hs⟩ := hJ.boxOf (j := 3) (by decide) la rfl
                    have ea : a.eval (.tmp 16) = .pointer (some ⟨g, 0, none⟩) := eval_slot (j := 3) (by kernel_rfl) hg
                    obtain ⟨m0, hm0⟩ : ∃ m, w'.cell? ⟨g, 0, none⟩ = some m := ⟨_, (hx.cell 0).trans (Array.getElem?_eq_getElem (by rw [hs]; decide))⟩
                    have hf0 := hx.frozen 0
                    obtain ⟨m1, hm1⟩ : ∃ m, w'.cell? ⟨g, 1, none⟩ = some m := ⟨_, (hx.cell 1).trans (Array.getElem?_eq_getElem (by rw [hs]; decide))⟩
                    have hf1 := hx.frozen 1
                    obtain ⟨m2, hm2⟩ : ∃ m, w'.cell? ⟨g, 2, none⟩ = some m := ⟨_, (hx.cell 2).trans (Array.getElem?_eq_getElem (by rw [hs]; decide))⟩
                    have hf2 := hx.frozen 2
                    obtain ⟨m3, hm3⟩ : ∃ m, w'.cell? ⟨g, 3, none⟩ = some m := ⟨_, (hx.cell 3).trans (Array.getElem?_eq_getElem (by rw [hs]; decide))⟩
                    have hf3 := hx.frozen 3
                    obtain ⟨m4, hm4⟩ : ∃ m, w'.cell? ⟨g, 4, none⟩ = some m := ⟨_, (hx.cell 4).trans (Array.getElem?_eq_getElem (by rw [hs]; decide))⟩
                    have hf4 := hx.frozen 4
                    refine Step.skip _ rfl (wanted_none rfl) (setL w' g 0 [.int .i32 (PG.rn O), .int .i64 (PG.kd O), .int .i64 (PG.pn O).1, .int .i64 (PG.pn O).2.1, .int .i64 (PG.pn O).2.2]) (fun ρ hρ => ?_) (hJ.put hGS hcl hL rfl la (dep_of hdep 1 (by kernel_rfl)) hg rfl hsv)
                    rw [hρ] at es ea
                    clear hJ hsame hdep hcl hρ hsz hb hsv hx hs hg
                    simp only [setL]
                    go_simp
                  · intro u w' hF
                    change Exit.then _ _ Exit.normal (Act.put (Act.put (Act.put (Act.put (Act.put (Act.put (putAll _ u 0 _) (some 76) (u 0)) (some 77) (u 1)) (some 15) (u 2)) (some 16) (u 3)) none (u 4)) none (u 5)) _
                    simp only [putAll]
                    obtain ⟨gA, ha, la, hA⟩ := hF.fin3 (j := 4) (a := 2) (v := 0) (by decide) rfl rfl rfl (by decide) rfl (by decide) rfl (cs := #[.int .i32 (PG.rn O), .int .i64 (PG.kd O), .int .i64 (PG.pn O).1, .int .i64 (PG.pn O).2.1, .int .i64 (PG.pn O).2.2]) rfl
                    obtain ⟨gB, hbb, lb, hB⟩ := hF.fin3 (j := 5) (a := 3) (v := 1) (by decide) rfl rfl rfl (by decide) rfl (by decide) rfl (cs := #[.int .i32 (PG.rn O), .int .i64 (PG.kd O), .int .i64 (PG.pn O).1, .int .i64 (PG.pn O).2.1, .int .i64 (PG.pn O).2.2]) rfl
                    have nab := hF.dist 2 3 rfl rfl rfl rfl (by decide)
                    have hk := hF.kept.toBelow (Nat.le_refl _) (by simp)
                    clear hF
                    generalize u 0 = y0
                    generalize u 1 = y1
                    generalize u 2 = y2 at ha nab ⊢
                    generalize u 3 = y3 at hbb nab ⊢
                    generalize u 4 = y4
                    generalize u 5 = y5
                    subst ha hbb
                    have m1 : gA ≠ gB := fun e => nab (by rw [e])
                    clear nab
                    go_simp
                    go_step
                    go_meet
                    exact ⟨gA, gB, rfl, rfl, ⟨la, lb, m1⟩, hA, hB, hk⟩
                case rest =>
                  obtain ⟨gA, gB, rfl, rfl, ⟨la, lb, nab⟩, hA, hB, hbe⟩ := hcut
                  rename World => we
                  have hwe := hwd2.trans (hbe.mono hwd2.size)
                  have bu3 := bu2.below hbe bu2.lt
                  have bd3 := bg13.below hbe bg13.lt
                  have nA11 : g11 ≠ gA := by have := bu2.lt; omega
                  have nB11 : g11 ≠ gB := by have := bu2.lt; omega
                  have nA13 : g13 ≠ gA := by have := bg13.lt; omega
                  have nB13 : g13 ≠ gB := by have := bg13.lt; omega
                  have l2 := hwd2.size
                  have lA : w0.heap.size ≤ gA := by omega
                  have lB : w0.heap.size ≤ gB := by omega
                  clear bu2 bg13 bo3 hbe la lb hwd2 hwb2 hwa2 lwd2 lwb2 lwa2
                  have q6 : we.cell? ⟨gs, 6, none⟩ = some (.int .i64 (S.top : Nat)) := (HSs3.out.below hwe HSs3.out.lt).c6
                  have q7 : we.cell? ⟨gs, 7, none⟩ = some (.int .i64 (S.bot : Nat)) := (HSs3.out.below hwe HSs3.out.lt).c7
                  go_upto_region 15 with fail
                  have ncA : gc ≠ gA := by have := HC.out.lt; omega
                  have ncB : gc ≠ gB := by have := HC.out.lt; omega
                  have hcb := HC.out.below hwe HC.out.lt
                  have c0 : we.cell? ⟨gc, 0, none⟩ = some (.int .i32 (PG.rn bl)) := hcb.cell 0
                  have c1 : we.cell? ⟨gc, 1, none⟩ = some (.int .i64 (PG.kd bl)) := hcb.cell 1
                  have c2 : we.cell? ⟨gc, 2, none⟩ = some (.int .i64 (PG.pn bl).1) := hcb.cell 2
                  have c3 : we.cell? ⟨gc, 3, none⟩ = some (.int .i64 (PG.pn bl).2.1) := hcb.cell 3
                  have c4 : we.cell? ⟨gc, 4, none⟩ = some (.int .i64 (PG.pn bl).2.2) := hcb.cell 4
                  have a0 : we.cell? ⟨gA, 0, none⟩ = some (.int .i32 (PG.rn O)) := hA.cell 0
                  have a1 : we.cell? ⟨gA, 1, none⟩ = some (.int .i64 (PG.kd O)) := hA.cell 1
                  have a2 : we.cell? ⟨gA, 2, none⟩ = some (.int .i64 (PG.pn O).1) := hA.cell 2
                  have a3 : we.cell? ⟨gA, 3, none⟩ = some (.int .i64 (PG.pn O).2.1) := hA.cell 3
                  have a4 : we.cell? ⟨gA, 4, none⟩ = some (.int .i64 (PG.pn O).2.2) := hA.cell 4
                  have b0 : we.cell? ⟨gB, 0, none⟩ = some (.int .i32 (PG.rn O)) := hB.cell 0
                  have b1 : we.cell? ⟨gB, 1, none⟩ = some (.int .i64 (PG.kd O)) := hB.cell 1
                  have b2 : we.cell? ⟨gB, 2, none⟩ = some (.int .i64 (PG.pn O).1) := hB.cell 2
                  have b3 : we.cell? ⟨gB, 3, none⟩ = some (.int .i64 (PG.pn O).2.1) := hB.cell 3
                  have b4 : we.cell? ⟨gB, 4, none⟩ = some (.int .i64 (PG.pn O).2.2) := hB.cell 4
                  have za0 := hA.frozen 0
                  have za1 := hA.frozen 1
                  have za2 := hA.frozen 2
                  have za3 := hA.frozen 3
                  have za4 := hA.frozen 4
                  have zb0 := hB.frozen 0
                  have zb1 := hB.frozen 1
                  have zb2 := hB.frozen 2
                  have zb3 := hB.frozen 3
                  have zb4 := hB.frozen 4
                  go_cut [] from 78 to 90 (fun wx => Box wx gA 56 #[.int .i32 (PG.rn bl), .int .i64 (PG.kd bl), .int .i64 (PG.pn bl).1, .int .i64 (PG.pn bl).2.1, .int .i64 (PG.pn bl).2.2] ∧ Box wx gB 56 #[.int .i32 (PG.rn bl), .int .i64 (PG.kd bl), .int .i64 (PG.pn bl).1, .int .i64 (PG.pn bl).2.1, .int .i64 (PG.pn bl).2.2] ∧ Box wx g11 56 #[.int .i32 (PG.rn U1), .int .i64 (PG.kd U1), .int .i64 (PG.pn U1).1, .int .i64 (PG.pn U1).2.1, .int .i64 (PG.pn U1).2.2] ∧ Box wx g13 56 #[.int .i32 (PG.rn bl), .int .i64 (PG.kd bl), .int .i64 (PG.pn bl).1, .int .i64 (PG.pn bl).2.1, .int .i64 (PG.pn bl).2.2] ∧ Below w0.heap.size w0 wx)
                  case first =>
                    refine wp_region_gj (n := 146) [some gA, some gB] (fun j => cond (Nat.beq j 2) #[.int .i32 (PG.rn O), .int .i64 (PG.kd O), .int .i64 (PG.pn O).1, .int .i64 (PG.pn O).2.1, .int .i64 (PG.pn O).2.2] #[.int .i32 (PG.rn O), .int .i64 (PG.kd O), .int .i64 (PG.pn O).1, .int .i64 (PG.pn O).2.1, .int .i64 (PG.pn O).2.2]) [(0, 0, 0, 0, 0), (0, 0, 0, 0, 0), (4, 0, 0, 56, 5), (4, 0, 1, 56, 5)] (fun j => [(.agg #[.int .i32 (PG.rn bl), .int .i64 (PG.kd bl), .int .i64 (PG.pn bl).1, .int .i64 (PG.pn bl).2.1, .int .i64 (PG.pn bl).2.2]), (.agg #[.int .i32 (PG.rn bl), .int .i64 (PG.kd bl), .int .i64 (PG.pn bl).1, .int .i64 (PG.pn bl).2.1, .int .i64 (PG.pn bl).2.2]), undef, undef].getD j undef) [] (fun j => cond (Nat.beq j 2) gA gB) (by kernel_rfl) (by kernel_rfl) (by kernel_rfl) rfl (by kernel_rfl) (gonly4b (k := 2) (l := 3) rfl ⟨List.Mem.head _, rfl, hA⟩ ⟨List.Mem.tail _ (List.Mem.head _), rfl, hB⟩) (gonly44b (k := 2) (l := 3) rfl nab (Ne.symm nab)) (AllG.nil _) (fun hGS => cases4 ⟨?_, ?_, ?_, ?_⟩) ?_
                    · intro L a w' hL hsame hsz hJ hdep hcl
                      have hb := trivial
                      have e0 : a.eval (.tmp 6) = (.pointer (some ⟨gc, 0, none⟩)) := eval_base hsame (by kernel_rfl)
                      have hx := hJ.keptBox (hcb) (by simp; exact ⟨ncA, ncB⟩)
                      have q0 : w'.cell? ⟨gc, 0, none⟩ = some (.int .i32 (PG.rn bl)) := hx.cell 0
                      have q1 : w'.cell? ⟨gc, 1, none⟩ = some (.int .i64 (PG.kd bl)) := hx.cell 1
                      have q2 : w'.cell? ⟨gc, 2, none⟩ = some (.int .i64 (PG.pn bl).1) := hx.cell 2
                      have q3 : w'.cell? ⟨gc, 3, none⟩ = some (.int .i64 (PG.pn bl).2.1) := hx.cell 3
                      have q4 : w'.cell? ⟨gc, 4, none⟩ = some (.int .i64 (PG.pn bl).2.2) := hx.cell 4
                      refine Step.val _ rfl rfl (wanted_none rfl) (.agg #[.int .i32 (PG.rn bl), .int .i64 (PG.kd bl), .int .i64 (PG.pn bl).1, .int .i64 (PG.pn bl).2.1, .int .i64 (PG.pn bl).2.2]) w' (fun ρ hρ => ?_) (hJ.val hGS hcl hL rfl (Below.refl _ _) _ rfl)
                      clear hx
                      rw [hρ] at e0
                      clear hJ hsame hdep hcl hρ hsz hb
                      go_simp
                    · intro L a w' hL hsame hsz hJ hdep hcl
                      have hb := trivial
                      have e0 : a.eval (.tmp 6) = (.pointer (some ⟨gc, 0, none⟩)) := eval_base hsame (by kernel_rfl)
                      have hx := hJ.keptBox (hcb) (by simp; exact ⟨ncA, ncB⟩)
                      have q0 : w'.cell? ⟨gc, 0, none⟩ = some (.int .i32 (PG.rn bl)) := hx.cell 0
                      have q1 : w'.cell? ⟨gc, 1, none⟩ = some (.int .i64 (PG.kd bl)) := hx.cell 1
                      have q2 : w'.cell? ⟨gc, 2, none⟩ = some (.int .i64 (PG.pn bl).1) := hx.cell 2
                      have q3 : w'.cell? ⟨gc, 3, none⟩ = some (.int .i64 (PG.pn bl).2.1) := hx.cell 3
                      have q4 : w'.cell? ⟨gc, 4, none⟩ = some (.int .i64 (PG.pn bl).2.2) := hx.cell 4
                      refine Step.val _ rfl rfl (wanted_none rfl) (.agg #[.int .i32 (PG.rn bl), .int .i64 (PG.kd bl), .int .i64 (PG.pn bl).1, .int .i64 (PG.pn bl).2.1, .int .i64 (PG.pn bl).2.2]) w' (fun ρ hρ => ?_) (hJ.val hGS hcl hL rfl (Below.refl _ _) _ rfl)
                      clear hx
                      rw [hρ] at e0
                      clear hJ hsame hdep hcl hρ hsz hb
                      go_simp
                    · intro L a w' hL hsame hsz hJ hdep hcl
                      have hb := trivial
                      have hsv := hJ.valOf (j := 0) (by decide) (dep_of hdep 0 (by kernel_rfl)) rfl rfl
                      have es : a.eval (.tmp 88) = (.agg #[.int .i32 (PG.rn bl), .int .i64 (PG.kd bl), .int .i64 (PG.pn bl).1, .int .i64 (PG.pn bl).2.1, .int .i64 (PG.pn bl).2.2]) := eval_slot (j := 0) (by kernel_rfl) hsv
                      have hx : Box w' gA 56 #[.int .i32 (PG.rn O), .int .i64 (PG.kd O), .int .i64 (PG.pn O).1, .int .i64 (PG.pn O).2.1, .int .i64 (PG.pn O).2.2] := hJ.old 2 rfl hL
                      have hs : (#[.int .i32 (PG.rn O), .int .i64 (PG.kd O), .int .i64 (PG.pn O).1, .int .i64 (PG.pn O).2.1, .int .i64 (PG.pn O).2.2] : Array Value).size = 5 := rfl
                      have ea : a.eval (.tmp 15) = .pointer (some ⟨gA, 0, none⟩) := eval_base hsame (by kernel_rfl)
                      obtain ⟨m0, hm0⟩ : ∃ m, w'.cell? ⟨gA, 0, none⟩ = some m := ⟨_, (hx.cell 0).trans (Array.getElem?_eq_getElem (by rw [hs]; decide))⟩
                      have hf0 := hx.frozen 0
                      obtain ⟨m1, hm1⟩ : ∃ m, w'.cell? ⟨gA, 1, none⟩ = some m := ⟨_, (hx.cell 1).trans (Array.getElem?_eq_getElem (by rw [hs]; decide))⟩
                      have hf1 := hx.frozen 1
                      obtain ⟨m2, hm2⟩ : ∃ m, w'.cell? ⟨gA, 2, none⟩ = some m := ⟨_, (hx.cell 2).trans (Array.getElem?_eq_getElem (by rw [hs]; decide))⟩
                      have hf2 := hx.frozen 2
                      obtain ⟨m3, hm3⟩ : ∃ m, w'.cell? ⟨gA, 3, none⟩ = some m := ⟨_, (hx.cell 3).trans (Array.getElem?_eq_getElem (by rw [hs]; decide))⟩
                      have hf3 := hx.frozen 3
                      obtain ⟨m4, hm4⟩ : ∃ m, w'.cell? ⟨gA, 4, none⟩ = some m := ⟨_, (hx.cell 4).trans (Array.getElem?_eq_getElem (by rw [hs]; decide))⟩
                      have hf4 := hx.frozen 4
                      refine Step.skip _ rfl (wanted_none rfl) (setL w' gA 0 [.int .i32 (PG.rn bl), .int .i64 (PG.kd bl), .int .i64 (PG.pn bl).1, .int .i64 (PG.pn bl).2.1, .int .i64 (PG.pn bl).2.2]) (fun ρ hρ => ?_) (hJ.set hGS hcl hL rfl (dep_of hdep 0 (by kernel_rfl)) rfl hsv)
                      rw [hρ] at es ea
                      clear hJ hsame hdep hcl hρ hsz hb hsv hx hs
                      simp only [setL]
                      go_simp
                    · intro L a w' hL hsame hsz hJ hdep hcl
                      have hb := trivial
                      have hsv := hJ.valOf (j := 1) (by decide) (dep_of hdep 1 (by kernel_rfl)) rfl rfl
                      have es : a.eval (.tmp 89) = (.agg #[.int .i32 (PG.rn bl), .int .i64 (PG.kd bl), .int .i64 (PG.pn bl).1, .int .i64 (PG.pn bl).2.1, .int .i64 (PG.pn bl).2.2]) := eval_slot (j := 1) (by kernel_rfl) hsv
                      have hx : Box w' gB 56 #[.int .i32 (PG.rn O), .int .i64 (PG.kd O), .int .i64 (PG.pn O).1, .int .i64 (PG.pn O).2.1, .int .i64 (PG.pn O).2.2] := hJ.old 3 rfl hL
                      have hs : (#[.int .i32 (PG.rn O), .int .i64 (PG.kd O), .int .i64 (PG.pn O).1, .int .i64 (PG.pn O).2.1, .int .i64 (PG.pn O).2.2] : Array Value).size = 5 := rfl
                      have ea : a.eval (.tmp 16) = .pointer (some ⟨gB, 0, none⟩) := eval_base hsame (by kernel_rfl)
                      obtain ⟨m0, hm0⟩ : ∃ m, w'.cell? ⟨gB, 0, none⟩ = some m := ⟨_, (hx.cell 0).trans (Array.getElem?_eq_getElem (by rw [hs]; decide))⟩
                      have hf0 := hx.frozen 0
                      obtain ⟨m1, hm1⟩ : ∃ m, w'.cell? ⟨gB, 1, none⟩ = some m := ⟨_, (hx.cell 1).trans (Array.getElem?_eq_getElem (by rw [hs]; decide))⟩
                      have hf1 := hx.frozen 1
                      obtain ⟨m2, hm2⟩ : ∃ m, w'.cell? ⟨gB, 2, none⟩ = some m := ⟨_, (hx.cell 2).trans (Array.getElem?_eq_getElem (by rw [hs]; decide))⟩
                      have hf2 := hx.frozen 2
                      obtain ⟨m3, hm3⟩ : ∃ m, w'.cell? ⟨gB, 3, none⟩ = some m := ⟨_, (hx.cell 3).trans (Array.getElem?_eq_getElem (by rw [hs]; decide))⟩
                      have hf3 := hx.frozen 3
                      obtain ⟨m4, hm4⟩ : ∃ m, w'.cell? ⟨gB, 4, none⟩ = some m := ⟨_, (hx.cell 4).trans (Array.getElem?_eq_getElem (by rw [hs]; decide))⟩
                      have hf4 := hx.frozen 4
                      refine Step.skip _ rfl (wanted_none rfl) (setL w' gB 0 [.int .i32 (PG.rn bl), .int .i64 (PG.kd bl), .int .i64 (PG.pn bl).1, .int .i64 (PG.pn bl).2.1, .int .i64 (PG.pn bl).2.2]) (fun ρ hρ => ?_) (hJ.set hGS hcl hL rfl (dep_of hdep 1 (by kernel_rfl)) rfl hsv)
                      rw [hρ] at es ea
                      clear hJ hsame hdep hcl hρ hsz hb hsv hx hs
                      simp only [setL]
                      go_simp
                    · intro u w' hF
                      change Exit.then _ _ Exit.normal (Act.put (Act.put (Act.put (Act.put (putAll _ u 0 _) (some 88) (u 0)) (some 89) (u 1)) none (u 2)) none (u 3)) _
                      simp only [putAll]
                      have hA3 : Box w' gA 56 #[.int .i32 (PG.rn bl), .int .i64 (PG.kd bl), .int .i64 (PG.pn bl).1, .int .i64 (PG.pn bl).2.1, .int .i64 (PG.pn bl).2.2] := hF.fin4 (j := 2) (v := 0) (by decide) rfl rfl (by decide) rfl (cs := #[.int .i32 (PG.rn bl), .int .i64 (PG.kd bl), .int .i64 (PG.pn bl).1, .int .i64 (PG.pn bl).2.1, .int .i64 (PG.pn bl).2.2]) rfl
                      have hB3 : Box w' gB 56 #[.int .i32 (PG.rn bl), .int .i64 (PG.kd bl), .int .i64 (PG.pn bl).1, .int .i64 (PG.pn bl).2.1, .int .i64 (PG.pn bl).2.2] := hF.fin4 (j := 3) (v := 1) (by decide) rfl rfl (by decide) rfl (cs := #[.int .i32 (PG.rn bl), .int .i64 (PG.kd bl), .int .i64 (PG.pn bl).1, .int .i64 (PG.pn bl).2.1, .int .i64 (PG.pn bl).2.2]) rfl
                      have hk := hF.kept
                      clear hF
                      generalize u 0 = y0
                      generalize u 1 = y1
                      generalize u 2 = y2
                      generalize u 3 = y3
                      go_simp
                      go_step
                      go_meet
                      exact ⟨hA3, hB3, bu3.kept hk (by simp; exact ⟨nA11, nB11⟩), bd3.kept hk (by simp; exact ⟨nA13, nB13⟩), hwe.trans (hk.toBelow hwe.size (fun k hh => by simp at hh; omega))⟩
                  case rest =>
                    obtain ⟨hA2, hB2, bu4, bd4, hw3⟩ := hcut
                    rename World => w3
                    clear c0 c1 c2 c3 c4 a0 a1 a2 a3 a4 b0 b1 b2 b3 b4 za0 za1 za2 za3 za4 zb0 zb1 zb2 zb3 zb4 hcb q6 q7 hA hB bu3 bd3
                    have q7 : w3.cell? ⟨gs, 7, none⟩ = some (.int .i64 (S.bot : Nat)) := (HSs3.out.below hw3 HSs3.out.lt).c7
                    have q6 : w3.cell? ⟨gs, 6, none⟩ = some (.int .i64 (S.top : Nat)) := (HSs3.out.below hw3 HSs3.out.lt).c6
                    have Uu_ := fun w' h => u_atc (w := w') (v := gv S.g.rows S.g.cols (.slice A1 (S.g.rows * S.g.cols) c1)) RS.out.g h (y + 1) x (by omega) hxc HU.out
                    rw [show (((y + 1) : Nat) : Int) = (y : Int) + 1 by omega] at Uu_
                    have k0 : w3.cell? ⟨gs, 0, none⟩ = some (.int .i64 (S.g.rows : Nat)) := (HSs3.out.below hw3 HSs3.out.lt).c0
                    have k1 : w3.cell? ⟨gs, 1, none⟩ = some (.int .i64 (S.g.cols : Nat)) := (HSs3.out.below hw3 HSs3.out.lt).c1
                    have k2 : w3.cell? ⟨gs, 2, none⟩ = some (.slice A1 (S.g.rows * S.g.cols) c1) := (HSs3.out.below hw3 HSs3.out.lt).c2
                    go_upto_region 17 with fail
                    go_cut [] from 90 to 102 (fun wx => Box wx gA 56 #[.int .i32 (PG.rn U1), .int .i64 (PG.kd U1), .int .i64 (PG.pn U1).1, .int .i64 (PG.pn U1).2.1, .int .i64 (PG.pn U1).2.2] ∧ Box wx gB 56 #[.int .i32 (PG.rn bl), .int .i64 (PG.kd bl), .int .i64 (PG.pn bl).1, .int .i64 (PG.pn bl).2.1, .int .i64 (PG.pn bl).2.2] ∧ Box wx g11 56 #[.int .i32 (PG.rn U1), .int .i64 (PG.kd U1), .int .i64 (PG.pn U1).1, .int .i64 (PG.pn U1).2.1, .int .i64 (PG.pn U1).2.2] ∧ Box wx g13 56 #[.int .i32 (PG.rn bl), .int .i64 (PG.kd bl), .int .i64 (PG.pn bl).1, .int .i64 (PG.pn bl).2.1, .int .i64 (PG.pn bl).2.2] ∧ Below w0.heap.size w0 wx)
                    case first =>
                      go_wp2_with fail
                      refine (Uu_ _ (HGs5.out.low hw3)).mono ?_
                      rintro e wf ⟨rfl, bwf⟩
                      clear Uu_
                      have x1u := hA2.below bwf hA2.lt
                      have x2u := hB2.below bwf hB2.lt
                      have x3u := bu4.below bwf bu4.lt
                      have x4u := bd4.below bwf bd4.lt
                      have x5u := hw3.trans (bwf.mono hw3.size)
                      have a0 : wf.cell? ⟨gA, 0, none⟩ = some (.int .i32 (PG.rn bl)) := x1u.cell 0
                      have a1 : wf.cell? ⟨gA, 1, none⟩ = some (.int .i64 (PG.kd bl)) := x1u.cell 1
                      have a2 : wf.cell? ⟨gA, 2, none⟩ = some (.int .i64 (PG.pn bl).1) := x1u.cell 2
                      have a3 : wf.cell? ⟨gA, 3, none⟩ = some (.int .i64 (PG.pn bl).2.1) := x1u.cell 3
                      have a4 : wf.cell? ⟨gA, 4, none⟩ = some (.int .i64 (PG.pn bl).2.2) := x1u.cell 4
                      have za0 := x1u.frozen 0
                      have za1 := x1u.frozen 1
                      have za2 := x1u.frozen 2
                      have za3 := x1u.frozen 3
                      have za4 := x1u.frozen 4
                      clear k0 k1 k2 q6 q7 hA2 hB2 bu4 bd4
                      go_wp2_with fail
                      have y1u : Box (((((wf.setCell ⟨gA, 0, none⟩ (.int .i32 (PG.rn U1))).setCell ⟨gA, 1, none⟩ (.int .i64 (PG.kd U1))).setCell ⟨gA, 2, none⟩ (.int .i64 (PG.pn U1).1)).setCell ⟨gA, 3, none⟩ (.int .i64 (PG.pn U1).2.1)).setCell ⟨gA, 4, none⟩ (.int .i64 (PG.pn U1).2.2)) gA 56 #[.int .i32 (PG.rn U1), .int .i64 (PG.kd U1), .int .i64 (PG.pn U1).1, .int .i64 (PG.pn U1).2.1, .int .i64 (PG.pn U1).2.2] := (((((x1u.set 0 (.int .i32 (PG.rn U1))).set 1 (.int .i64 (PG.kd U1))).set 2 (.int .i64 (PG.pn U1).1)).set 3 (.int .i64 (PG.pn U1).2.1)).set 4 (.int .i64 (PG.pn U1).2.2))
                      have y2u : Box (((((wf.setCell ⟨gA, 0, none⟩ (.int .i32 (PG.rn U1))).setCell ⟨gA, 1, none⟩ (.int .i64 (PG.kd U1))).setCell ⟨gA, 2, none⟩ (.int .i64 (PG.pn U1).1)).setCell ⟨gA, 3, none⟩ (.int .i64 (PG.pn U1).2.1)).setCell ⟨gA, 4, none⟩ (.int .i64 (PG.pn U1).2.2)) gB 56 #[.int .i32 (PG.rn bl), .int .i64 (PG.kd bl), .int .i64 (PG.pn bl).1, .int .i64 (PG.pn bl).2.1, .int .i64 (PG.pn bl).2.2] := (((((x2u.far (p := ⟨gA, 0, none⟩) (Ne.symm nab) (.int .i32 (PG.rn U1))).far (p := ⟨gA, 1, none⟩) (Ne.symm nab) (.int .i64 (PG.kd U1))).far (p := ⟨gA, 2, none⟩) (Ne.symm nab) (.int .i64 (PG.pn U1).1)).far (p := ⟨gA, 3, none⟩) (Ne.symm nab) (.int .i64 (PG.pn U1).2.1)).far (p := ⟨gA, 4, none⟩) (Ne.symm nab) (.int .i64 (PG.pn U1).2.2))
                      have y3u : Box (((((wf.setCell ⟨gA, 0, none⟩ (.int .i32 (PG.rn U1))).setCell ⟨gA, 1, none⟩ (.int .i64 (PG.kd U1))).setCell ⟨gA, 2, none⟩ (.int .i64 (PG.pn U1).1)).setCell ⟨gA, 3, none⟩ (.int .i64 (PG.pn U1).2.1)).setCell ⟨gA, 4, none⟩ (.int .i64 (PG.pn U1).2.2)) g11 56 #[.int .i32 (PG.rn U1), .int .i64 (PG.kd U1), .int .i64 (PG.pn U1).1, .int .i64 (PG.pn U1).2.1, .int .i64 (PG.pn U1).2.2] := (((((x3u.far (p := ⟨gA, 0, none⟩) nA11 (.int .i32 (PG.rn U1))).far (p := ⟨gA, 1, none⟩) nA11 (.int .i64 (PG.kd U1))).far (p := ⟨gA, 2, none⟩) nA11 (.int .i64 (PG.pn U1).1)).far (p := ⟨gA, 3, none⟩) nA11 (.int .i64 (PG.pn U1).2.1)).far (p := ⟨gA, 4, none⟩) nA11 (.int .i64 (PG.pn U1).2.2))
                      have y4u : Box (((((wf.setCell ⟨gA, 0, none⟩ (.int .i32 (PG.rn U1))).setCell ⟨gA, 1, none⟩ (.int .i64 (PG.kd U1))).setCell ⟨gA, 2, none⟩ (.int .i64 (PG.pn U1).1)).setCell ⟨gA, 3, none⟩ (.int .i64 (PG.pn U1).2.1)).setCell ⟨gA, 4, none⟩ (.int .i64 (PG.pn U1).2.2)) g13 56 #[.int .i32 (PG.rn bl), .int .i64 (PG.kd bl), .int .i64 (PG.pn bl).1, .int .i64 (PG.pn bl).2.1, .int .i64 (PG.pn bl).2.2] := (((((x4u.far (p := ⟨gA, 0, none⟩) nA13 (.int .i32 (PG.rn U1))).far (p := ⟨gA, 1, none⟩) nA13 (.int .i64 (PG.kd U1))).far (p := ⟨gA, 2, none⟩) nA13 (.int .i64 (PG.pn U1).1)).far (p := ⟨gA, 3, none⟩) nA13 (.int .i64 (PG.pn U1).2.1)).far (p := ⟨gA, 4, none⟩) nA13 (.int .i64 (PG.pn U1).2.2))
                      have y5u : Below w0.heap.size w0 (((((wf.setCell ⟨gA, 0, none⟩ (.int .i32 (PG.rn U1))).setCell ⟨gA, 1, none⟩ (.int .i64 (PG.kd U1))).setCell ⟨gA, 2, none⟩ (.int .i64 (PG.pn U1).1)).setCell ⟨gA, 3, none⟩ (.int .i64 (PG.pn U1).2.1)).setCell ⟨gA, 4, none⟩ (.int .i64 (PG.pn U1).2.2)) := (((((x5u.setCell (p := ⟨gA, 0, none⟩) lA (.int .i32 (PG.rn U1))).setCell (p := ⟨gA, 1, none⟩) lA (.int .i64 (PG.kd U1))).setCell (p := ⟨gA, 2, none⟩) lA (.int .i64 (PG.pn U1).1)).setCell (p := ⟨gA, 3, none⟩) lA (.int .i64 (PG.pn U1).2.1)).setCell (p := ⟨gA, 4, none⟩) lA (.int .i64 (PG.pn U1).2.2))
                      go_meet
                      exact ⟨y1u, y2u, y3u, y4u, y5u⟩
                    case rest =>
                      clear k0 k1 k2 q6 q7 hA2 hB2 bu4 bd4 hw3 Uu_
                      obtain ⟨y1u, y2u, y3u, y4u, y5u⟩ := hcut
                      rename World => wf2
                      have q6 : wf2.cell? ⟨gs, 6, none⟩ = some (.int .i64 (S.top : Nat)) := (HSs3.out.below y5u HSs3.out.lt).c6
                      have q7 : wf2.cell? ⟨gs, 7, none⟩ = some (.int .i64 (S.bot : Nat)) := (HSs3.out.below y5u HSs3.out.lt).c7
                      have u0 : wf2.cell? ⟨g11, 0, none⟩ = some (.int .i32 (PG.rn U1)) := y3u.cell 0
                      have u1 : wf2.cell? ⟨g11, 1, none⟩ = some (.int .i64 (PG.kd U1)) := y3u.cell 1
                      have u2 : wf2.cell? ⟨g11, 2, none⟩ = some (.int .i64 (PG.pn U1).1) := y3u.cell 2
                      have u3 : wf2.cell? ⟨g11, 3, none⟩ = some (.int .i64 (PG.pn U1).2.1) := y3u.cell 3
                      have u4 : wf2.cell? ⟨g11, 4, none⟩ = some (.int .i64 (PG.pn U1).2.2) := y3u.cell 4
                      have d0 : wf2.cell? ⟨g13, 0, none⟩ = some (.int .i32 (PG.rn bl)) := y4u.cell 0
                      have d1 : wf2.cell? ⟨g13, 1, none⟩ = some (.int .i64 (PG.kd bl)) := y4u.cell 1
                      have d2 : wf2.cell? ⟨g13, 2, none⟩ = some (.int .i64 (PG.pn bl).1) := y4u.cell 2
                      have d3 : wf2.cell? ⟨g13, 3, none⟩ = some (.int .i64 (PG.pn bl).2.1) := y4u.cell 3
                      have d4 : wf2.cell? ⟨g13, 4, none⟩ = some (.int .i64 (PG.pn bl).2.2) := y4u.cell 4
                      have a0 : wf2.cell? ⟨gA, 0, none⟩ = some (.int .i32 (PG.rn U1)) := y1u.cell 0
                      have a1 : wf2.cell? ⟨gA, 1, none⟩ = some (.int .i64 (PG.kd U1)) := y1u.cell 1
                      have a2 : wf2.cell? ⟨gA, 2, none⟩ = some (.int .i64 (PG.pn U1).1) := y1u.cell 2
                      have a3 : wf2.cell? ⟨gA, 3, none⟩ = some (.int .i64 (PG.pn U1).2.1) := y1u.cell 3
                      have a4 : wf2.cell? ⟨gA, 4, none⟩ = some (.int .i64 (PG.pn U1).2.2) := y1u.cell 4
                      have b0 : wf2.cell? ⟨gB, 0, none⟩ = some (.int .i32 (PG.rn bl)) := y2u.cell 0
                      have b1 : wf2.cell? ⟨gB, 1, none⟩ = some (.int .i64 (PG.kd bl)) := y2u.cell 1
                      have b2 : wf2.cell? ⟨gB, 2, none⟩ = some (.int .i64 (PG.pn bl).1) := y2u.cell 2
                      have b3 : wf2.cell? ⟨gB, 3, none⟩ = some (.int .i64 (PG.pn bl).2.1) := y2u.cell 3
                      have b4 : wf2.cell? ⟨gB, 4, none⟩ = some (.int .i64 (PG.pn bl).2.2) := y2u.cell 4
                      have en1 := HEN.out U1
                      have en2 := HEN.out bl
                      go_wp2_with fail
                      go_roundw
                      case rel => exact ⟨x + 1, by omega, by go_num, hide y5u⟩
                      case measure => simp [intOf]; omega
            · as_aux_lemma =>
                obtain ⟨O, hO⟩ : ∃ O, S.g.f y x = O := ⟨_, rfl⟩
                rw [if_pos (by omega), if_neg (by omega), EBL.out] at c1_
                rw [if_pos (by omega), if_pos (by omega), show ((y : Int) + -1).toNat = y - 1 by omega] at c2_
                obtain ⟨D1, hD⟩ : ∃ D, S.g.f (y - 1) x = D := ⟨_, rfl⟩
                rw [hD] at c2_
                have HD := hide hD
                clear hD
                have HE1 := hide c1_
                have HE2 := hide c2_
                have HO := hide hO
                clear c1_ c2_ hO
                go_wp2_with fail
                refine (u_atc RS.out.g (HGs5.out.low hb1) y x hyr hxc HO.out).mono ?_
                rintro e wa ⟨rfl, ba⟩
                go_upto_region 11 with fail
                have hwa2 := (hb1.trans (ba.mono hb1.size)).alloc (hb1.trans (ba.mono hb1.size)).size (.cells #[.int .i32 (PG.rn O), .int .i64 (PG.kd O), .int .i64 (PG.pn O).1, .int .i64 (PG.pn O).2.1, .int .i64 (PG.pn O).2.2] 56)
                have lwa2 : w0.heap.size ≤ wa.heap.size := (hb1.trans (ba.mono hb1.size)).size
                have bg9 := Box.new wa 56 #[.int .i32 (PG.rn O), .int .i64 (PG.kd O), .int .i64 (PG.pn O).1, .int .i64 (PG.pn O).2.1, .int .i64 (PG.pn O).2.2]
                clear ba k0 k1 k2
                generalize wa.alloc (.cells #[.int .i32 (PG.rn O), .int .i64 (PG.kd O), .int .i64 (PG.pn O).1, .int .i64 (PG.pn O).2.1, .int .i64 (PG.pn O).2.2] 56) = wa2 at hwa2 bg9  ⊢
                generalize wa.heap.size = g9 at lwa2 bg9 ⊢
                have k0 : wa2.cell? ⟨gf, 0, none⟩ = some (.int .i64 (F.g.rows : Nat)) := (HSf2.out.below hwa2 HSf2.out.lt).c0
                have k1 : wa2.cell? ⟨gf, 1, none⟩ = some (.int .i64 (F.g.cols : Nat)) := (HSf2.out.below hwa2 HSf2.out.lt).c1
                have k2 : wa2.cell? ⟨gf, 2, none⟩ = some (.slice A3a (F.g.rows * F.g.cols) c3a) := (HSf2.out.below hwa2 HSf2.out.lt).c2
                go_wp2_with fail
                refine (u_atc RF.out.g (HGf2.out.low hwa2) y x hFy hFx HE1.out).mono ?_
                rintro e wb ⟨rfl, bb⟩
                go_upto_region 12 with fail
                have hwb2 := (hwa2.trans (bb.mono hwa2.size)).alloc (hwa2.trans (bb.mono hwa2.size)).size (.cells #[.int .i32 (PG.rn bl), .int .i64 (PG.kd bl), .int .i64 (PG.pn bl).1, .int .i64 (PG.pn bl).2.1, .int .i64 (PG.pn bl).2.2] 56)
                have lwb2 : w0.heap.size ≤ wb.heap.size := (hwa2.trans (bb.mono hwa2.size)).size
                have bg11 := Box.new wb 56 #[.int .i32 (PG.rn bl), .int .i64 (PG.kd bl), .int .i64 (PG.pn bl).1, .int .i64 (PG.pn bl).2.1, .int .i64 (PG.pn bl).2.2]
                have bo2 := (bg9.below bb bg9.lt).alloc (.cells #[.int .i32 (PG.rn bl), .int .i64 (PG.kd bl), .int .i64 (PG.pn bl).1, .int .i64 (PG.pn bl).2.1, .int .i64 (PG.pn bl).2.2] 56)
                clear bg9
                clear bb k0 k1 k2
                generalize wb.alloc (.cells #[.int .i32 (PG.rn bl), .int .i64 (PG.kd bl), .int .i64 (PG.pn bl).1, .int .i64 (PG.pn bl).2.1, .int .i64 (PG.pn bl).2.2] 56) = wb2 at hwb2 bg11 bo2 ⊢
                generalize wb.heap.size = g11 at lwb2 bg11 ⊢
                have k0 : wb2.cell? ⟨gb, 0, none⟩ = some (.int .i64 (B.g.rows : Nat)) := (HSb2.out.below hwb2 HSb2.out.lt).c0
                have k1 : wb2.cell? ⟨gb, 1, none⟩ = some (.int .i64 (B.g.cols : Nat)) := (HSb2.out.below hwb2 HSb2.out.lt).c1
                have k2 : wb2.cell? ⟨gb, 2, none⟩ = some (.slice A3b (B.g.rows * B.g.cols) c3b) := (HSb2.out.below hwb2 HSb2.out.lt).c2
                go_wp2_with fail
                refine (u_atc RB.out.g (HGb2.out.low hwb2) y x hBy hBx HE2.out).mono ?_
                rintro e wd ⟨rfl, bd⟩
                go_upto_region 13 with fail
                have hwd2 := (hwb2.trans (bd.mono hwb2.size)).alloc (hwb2.trans (bd.mono hwb2.size)).size (.cells #[.int .i32 (PG.rn D1), .int .i64 (PG.kd D1), .int .i64 (PG.pn D1).1, .int .i64 (PG.pn D1).2.1, .int .i64 (PG.pn D1).2.2] 56)
                have lwd2 : w0.heap.size ≤ wd.heap.size := (hwb2.trans (bd.mono hwb2.size)).size
                have bg13 := Box.new wd 56 #[.int .i32 (PG.rn D1), .int .i64 (PG.kd D1), .int .i64 (PG.pn D1).1, .int .i64 (PG.pn D1).2.1, .int .i64 (PG.pn D1).2.2]
                have bo3 := (bo2.below bd bo2.lt).alloc (.cells #[.int .i32 (PG.rn D1), .int .i64 (PG.kd D1), .int .i64 (PG.pn D1).1, .int .i64 (PG.pn D1).2.1, .int .i64 (PG.pn D1).2.2] 56)
                clear bo2
                have bu2 := (bg11.below bd bg11.lt).alloc (.cells #[.int .i32 (PG.rn D1), .int .i64 (PG.kd D1), .int .i64 (PG.pn D1).1, .int .i64 (PG.pn D1).2.1, .int .i64 (PG.pn D1).2.2] 56)
                clear bg11
                clear bd k0 k1 k2
                generalize wd.alloc (.cells #[.int .i32 (PG.rn D1), .int .i64 (PG.kd D1), .int .i64 (PG.pn D1).1, .int .i64 (PG.pn D1).2.1, .int .i64 (PG.pn D1).2.2] 56) = wd2 at hwd2 bg13 bo3 bu2 ⊢
                generalize wd.heap.size = g13 at lwd2 bg13 ⊢
                go_cut [15, 16] from 76 to 77 (fun ua ub wx => ∃ gA gB, ua = .pointer (some ⟨gA, 0, none⟩) ∧ ub = .pointer (some ⟨gB, 0, none⟩) ∧ (wd2.heap.size ≤ gA ∧ wd2.heap.size ≤ gB ∧ gA ≠ gB) ∧ Box wx gA 56 #[.int .i32 (PG.rn O), .int .i64 (PG.kd O), .int .i64 (PG.pn O).1, .int .i64 (PG.pn O).2.1, .int .i64 (PG.pn O).2.2] ∧ Box wx gB 56 #[.int .i32 (PG.rn O), .int .i64 (PG.kd O), .int .i64 (PG.pn O).1, .int .i64 (PG.pn O).2.1, .int .i64 (PG.pn O).2.2] ∧ Below wd2.heap.size wd2 wx)
                case first =>
                  refine wp_region_gj (n := 146) [] (fun _ => #[]) [(0, 0, 0, 0, 0), (0, 0, 0, 0, 0), (2, 0, 0, 56, 5), (2, 0, 0, 56, 5), (3, 2, 0, 56, 5), (3, 3, 1, 56, 5)] (fun j => [(.agg #[.int .i32 (PG.rn O), .int .i64 (PG.kd O), .int .i64 (PG.pn O).1, .int .i64 (PG.pn O).2.1, .int .i64 (PG.pn O).2.2]), (.agg #[.int .i32 (PG.rn O), .int .i64 (PG.kd O), .int .i64 (PG.pn O).1, .int .i64 (PG.pn O).2.1, .int .i64 (PG.pn O).2.2]), undef, undef, undef, undef].getD j undef) [] (fun _ => 0) (by kernel_rfl) (by kernel_rfl) (by kernel_rfl) rfl (by kernel_rfl) (gno4 rfl) (fun i j h => by revert h; exact gno4 (p := fun _ => _) rfl i) (AllG.nil _) (fun hGS => cases6 ⟨?_, ?_, ?_, ?_, ?_, ?_⟩) ?_
                  · intro L a w' hL hsame hsz hJ hdep hcl
                    have hb := hJ.kept.toBelow (Nat.le_refl _) (by simp)
                    have e0 : a.eval (.tmp 9) = (.pointer (some ⟨g9, 0, none⟩)) := eval_base hsame (by kernel_rfl)
                    have hx := hJ.keptBox (bo3) (by simp)
                    have q0 : w'.cell? ⟨g9, 0, none⟩ = some (.int .i32 (PG.rn O)) := hx.cell 0
                    have q1 : w'.cell? ⟨g9, 1, none⟩ = some (.int .i64 (PG.kd O)) := hx.cell 1
                    have q2 : w'.cell? ⟨g9, 2, none⟩ = some (.int .i64 (PG.pn O).1) := hx.cell 2
                    have q3 : w'.cell? ⟨g9, 3, none⟩ = some (.int .i64 (PG.pn O).2.1) := hx.cell 3
                    have q4 : w'.cell? ⟨g9, 4, none⟩ = some (.int .i64 (PG.pn O).2.2) := hx.cell 4
                    refine Step.val _ rfl rfl (wanted_none rfl) (.agg #[.int .i32 (PG.rn O), .int .i64 (PG.kd O), .int .i64 (PG.pn O).1, .int .i64 (PG.pn O).2.1, .int .i64 (PG.pn O).2.2]) w' (fun ρ hρ => ?_) (hJ.val hGS hcl hL rfl (Below.refl _ _) _ rfl)
                    clear hx
                    rw [hρ] at e0
                    clear hJ hsame hdep hcl hρ hsz hb
                    go_simp
                  · intro L a w' hL hsame hsz hJ hdep hcl
                    have hb := hJ.kept.toBelow (Nat.le_refl _) (by simp)
                    have e0 : a.eval (.tmp 9) = (.pointer (some ⟨g9, 0, none⟩)) := eval_base hsame (by kernel_rfl)
                    have hx := hJ.keptBox (bo3) (by simp)
                    have q0 : w'.cell? ⟨g9, 0, none⟩ = some (.int .i32 (PG.rn O)) := hx.cell 0
                    have q1 : w'.cell? ⟨g9, 1, none⟩ = some (.int .i64 (PG.kd O)) := hx.cell 1
                    have q2 : w'.cell? ⟨g9, 2, none⟩ = some (.int .i64 (PG.pn O).1) := hx.cell 2
                    have q3 : w'.cell? ⟨g9, 3, none⟩ = some (.int .i64 (PG.pn O).2.1) := hx.cell 3
                    have q4 : w'.cell? ⟨g9, 4, none⟩ = some (.int .i64 (PG.pn O).2.2) := hx.cell 4
                    refine Step.val _ rfl rfl (wanted_none rfl) (.agg #[.int .i32 (PG.rn O), .int .i64 (PG.kd O), .int .i64 (PG.pn O).1, .int .i64 (PG.pn O).2.1, .int .i64 (PG.pn O).2.2]) w' (fun ρ hρ => ?_) (hJ.val hGS hcl hL rfl (Below.refl _ _) _ rfl)
                    clear hx
                    rw [hρ] at e0
                    clear hJ hsame hdep hcl hρ hsz hb
                    go_simp
                  · intro L a w' hL hsame hsz hJ hdep hcl
                    have hb := hJ.kept.toBelow (Nat.le_refl _) (by simp)
                    refine Step.val _ rfl rfl (wanted_none rfl) (.pointer (some ⟨w'.heap.size, 0, none⟩)) (w'.alloc (.cells #[.int .i32 0, .int .i64 0, .int .i64 0, .int .i64 0, .int .i64 0] 56)) (fun ρ hρ => ?_) (hJ.box hGS hcl hL rfl 56 rfl #[.int .i32 0, .int .i64 0, .int .i64 0, .int .i64 0, .int .i64 0] rfl)
                    clear hJ hsame hdep hcl hρ hsz hb
                    go_simp
                  · intro L a w' hL hsame hsz hJ hdep hcl
                    have hb := hJ.kept.toBelow (Nat.le_refl _) (by simp)
                    refine Step.val _ rfl rfl (wanted_none rfl) (.pointer (some ⟨w'.heap.size, 0, none⟩)) (w'.alloc (.cells #[.int .i32 0, .int .i64 0, .int .i64 0, .int .i64 0, .int .i64 0] 56)) (fun ρ hρ => ?_) (hJ.box hGS hcl hL rfl 56 rfl #[.int .i32 0, .int .i64 0, .int .i64 0, .int .i64 0, .int .i64 0] rfl)
                    clear hJ hsame hdep hcl hρ hsz hb
                    go_simp
                  · intro L a w' hL hsame hsz hJ hdep hcl
                    have hb := hJ.kept.toBelow (Nat.le_refl _) (by simp)
                    have hsv := hJ.valOf (j := 0) (by decide) (dep_of hdep 0 (by kernel_rfl)) rfl rfl
                    have es : a.eval (.tmp 76) = (.agg #[.int .i32 (PG.rn O), .int .i64 (PG.kd O), .int .i64 (PG.pn O).1, .int .i64 (PG.pn O).2.1, .int .i64 (PG.pn O).2.2]) := eval_slot (j := 0) (by kernel_rfl) hsv
                    have la := dep_of hdep 2 (by kernel_rfl)
                    obtain ⟨g, cs, hg, hg0, hx, hs⟩ := hJ.boxOf (j := 2) (by decide) la rfl
                    have ea : a.eval (.tmp 15) = .pointer (some ⟨g, 0, none⟩) := eval_slot (j := 2) (by kernel_rfl) hg
                    obtain ⟨m0, hm0⟩ : ∃ m, w'.cell? ⟨g, 0, none⟩ = some m := ⟨_, (hx.cell 0).trans (Array.getElem?_eq_getElem (by rw [hs]; decide))⟩
                    have hf0 := hx.frozen 0
                    obtain ⟨m1, hm1⟩ : ∃ m, w'.cell? ⟨g, 1, none⟩ = some m := ⟨_, (hx.cell 1).trans (Array.getElem?_eq_getElem (by rw [hs]; decide))⟩
                    have hf1 := hx.frozen 1
                    obtain ⟨m2, hm2⟩ : ∃ m, w'.cell? ⟨g, 2, none⟩ = some m := ⟨_, (hx.cell 2).trans (Array.getElem?_eq_getElem (by rw [hs]; decide))⟩
                    have hf2 := hx.frozen 2
                    obtain ⟨m3, hm3⟩ : ∃ m, w'.cell? ⟨g, 3, none⟩ = some m := ⟨_, (hx.cell 3).trans (Array.getElem?_eq_getElem (by rw [hs]; decide))⟩
                    have hf3 := hx.frozen 3
                    obtain ⟨m4, hm4⟩ : ∃ m, w'.cell? ⟨g, 4, none⟩ = some m := ⟨_, (hx.cell 4).trans (Array.getElem?_eq_getElem (by rw [hs]; decide))⟩
                    have hf4 := hx.frozen 4
                    refine Step.skip _ rfl (wanted_none rfl) (setL w' g 0 [.int .i32 (PG.rn O), .int .i64 (PG.kd O), .int .i64 (PG.pn O).1, .int .i64 (PG.pn O).2.1, .int .i64 (PG.pn O).2.2]) (fun ρ hρ => ?_) (hJ.put hGS hcl hL rfl la (dep_of hdep 0 (by kernel_rfl)) hg rfl hsv)
                    rw [hρ] at es ea
                    clear hJ hsame hdep hcl hρ hsz hb hsv hx hs hg
                    simp only [setL]
                    go_simp
                  · intro L a w' hL hsame hsz hJ hdep hcl
                    have hb := hJ.kept.toBelow (Nat.le_refl _) (by simp)
                    have hsv := hJ.valOf (j := 1) (by decide) (dep_of hdep 1 (by kernel_rfl)) rfl rfl
                    have es : a.eval (.tmp 77) = (.agg #[.int .i32 (PG.rn O), .int .i64 (PG.kd O), .int .i64 (PG.pn O).1, .int .i64 (PG.pn O).2.1, .int .i64 (PG.pn O).2.2]) := eval_slot (j := 1) (by kernel_rfl) hsv
                    have la := dep_of hdep 3 (by kernel_rfl)
                    obtain ⟨g, cs, hg, hg0, hx, hs⟩ := hJ.boxOf (j := 3) (by decide) la rfl
                    have ea : a.eval (.tmp 16) = .pointer (some ⟨g, 0, none⟩) := eval_slot (j := 3) (by kernel_rfl) hg
                    obtain ⟨m0, hm0⟩ : ∃ m, w'.cell? ⟨g, 0, none⟩ = some m := ⟨_, (hx.cell 0).trans (Array.getElem?_eq_getElem (by rw [hs]; decide))⟩
                    have hf0 := hx.frozen 0
                    obtain ⟨m1, hm1⟩ : ∃ m, w'.cell? ⟨g, 1, none⟩ = some m := ⟨_, (hx.cell 1).trans (Array.getElem?_eq_getElem (by rw [hs]; decide))⟩
                    have hf1 := hx.frozen 1
                    obtain ⟨m2, hm2⟩ : ∃ m, w'.cell? ⟨g, 2, none⟩ = some m := ⟨_, (hx.cell 2).trans (Array.getElem?_eq_getElem (by rw [hs]; decide))⟩
                    have hf2 := hx.frozen 2
                    obtain ⟨m3, hm3⟩ : ∃ m, w'.cell? ⟨g, 3, none⟩ = some m := ⟨_, (hx.cell 3).trans (Array.getElem?_eq_getElem (by rw [hs]; decide))⟩
                    have hf3 := hx.frozen 3
                    obtain ⟨m4, hm4⟩ : ∃ m, w'.cell? ⟨g, 4, none⟩ = some m := ⟨_, (hx.cell 4).trans (Array.getElem?_eq_getElem (by rw [hs]; decide))⟩
                    have hf4 := hx.frozen 4
                    refine Step.skip _ rfl (wanted_none rfl) (setL w' g 0 [.int .i32 (PG.rn O), .int .i64 (PG.kd O), .int .i64 (PG.pn O).1, .int .i64 (PG.pn O).2.1, .int .i64 (PG.pn O).2.2]) (fun ρ hρ => ?_) (hJ.put hGS hcl hL rfl la (dep_of hdep 1 (by kernel_rfl)) hg rfl hsv)
                    rw [hρ] at es ea
                    clear hJ hsame hdep hcl hρ hsz hb hsv hx hs hg
                    simp only [setL]
                    go_simp
                  · intro u w' hF
                    change Exit.then _ _ Exit.normal (Act.put (Act.put (Act.put (Act.put (Act.put (Act.put (putAll _ u 0 _) (some 76) (u 0)) (some 77) (u 1)) (some 15) (u 2)) (some 16) (u 3)) none (u 4)) none (u 5)) _
                    simp only [putAll]
                    obtain ⟨gA, ha, la, hA⟩ := hF.fin3 (j := 4) (a := 2) (v := 0) (by decide) rfl rfl rfl (by decide) rfl (by decide) rfl (cs := #[.int .i32 (PG.rn O), .int .i64 (PG.kd O), .int .i64 (PG.pn O).1, .int .i64 (PG.pn O).2.1, .int .i64 (PG.pn O).2.2]) rfl
                    obtain ⟨gB, hbb, lb, hB⟩ := hF.fin3 (j := 5) (a := 3) (v := 1) (by decide) rfl rfl rfl (by decide) rfl (by decide) rfl (cs := #[.int .i32 (PG.rn O), .int .i64 (PG.kd O), .int .i64 (PG.pn O).1, .int .i64 (PG.pn O).2.1, .int .i64 (PG.pn O).2.2]) rfl
                    have nab := hF.dist 2 3 rfl rfl rfl rfl (by decide)
                    have hk := hF.kept.toBelow (Nat.le_refl _) (by simp)
                    clear hF
                    generalize u 0 = y0
                    generalize u 1 = y1
                    generalize u 2 = y2 at ha nab ⊢
                    generalize u 3 = y3 at hbb nab ⊢
                    generalize u 4 = y4
                    generalize u 5 = y5
                    subst ha hbb
                    have m1 : gA ≠ gB := fun e => nab (by rw [e])
                    clear nab
                    go_simp
                    go_step
                    go_meet
                    exact ⟨gA, gB, rfl, rfl, ⟨la, lb, m1⟩, hA, hB, hk⟩
                case rest =>
                  obtain ⟨gA, gB, rfl, rfl, ⟨la, lb, nab⟩, hA, hB, hbe⟩ := hcut
                  rename World => we
                  have hwe := hwd2.trans (hbe.mono hwd2.size)
                  have bu3 := bu2.below hbe bu2.lt
                  have bd3 := bg13.below hbe bg13.lt
                  have nA11 : g11 ≠ gA := by have := bu2.lt; omega
                  have nB11 : g11 ≠ gB := by have := bu2.lt; omega
                  have nA13 : g13 ≠ gA := by have := bg13.lt; omega
                  have nB13 : g13 ≠ gB := by have := bg13.lt; omega
                  have l2 := hwd2.size
                  have lA : w0.heap.size ≤ gA := by omega
                  have lB : w0.heap.size ≤ gB := by omega
                  clear bu2 bg13 bo3 hbe la lb hwd2 hwb2 hwa2 lwd2 lwb2 lwa2
                  have q6 : we.cell? ⟨gs, 6, none⟩ = some (.int .i64 (S.top : Nat)) := (HSs3.out.below hwe HSs3.out.lt).c6
                  have q7 : we.cell? ⟨gs, 7, none⟩ = some (.int .i64 (S.bot : Nat)) := (HSs3.out.below hwe HSs3.out.lt).c7
                  go_upto_region 15 with fail
                  have ncA : gc ≠ gA := by have := HC.out.lt; omega
                  have ncB : gc ≠ gB := by have := HC.out.lt; omega
                  have hcb := HC.out.below hwe HC.out.lt
                  have c0 : we.cell? ⟨gc, 0, none⟩ = some (.int .i32 (PG.rn bl)) := hcb.cell 0
                  have c1 : we.cell? ⟨gc, 1, none⟩ = some (.int .i64 (PG.kd bl)) := hcb.cell 1
                  have c2 : we.cell? ⟨gc, 2, none⟩ = some (.int .i64 (PG.pn bl).1) := hcb.cell 2
                  have c3 : we.cell? ⟨gc, 3, none⟩ = some (.int .i64 (PG.pn bl).2.1) := hcb.cell 3
                  have c4 : we.cell? ⟨gc, 4, none⟩ = some (.int .i64 (PG.pn bl).2.2) := hcb.cell 4
                  have a0 : we.cell? ⟨gA, 0, none⟩ = some (.int .i32 (PG.rn O)) := hA.cell 0
                  have a1 : we.cell? ⟨gA, 1, none⟩ = some (.int .i64 (PG.kd O)) := hA.cell 1
                  have a2 : we.cell? ⟨gA, 2, none⟩ = some (.int .i64 (PG.pn O).1) := hA.cell 2
                  have a3 : we.cell? ⟨gA, 3, none⟩ = some (.int .i64 (PG.pn O).2.1) := hA.cell 3
                  have a4 : we.cell? ⟨gA, 4, none⟩ = some (.int .i64 (PG.pn O).2.2) := hA.cell 4
                  have b0 : we.cell? ⟨gB, 0, none⟩ = some (.int .i32 (PG.rn O)) := hB.cell 0
                  have b1 : we.cell? ⟨gB, 1, none⟩ = some (.int .i64 (PG.kd O)) := hB.cell 1
                  have b2 : we.cell? ⟨gB, 2, none⟩ = some (.int .i64 (PG.pn O).1) := hB.cell 2
                  have b3 : we.cell? ⟨gB, 3, none⟩ = some (.int .i64 (PG.pn O).2.1) := hB.cell 3
                  have b4 : we.cell? ⟨gB, 4, none⟩ = some (.int .i64 (PG.pn O).2.2) := hB.cell 4
                  have za0 := hA.frozen 0
                  have za1 := hA.frozen 1
                  have za2 := hA.frozen 2
                  have za3 := hA.frozen 3
                  have za4 := hA.frozen 4
                  have zb0 := hB.frozen 0
                  have zb1 := hB.frozen 1
                  have zb2 := hB.frozen 2
                  have zb3 := hB.frozen 3
                  have zb4 := hB.frozen 4
                  go_cut [] from 78 to 90 (fun wx => Box wx gA 56 #[.int .i32 (PG.rn bl), .int .i64 (PG.kd bl), .int .i64 (PG.pn bl).1, .int .i64 (PG.pn bl).2.1, .int .i64 (PG.pn bl).2.2] ∧ Box wx gB 56 #[.int .i32 (PG.rn bl), .int .i64 (PG.kd bl), .int .i64 (PG.pn bl).1, .int .i64 (PG.pn bl).2.1, .int .i64 (PG.pn bl).2.2] ∧ Box wx g11 56 #[.int .i32 (PG.rn bl), .int .i64 (PG.kd bl), .int .i64 (PG.pn bl).1, .int .i64 (PG.pn bl).2.1, .int .i64 (PG.pn bl).2.2] ∧ Box wx g13 56 #[.int .i32 (PG.rn D1), .int .i64 (PG.kd D1), .int .i64 (PG.pn D1).1, .int .i64 (PG.pn D1).2.1, .int .i64 (PG.pn D1).2.2] ∧ Below w0.heap.size w0 wx)
                  case first =>
                    refine wp_region_gj (n := 146) [some gA, some gB] (fun j => cond (Nat.beq j 2) #[.int .i32 (PG.rn O), .int .i64 (PG.kd O), .int .i64 (PG.pn O).1, .int .i64 (PG.pn O).2.1, .int .i64 (PG.pn O).2.2] #[.int .i32 (PG.rn O), .int .i64 (PG.kd O), .int .i64 (PG.pn O).1, .int .i64 (PG.pn O).2.1, .int .i64 (PG.pn O).2.2]) [(0, 0, 0, 0, 0), (0, 0, 0, 0, 0), (4, 0, 0, 56, 5), (4, 0, 1, 56, 5)] (fun j => [(.agg #[.int .i32 (PG.rn bl), .int .i64 (PG.kd bl), .int .i64 (PG.pn bl).1, .int .i64 (PG.pn bl).2.1, .int .i64 (PG.pn bl).2.2]), (.agg #[.int .i32 (PG.rn bl), .int .i64 (PG.kd bl), .int .i64 (PG.pn bl).1, .int .i64 (PG.pn bl).2.1, .int .i64 (PG.pn bl).2.2]), undef, undef].getD j undef) [] (fun j => cond (Nat.beq j 2) gA gB) (by kernel_rfl) (by kernel_rfl) (by kernel_rfl) rfl (by kernel_rfl) (gonly4b (k := 2) (l := 3) rfl ⟨List.Mem.head _, rfl, hA⟩ ⟨List.Mem.tail _ (List.Mem.head _), rfl, hB⟩) (gonly44b (k := 2) (l := 3) rfl nab (Ne.symm nab)) (AllG.nil _) (fun hGS => cases4 ⟨?_, ?_, ?_, ?_⟩) ?_
                    · intro L a w' hL hsame hsz hJ hdep hcl
                      have hb := trivial
                      have e0 : a.eval (.tmp 6) = (.pointer (some ⟨gc, 0, none⟩)) := eval_base hsame (by kernel_rfl)
                      have hx := hJ.keptBox (hcb) (by simp; exact ⟨ncA, ncB⟩)
                      have q0 : w'.cell? ⟨gc, 0, none⟩ = some (.int .i32 (PG.rn bl)) := hx.cell 0
                      have q1 : w'.cell? ⟨gc, 1, none⟩ = some (.int .i64 (PG.kd bl)) := hx.cell 1
                      have q2 : w'.cell? ⟨gc, 2, none⟩ = some (.int .i64 (PG.pn bl).1) := hx.cell 2
                      have q3 : w'.cell? ⟨gc, 3, none⟩ = some (.int .i64 (PG.pn bl).2.1) := hx.cell 3
                      have q4 : w'.cell? ⟨gc, 4, none⟩ = some (.int .i64 (PG.pn bl).2.2) := hx.cell 4
                      refine Step.val _ rfl rfl (wanted_none rfl) (.agg #[.int .i32 (PG.rn bl), .int .i64 (PG.kd bl), .int .i64 (PG.pn bl).1, .int .i64 (PG.pn bl).2.1, .int .i64 (PG.pn bl).2.2]) w' (fun ρ hρ => ?_) (hJ.val hGS hcl hL rfl (Below.refl _ _) _ rfl)
                      clear hx
                      rw [hρ] at e0
                      clear hJ hsame hdep hcl hρ hsz hb
                      go_simp
                    · intro L a w' hL hsame hsz hJ hdep hcl
                      have hb := trivial
                      have e0 : a.eval (.tmp 6) = (.pointer (some ⟨gc, 0, none⟩)) := eval_base hsame (by kernel_rfl)
                      have hx := hJ.keptBox (hcb) (by simp; exact ⟨ncA, ncB⟩)
                      have q0 : w'.cell? ⟨gc, 0, none⟩ = some (.int .i32 (PG.rn bl)) := hx.cell 0
                      have q1 : w'.cell? ⟨gc, 1, none⟩ = some (.int .i64 (PG.kd bl)) := hx.cell 1
                      have q2 : w'.cell? ⟨gc, 2, none⟩ = some (.int .i64 (PG.pn bl).1) := hx.cell 2
                      have q3 : w'.cell? ⟨gc, 3, none⟩ = some (.int .i64 (PG.pn bl).2.1) := hx.cell 3
                      have q4 : w'.cell? ⟨gc, 4, none⟩ = some (.int .i64 (PG.pn bl).2.2) := hx.cell 4
                      refine Step.val _ rfl rfl (wanted_none rfl) (.agg #[.int .i32 (PG.rn bl), .int .i64 (PG.kd bl), .int .i64 (PG.pn bl).1, .int .i64 (PG.pn bl).2.1, .int .i64 (PG.pn bl).2.2]) w' (fun ρ hρ => ?_) (hJ.val hGS hcl hL rfl (Below.refl _ _) _ rfl)
                      clear hx
                      rw [hρ] at e0
                      clear hJ hsame hdep hcl hρ hsz hb
                      go_simp
                    · intro L a w' hL hsame hsz hJ hdep hcl
                      have hb := trivial
                      have hsv := hJ.valOf (j := 0) (by decide) (dep_of hdep 0 (by kernel_rfl)) rfl rfl
                      have es : a.eval (.tmp 88) = (.agg #[.int .i32 (PG.rn bl), .int .i64 (PG.kd bl), .int .i64 (PG.pn bl).1, .int .i64 (PG.pn bl).2.1, .int .i64 (PG.pn bl).2.2]) := eval_slot (j := 0) (by kernel_rfl) hsv
                      have hx : Box w' gA 56 #[.int .i32 (PG.rn O), .int .i64 (PG.kd O), .int .i64 (PG.pn O).1, .int .i64 (PG.pn O).2.1, .int .i64 (PG.pn O).2.2] := hJ.old 2 rfl hL
                      have hs : (#[.int .i32 (PG.rn O), .int .i64 (PG.kd O), .int .i64 (PG.pn O).1, .int .i64 (PG.pn O).2.1, .int .i64 (PG.pn O).2.2] : Array Value).size = 5 := rfl
                      have ea : a.eval (.tmp 15) = .pointer (some ⟨gA, 0, none⟩) := eval_base hsame (by kernel_rfl)
                      obtain ⟨m0, hm0⟩ : ∃ m, w'.cell? ⟨gA, 0, none⟩ = some m := ⟨_, (hx.cell 0).trans (Array.getElem?_eq_getElem (by rw [hs]; decide))⟩
                      have hf0 := hx.frozen 0
                      obtain ⟨m1, hm1⟩ : ∃ m, w'.cell? ⟨gA, 1, none⟩ = some m := ⟨_, (hx.cell 1).trans (Array.getElem?_eq_getElem (by rw [hs]; decide))⟩
                      have hf1 := hx.frozen 1
                      obtain ⟨m2, hm2⟩ : ∃ m, w'.cell? ⟨gA, 2, none⟩ = some m := ⟨_, (hx.cell 2).trans (Array.getElem?_eq_getElem (by rw [hs]; decide))⟩
                      have hf2 := hx.frozen 2
                      obtain ⟨m3, hm3⟩ : ∃ m, w'.cell? ⟨gA, 3, none⟩ = some m := ⟨_, (hx.cell 3).trans (Array.getElem?_eq_getElem (by rw [hs]; decide))⟩
                      have hf3 := hx.frozen 3
                      obtain ⟨m4, hm4⟩ : ∃ m, w'.cell? ⟨gA, 4, none⟩ = some m := ⟨_, (hx.cell 4).trans (Array.getElem?_eq_getElem (by rw [hs]; decide))⟩
                      have hf4 := hx.frozen 4
                      refine Step.skip _ rfl (wanted_none rfl) (setL w' gA 0 [.int .i32 (PG.rn bl), .int .i64 (PG.kd bl), .int .i64 (PG.pn bl).1, .int .i64 (PG.pn bl).2.1, .int .i64 (PG.pn bl).2.2]) (fun ρ hρ => ?_) (hJ.set hGS hcl hL rfl (dep_of hdep 0 (by kernel_rfl)) rfl hsv)
                      rw [hρ] at es ea
                      clear hJ hsame hdep hcl hρ hsz hb hsv hx hs
                      simp only [setL]
                      go_simp
                    · intro L a w' hL hsame hsz hJ hdep hcl
                      have hb := trivial
                      have hsv := hJ.valOf (j := 1) (by decide) (dep_of hdep 1 (by kernel_rfl)) rfl rfl
                      have es : a.eval (.tmp 89) = (.agg #[.int .i32 (PG.rn bl), .int .i64 (PG.kd bl), .int .i64 (PG.pn bl).1, .int .i64 (PG.pn bl).2.1, .int .i64 (PG.pn bl).2.2]) := eval_slot (j := 1) (by kernel_rfl) hsv
                      have hx : Box w' gB 56 #[.int .i32 (PG.rn O), .int .i64 (PG.kd O), .int .i64 (PG.pn O).1, .int .i64 (PG.pn O).2.1, .int .i64 (PG.pn O).2.2] := hJ.old 3 rfl hL
                      have hs : (#[.int .i32 (PG.rn O), .int .i64 (PG.kd O), .int .i64 (PG.pn O).1, .int .i64 (PG.pn O).2.1, .int .i64 (PG.pn O).2.2] : Array Value).size = 5 := rfl
                      have ea : a.eval (.tmp 16) = .pointer (some ⟨gB, 0, none⟩) := eval_base hsame (by kernel_rfl)
                      obtain ⟨m0, hm0⟩ : ∃ m, w'.cell? ⟨gB, 0, none⟩ = some m := ⟨_, (hx.cell 0).trans (Array.getElem?_eq_getElem (by rw [hs]; decide))⟩
                      have hf0 := hx.frozen 0
                      obtain ⟨m1, hm1⟩ : ∃ m, w'.cell? ⟨gB, 1, none⟩ = some m := ⟨_, (hx.cell 1).trans (Array.getElem?_eq_getElem (by rw [hs]; decide))⟩
                      have hf1 := hx.frozen 1
                      obtain ⟨m2, hm2⟩ : ∃ m, w'.cell? ⟨gB, 2, none⟩ = some m := ⟨_, (hx.cell 2).trans (Array.getElem?_eq_getElem (by rw [hs]; decide))⟩
                      have hf2 := hx.frozen 2
                      obtain ⟨m3, hm3⟩ : ∃ m, w'.cell? ⟨gB, 3, none⟩ = some m := ⟨_, (hx.cell 3).trans (Array.getElem?_eq_getElem (by rw [hs]; decide))⟩
                      have hf3 := hx.frozen 3
                      obtain ⟨m4, hm4⟩ : ∃ m, w'.cell? ⟨gB, 4, none⟩ = some m := ⟨_, (hx.cell 4).trans (Array.getElem?_eq_getElem (by rw [hs]; decide))⟩
                      have hf4 := hx.frozen 4
                      refine Step.skip _ rfl (wanted_none rfl) (setL w' gB 0 [.int .i32 (PG.rn bl), .int .i64 (PG.kd bl), .int .i64 (PG.pn bl).1, .int .i64 (PG.pn bl).2.1, .int .i64 (PG.pn bl).2.2]) (fun ρ hρ => ?_) (hJ.set hGS hcl hL rfl (dep_of hdep 1 (by kernel_rfl)) rfl hsv)
                      rw [hρ] at es ea
                      clear hJ hsame hdep hcl hρ hsz hb hsv hx hs
                      simp only [setL]
                      go_simp
                    · intro u w' hF
                      change Exit.then _ _ Exit.normal (Act.put (Act.put (Act.put (Act.put (putAll _ u 0 _) (some 88) (u 0)) (some 89) (u 1)) none (u 2)) none (u 3)) _
                      simp only [putAll]
                      have hA3 : Box w' gA 56 #[.int .i32 (PG.rn bl), .int .i64 (PG.kd bl), .int .i64 (PG.pn bl).1, .int .i64 (PG.pn bl).2.1, .int .i64 (PG.pn bl).2.2] := hF.fin4 (j := 2) (v := 0) (by decide) rfl rfl (by decide) rfl (cs := #[.int .i32 (PG.rn bl), .int .i64 (PG.kd bl), .int .i64 (PG.pn bl).1, .int .i64 (PG.pn bl).2.1, .int .i64 (PG.pn bl).2.2]) rfl
                      have hB3 : Box w' gB 56 #[.int .i32 (PG.rn bl), .int .i64 (PG.kd bl), .int .i64 (PG.pn bl).1, .int .i64 (PG.pn bl).2.1, .int .i64 (PG.pn bl).2.2] := hF.fin4 (j := 3) (v := 1) (by decide) rfl rfl (by decide) rfl (cs := #[.int .i32 (PG.rn bl), .int .i64 (PG.kd bl), .int .i64 (PG.pn bl).1, .int .i64 (PG.pn bl).2.1, .int .i64 (PG.pn bl).2.2]) rfl
                      have hk := hF.kept
                      clear hF
                      generalize u 0 = y0
                      generalize u 1 = y1
                      generalize u 2 = y2
                      generalize u 3 = y3
                      go_simp
                      go_step
                      go_meet
                      exact ⟨hA3, hB3, bu3.kept hk (by simp; exact ⟨nA11, nB11⟩), bd3.kept hk (by simp; exact ⟨nA13, nB13⟩), hwe.trans (hk.toBelow hwe.size (fun k hh => by simp at hh; omega))⟩
                  case rest =>
                    obtain ⟨hA2, hB2, bu4, bd4, hw3⟩ := hcut
                    rename World => w3
                    clear c0 c1 c2 c3 c4 a0 a1 a2 a3 a4 b0 b1 b2 b3 b4 za0 za1 za2 za3 za4 zb0 zb1 zb2 zb3 zb4 hcb q6 q7 hA hB bu3 bd3
                    have q7 : w3.cell? ⟨gs, 7, none⟩ = some (.int .i64 (S.bot : Nat)) := (HSs3.out.below hw3 HSs3.out.lt).c7
                    have q6 : w3.cell? ⟨gs, 6, none⟩ = some (.int .i64 (S.top : Nat)) := (HSs3.out.below hw3 HSs3.out.lt).c6
                    have Ud_ := fun w' h => u_atc (w := w') (v := gv S.g.rows S.g.cols (.slice A1 (S.g.rows * S.g.cols) c1)) RS.out.g h (y - 1) x (by omega) hxc HD.out
                    rw [show (((y - 1) : Nat) : Int) = (y : Int) - 1 by omega] at Ud_
                    have k0 : w3.cell? ⟨gs, 0, none⟩ = some (.int .i64 (S.g.rows : Nat)) := (HSs3.out.below hw3 HSs3.out.lt).c0
                    have k1 : w3.cell? ⟨gs, 1, none⟩ = some (.int .i64 (S.g.cols : Nat)) := (HSs3.out.below hw3 HSs3.out.lt).c1
                    have k2 : w3.cell? ⟨gs, 2, none⟩ = some (.slice A1 (S.g.rows * S.g.cols) c1) := (HSs3.out.below hw3 HSs3.out.lt).c2
                    go_upto_region 19 with fail
                    go_cut [] from 90 to 115 (fun wx => Box wx gB 56 #[.int .i32 (PG.rn D1), .int .i64 (PG.kd D1), .int .i64 (PG.pn D1).1, .int .i64 (PG.pn D1).2.1, .int .i64 (PG.pn D1).2.2] ∧ Box wx gA 56 #[.int .i32 (PG.rn bl), .int .i64 (PG.kd bl), .int .i64 (PG.pn bl).1, .int .i64 (PG.pn bl).2.1, .int .i64 (PG.pn bl).2.2] ∧ Box wx g11 56 #[.int .i32 (PG.rn bl), .int .i64 (PG.kd bl), .int .i64 (PG.pn bl).1, .int .i64 (PG.pn bl).2.1, .int .i64 (PG.pn bl).2.2] ∧ Box wx g13 56 #[.int .i32 (PG.rn D1), .int .i64 (PG.kd D1), .int .i64 (PG.pn D1).1, .int .i64 (PG.pn D1).2.1, .int .i64 (PG.pn D1).2.2] ∧ Below w0.heap.size w0 wx)
                    case first =>
                      go_wp2_with fail
                      refine (Ud_ _ (HGs5.out.low hw3)).mono ?_
                      rintro e wg ⟨rfl, bwg⟩
                      clear Ud_
                      have x1d := hB2.below bwg hB2.lt
                      have x2d := hA2.below bwg hA2.lt
                      have x3d := bu4.below bwg bu4.lt
                      have x4d := bd4.below bwg bd4.lt
                      have x5d := hw3.trans (bwg.mono hw3.size)
                      have a0 : wg.cell? ⟨gB, 0, none⟩ = some (.int .i32 (PG.rn bl)) := x1d.cell 0
                      have a1 : wg.cell? ⟨gB, 1, none⟩ = some (.int .i64 (PG.kd bl)) := x1d.cell 1
                      have a2 : wg.cell? ⟨gB, 2, none⟩ = some (.int .i64 (PG.pn bl).1) := x1d.cell 2
                      have a3 : wg.cell? ⟨gB, 3, none⟩ = some (.int .i64 (PG.pn bl).2.1) := x1d.cell 3
                      have a4 : wg.cell? ⟨gB, 4, none⟩ = some (.int .i64 (PG.pn bl).2.2) := x1d.cell 4
                      have za0 := x1d.frozen 0
                      have za1 := x1d.frozen 1
                      have za2 := x1d.frozen 2
                      have za3 := x1d.frozen 3
                      have za4 := x1d.frozen 4
                      clear k0 k1 k2 q6 q7 hB2 hA2 bu4 bd4
                      go_wp2_with fail
                      have y1d : Box (((((wg.setCell ⟨gB, 0, none⟩ (.int .i32 (PG.rn D1))).setCell ⟨gB, 1, none⟩ (.int .i64 (PG.kd D1))).setCell ⟨gB, 2, none⟩ (.int .i64 (PG.pn D1).1)).setCell ⟨gB, 3, none⟩ (.int .i64 (PG.pn D1).2.1)).setCell ⟨gB, 4, none⟩ (.int .i64 (PG.pn D1).2.2)) gB 56 #[.int .i32 (PG.rn D1), .int .i64 (PG.kd D1), .int .i64 (PG.pn D1).1, .int .i64 (PG.pn D1).2.1, .int .i64 (PG.pn D1).2.2] := (((((x1d.set 0 (.int .i32 (PG.rn D1))).set 1 (.int .i64 (PG.kd D1))).set 2 (.int .i64 (PG.pn D1).1)).set 3 (.int .i64 (PG.pn D1).2.1)).set 4 (.int .i64 (PG.pn D1).2.2))
                      have y2d : Box (((((wg.setCell ⟨gB, 0, none⟩ (.int .i32 (PG.rn D1))).setCell ⟨gB, 1, none⟩ (.int .i64 (PG.kd D1))).setCell ⟨gB, 2, none⟩ (.int .i64 (PG.pn D1).1)).setCell ⟨gB, 3, none⟩ (.int .i64 (PG.pn D1).2.1)).setCell ⟨gB, 4, none⟩ (.int .i64 (PG.pn D1).2.2)) gA 56 #[.int .i32 (PG.rn bl), .int .i64 (PG.kd bl), .int .i64 (PG.pn bl).1, .int .i64 (PG.pn bl).2.1, .int .i64 (PG.pn bl).2.2] := (((((x2d.far (p := ⟨gB, 0, none⟩) nab (.int .i32 (PG.rn D1))).far (p := ⟨gB, 1, none⟩) nab (.int .i64 (PG.kd D1))).far (p := ⟨gB, 2, none⟩) nab (.int .i64 (PG.pn D1).1)).far (p := ⟨gB, 3, none⟩) nab (.int .i64 (PG.pn D1).2.1)).far (p := ⟨gB, 4, none⟩) nab (.int .i64 (PG.pn D1).2.2))
                      have y3d : Box (((((wg.setCell ⟨gB, 0, none⟩ (.int .i32 (PG.rn D1))).setCell ⟨gB, 1, none⟩ (.int .i64 (PG.kd D1))).setCell ⟨gB, 2, none⟩ (.int .i64 (PG.pn D1).1)).setCell ⟨gB, 3, none⟩ (.int .i64 (PG.pn D1).2.1)).setCell ⟨gB, 4, none⟩ (.int .i64 (PG.pn D1).2.2)) g11 56 #[.int .i32 (PG.rn bl), .int .i64 (PG.kd bl), .int .i64 (PG.pn bl).1, .int .i64 (PG.pn bl).2.1, .int .i64 (PG.pn bl).2.2] := (((((x3d.far (p := ⟨gB, 0, none⟩) nB11 (.int .i32 (PG.rn D1))).far (p := ⟨gB, 1, none⟩) nB11 (.int .i64 (PG.kd D1))).far (p := ⟨gB, 2, none⟩) nB11 (.int .i64 (PG.pn D1).1)).far (p := ⟨gB, 3, none⟩) nB11 (.int .i64 (PG.pn D1).2.1)).far (p := ⟨gB, 4, none⟩) nB11 (.int .i64 (PG.pn D1).2.2))
                      have y4d : Box (((((wg.setCell ⟨gB, 0, none⟩ (.int .i32 (PG.rn D1))).setCell ⟨gB, 1, none⟩ (.int .i64 (PG.kd D1))).setCell ⟨gB, 2, none⟩ (.int .i64 (PG.pn D1).1)).setCell ⟨gB, 3, none⟩ (.int .i64 (PG.pn D1).2.1)).setCell ⟨gB, 4, none⟩ (.int .i64 (PG.pn D1).2.2)) g13 56 #[.int .i32 (PG.rn D1), .int .i64 (PG.kd D1), .int .i64 (PG.pn D1).1, .int .i64 (PG.pn D1).2.1, .int .i64 (PG.pn D1).2.2] := (((((x4d.far (p := ⟨gB, 0, none⟩) nB13 (.int .i32 (PG.rn D1))).far (p := ⟨gB, 1, none⟩) nB13 (.int .i64 (PG.kd D1))).far (p := ⟨gB, 2, none⟩) nB13 (.int .i64 (PG.pn D1).1)).far (p := ⟨gB, 3, none⟩) nB13 (.int .i64 (PG.pn D1).2.1)).far (p := ⟨gB, 4, none⟩) nB13 (.int .i64 (PG.pn D1).2.2))
                      have y5d : Below w0.heap.size w0 (((((wg.setCell ⟨gB, 0, none⟩ (.int .i32 (PG.rn D1))).setCell ⟨gB, 1, none⟩ (.int .i64 (PG.kd D1))).setCell ⟨gB, 2, none⟩ (.int .i64 (PG.pn D1).1)).setCell ⟨gB, 3, none⟩ (.int .i64 (PG.pn D1).2.1)).setCell ⟨gB, 4, none⟩ (.int .i64 (PG.pn D1).2.2)) := (((((x5d.setCell (p := ⟨gB, 0, none⟩) lB (.int .i32 (PG.rn D1))).setCell (p := ⟨gB, 1, none⟩) lB (.int .i64 (PG.kd D1))).setCell (p := ⟨gB, 2, none⟩) lB (.int .i64 (PG.pn D1).1)).setCell (p := ⟨gB, 3, none⟩) lB (.int .i64 (PG.pn D1).2.1)).setCell (p := ⟨gB, 4, none⟩) lB (.int .i64 (PG.pn D1).2.2))
                      go_meet
                      exact ⟨y1d, y2d, y3d, y4d, y5d⟩
                    case rest =>
                      clear k0 k1 k2 q6 q7 hB2 hA2 bu4 bd4 hw3 Ud_
                      obtain ⟨y1d, y2d, y3d, y4d, y5d⟩ := hcut
                      rename World => wg2
                      have q6 : wg2.cell? ⟨gs, 6, none⟩ = some (.int .i64 (S.top : Nat)) := (HSs3.out.below y5d HSs3.out.lt).c6
                      have q7 : wg2.cell? ⟨gs, 7, none⟩ = some (.int .i64 (S.bot : Nat)) := (HSs3.out.below y5d HSs3.out.lt).c7
                      have u0 : wg2.cell? ⟨g11, 0, none⟩ = some (.int .i32 (PG.rn bl)) := y3d.cell 0
                      have u1 : wg2.cell? ⟨g11, 1, none⟩ = some (.int .i64 (PG.kd bl)) := y3d.cell 1
                      have u2 : wg2.cell? ⟨g11, 2, none⟩ = some (.int .i64 (PG.pn bl).1) := y3d.cell 2
                      have u3 : wg2.cell? ⟨g11, 3, none⟩ = some (.int .i64 (PG.pn bl).2.1) := y3d.cell 3
                      have u4 : wg2.cell? ⟨g11, 4, none⟩ = some (.int .i64 (PG.pn bl).2.2) := y3d.cell 4
                      have d0 : wg2.cell? ⟨g13, 0, none⟩ = some (.int .i32 (PG.rn D1)) := y4d.cell 0
                      have d1 : wg2.cell? ⟨g13, 1, none⟩ = some (.int .i64 (PG.kd D1)) := y4d.cell 1
                      have d2 : wg2.cell? ⟨g13, 2, none⟩ = some (.int .i64 (PG.pn D1).1) := y4d.cell 2
                      have d3 : wg2.cell? ⟨g13, 3, none⟩ = some (.int .i64 (PG.pn D1).2.1) := y4d.cell 3
                      have d4 : wg2.cell? ⟨g13, 4, none⟩ = some (.int .i64 (PG.pn D1).2.2) := y4d.cell 4
                      have a0 : wg2.cell? ⟨gA, 0, none⟩ = some (.int .i32 (PG.rn bl)) := y2d.cell 0
                      have a1 : wg2.cell? ⟨gA, 1, none⟩ = some (.int .i64 (PG.kd bl)) := y2d.cell 1
                      have a2 : wg2.cell? ⟨gA, 2, none⟩ = some (.int .i64 (PG.pn bl).1) := y2d.cell 2
                      have a3 : wg2.cell? ⟨gA, 3, none⟩ = some (.int .i64 (PG.pn bl).2.1) := y2d.cell 3
                      have a4 : wg2.cell? ⟨gA, 4, none⟩ = some (.int .i64 (PG.pn bl).2.2) := y2d.cell 4
                      have b0 : wg2.cell? ⟨gB, 0, none⟩ = some (.int .i32 (PG.rn D1)) := y1d.cell 0
                      have b1 : wg2.cell? ⟨gB, 1, none⟩ = some (.int .i64 (PG.kd D1)) := y1d.cell 1
                      have b2 : wg2.cell? ⟨gB, 2, none⟩ = some (.int .i64 (PG.pn D1).1) := y1d.cell 2
                      have b3 : wg2.cell? ⟨gB, 3, none⟩ = some (.int .i64 (PG.pn D1).2.1) := y1d.cell 3
                      have b4 : wg2.cell? ⟨gB, 4, none⟩ = some (.int .i64 (PG.pn D1).2.2) := y1d.cell 4
                      have en1 := HEN.out bl
                      have en2 := HEN.out D1
                      go_wp2_with fail
                      go_roundw
                      case rel => exact ⟨x + 1, by omega, by go_num, hide y5d⟩
                      case measure => simp [intOf]; omega
            · as_aux_lemma =>
                obtain ⟨O, hO⟩ : ∃ O, S.g.f y x = O := ⟨_, rfl⟩
                rw [if_pos (by omega), if_neg (by omega), EBL.out] at c1_
                rw [if_pos (by omega), if_neg (by omega), EBL.out] at c2_
                have HE1 := hide c1_
                have HE2 := hide c2_
                have HO := hide hO
                clear c1_ c2_ hO
                go_wp2_with fail
                refine (u_atc RS.out.g (HGs5.out.low hb1) y x hyr hxc HO.out).mono ?_
                rintro e wa ⟨rfl, ba⟩
                go_upto_region 11 with fail
                have hwa2 := (hb1.trans (ba.mono hb1.size)).alloc (hb1.trans (ba.mono hb1.size)).size (.cells #[.int .i32 (PG.rn O), .int .i64 (PG.kd O), .int .i64 (PG.pn O).1, .int .i64 (PG.pn O).2.1, .int .i64 (PG.pn O).2.2] 56)
                have lwa2 : w0.heap.size ≤ wa.heap.size := (hb1.trans (ba.mono hb1.size)).size
                have bg9 := Box.new wa 56 #[.int .i32 (PG.rn O), .int .i64 (PG.kd O), .int .i64 (PG.pn O).1, .int .i64 (PG.pn O).2.1, .int .i64 (PG.pn O).2.2]
                clear ba k0 k1 k2
                generalize wa.alloc (.cells #[.int .i32 (PG.rn O), .int .i64 (PG.kd O), .int .i64 (PG.pn O).1, .int .i64 (PG.pn O).2.1, .int .i64 (PG.pn O).2.2] 56) = wa2 at hwa2 bg9  ⊢
                generalize wa.heap.size = g9 at lwa2 bg9 ⊢
                have k0 : wa2.cell? ⟨gf, 0, none⟩ = some (.int .i64 (F.g.rows : Nat)) := (HSf2.out.below hwa2 HSf2.out.lt).c0
                have k1 : wa2.cell? ⟨gf, 1, none⟩ = some (.int .i64 (F.g.cols : Nat)) := (HSf2.out.below hwa2 HSf2.out.lt).c1
                have k2 : wa2.cell? ⟨gf, 2, none⟩ = some (.slice A3a (F.g.rows * F.g.cols) c3a) := (HSf2.out.below hwa2 HSf2.out.lt).c2
                go_wp2_with fail
                refine (u_atc RF.out.g (HGf2.out.low hwa2) y x hFy hFx HE1.out).mono ?_
                rintro e wb ⟨rfl, bb⟩
                go_upto_region 12 with fail
                have hwb2 := (hwa2.trans (bb.mono hwa2.size)).alloc (hwa2.trans (bb.mono hwa2.size)).size (.cells #[.int .i32 (PG.rn bl), .int .i64 (PG.kd bl), .int .i64 (PG.pn bl).1, .int .i64 (PG.pn bl).2.1, .int .i64 (PG.pn bl).2.2] 56)
                have lwb2 : w0.heap.size ≤ wb.heap.size := (hwa2.trans (bb.mono hwa2.size)).size
                have bg11 := Box.new wb 56 #[.int .i32 (PG.rn bl), .int .i64 (PG.kd bl), .int .i64 (PG.pn bl).1, .int .i64 (PG.pn bl).2.1, .int .i64 (PG.pn bl).2.2]
                have bo2 := (bg9.below bb bg9.lt).alloc (.cells #[.int .i32 (PG.rn bl), .int .i64 (PG.kd bl), .int .i64 (PG.pn bl).1, .int .i64 (PG.pn bl).2.1, .int .i64 (PG.pn bl).2.2] 56)
                clear bg9
                clear bb k0 k1 k2
                generalize wb.alloc (.cells #[.int .i32 (PG.rn bl), .int .i64 (PG.kd bl), .int .i64 (PG.pn bl).1, .int .i64 (PG.pn bl).2.1, .int .i64 (PG.pn bl).2.2] 56) = wb2 at hwb2 bg11 bo2 ⊢
                generalize wb.heap.size = g11 at lwb2 bg11 ⊢
                have k0 : wb2.cell? ⟨gb, 0, none⟩ = some (.int .i64 (B.g.rows : Nat)) := (HSb2.out.below hwb2 HSb2.out.lt).c0
                have k1 : wb2.cell? ⟨gb, 1, none⟩ = some (.int .i64 (B.g.cols : Nat)) := (HSb2.out.below hwb2 HSb2.out.lt).c1
                have k2 : wb2.cell? ⟨gb, 2, none⟩ = some (.slice A3b (B.g.rows * B.g.cols) c3b) := (HSb2.out.below hwb2 HSb2.out.lt).c2
                go_wp2_with fail
                refine (u_atc RB.out.g (HGb2.out.low hwb2) y x hBy hBx HE2.out).mono ?_
                rintro e wd ⟨rfl, bd⟩
                go_upto_region 13 with fail
                have hwd2 := (hwb2.trans (bd.mono hwb2.size)).alloc (hwb2.trans (bd.mono hwb2.size)).size (.cells #[.int .i32 (PG.rn bl), .int .i64 (PG.kd bl), .int .i64 (PG.pn bl).1, .int .i64 (PG.pn bl).2.1, .int .i64 (PG.pn bl).2.2] 56)
                have lwd2 : w0.heap.size ≤ wd.heap.size := (hwb2.trans (bd.mono hwb2.size)).size
                have bg13 := Box.new wd 56 #[.int .i32 (PG.rn bl), .int .i64 (PG.kd bl), .int .i64 (PG.pn bl).1, .int .i64 (PG.pn bl).2.1, .int .i64 (PG.pn bl).2.2]
                have bo3 := (bo2.below bd bo2.lt).alloc (.cells #[.int .i32 (PG.rn bl), .int .i64 (PG.kd bl), .int .i64 (PG.pn bl).1, .int .i64 (PG.pn bl).2.1, .int .i64 (PG.pn bl).2.2] 56)
                clear bo2
                have bu2 := (bg11.below bd bg11.lt).alloc (.cells #[.int .i32 (PG.rn bl), .int .i64 (PG.kd bl), .int .i64 (PG.pn bl).1, .int .i64 (PG.pn bl).2.1, .int .i64 (PG.pn bl).2.2] 56)
                clear bg11
                clear bd k0 k1 k2
                generalize wd.alloc (.cells #[.int .i32 (PG.rn bl), .int .i64 (PG.kd bl), .int .i64 (PG.pn bl).1, .int .i64 (PG.pn bl).2.1, .int .i64 (PG.pn bl).2.2] 56) = wd2 at hwd2 bg13 bo3 bu2 ⊢
                generalize wd.heap.size = g13 at lwd2 bg13 ⊢
                go_cut [15, 16] from 76 to 77 (fun ua ub wx => ∃ gA gB, ua = .pointer (some ⟨gA, 0, none⟩) ∧ ub = .pointer (some ⟨gB, 0, none⟩) ∧ (wd2.heap.size ≤ gA ∧ wd2.heap.size ≤ gB ∧ gA ≠ gB) ∧ Box wx gA 56 #[.int .i32 (PG.rn O), .int .i64 (PG.kd O), .int .i64 (PG.pn O).1, .int .i64 (PG.pn O).2.1, .int .i64 (PG.pn O).2.2] ∧ Box wx gB 56 #[.int .i32 (PG.rn O), .int .i64 (PG.kd O), .int .i64 (PG.pn O).1, .int .i64 (PG.pn O).2.1, .int .i64 (PG.pn O).2.2] ∧ Below wd2.heap.size wd2 wx)
                case first =>
                  refine wp_region_gj (n := 146) [] (fun _ => #[]) [(0, 0, 0, 0, 0), (0, 0, 0, 0, 0), (2, 0, 0, 56, 5), (2, 0, 0, 56, 5), (3, 2, 0, 56, 5), (3, 3, 1, 56, 5)] (fun j => [(.agg #[.int .i32 (PG.rn O), .int .i64 (PG.kd O), .int .i64 (PG.pn O).1, .int .i64 (PG.pn O).2.1, .int .i64 (PG.pn O).2.2]), (.agg #[.int .i32 (PG.rn O), .int .i64 (PG.kd O), .int .i64 (PG.pn O).1, .int .i64 (PG.pn O).2.1, .int .i64 (PG.pn O).2.2]), undef, undef, undef, undef].getD j undef) [] (fun _ => 0) (by kernel_rfl) (by kernel_rfl) (by kernel_rfl) rfl (by kernel_rfl) (gno4 rfl) (fun i j h => by revert h; exact gno4 (p := fun _ => _) rfl i) (AllG.nil _) (fun hGS => cases6 ⟨?_, ?_, ?_, ?_, ?_, ?_⟩) ?_
                  · intro L a w' hL hsame hsz hJ hdep hcl
                    have hb := hJ.kept.toBelow (Nat.le_refl _) (by simp)
                    have e0 : a.eval (.tmp 9) = (.pointer (some ⟨g9, 0, none⟩)) := eval_base hsame (by kernel_rfl)
                    have hx := hJ.keptBox (bo3) (by simp)
                    have q0 : w'.cell? ⟨g9, 0, none⟩ = some (.int .i32 (PG.rn O)) := hx.cell 0
                    have q1 : w'.cell? ⟨g9, 1, none⟩ = some (.int .i64 (PG.kd O)) := hx.cell 1
                    have q2 : w'.cell? ⟨g9, 2, none⟩ = some (.int .i64 (PG.pn O).1) := hx.cell 2
                    have q3 : w'.cell? ⟨g9, 3, none⟩ = some (.int .i64 (PG.pn O).2.1) := hx.cell 3
                    have q4 : w'.cell? ⟨g9, 4, none⟩ = some (.int .i64 (PG.pn O).2.2) := hx.cell 4
                    refine Step.val _ rfl rfl (wanted_none rfl) (.agg #[.int .i32 (PG.rn O), .int .i64 (PG.kd O), .int .i64 (PG.pn O).1, .int .i64 (PG.pn O).2.1, .int .i64 (PG.pn O).2.2]) w' (fun ρ hρ => ?_) (hJ.val hGS hcl hL rfl (Below.refl _ _) _ rfl)
                    clear hx
                    rw [hρ] at e0
                    clear hJ hsame hdep hcl hρ hsz hb
                    go_simp
                  · intro L a w' hL hsame hsz hJ hdep hcl
                    have hb := hJ.kept.toBelow (Nat.le_refl _) (by simp)
                    have e0 : a.eval (.tmp 9) = (.pointer (some ⟨g9, 0, none⟩)) := eval_base hsame (by kernel_rfl)
                    have hx := hJ.keptBox (bo3) (by simp)
                    have q0 : w'.cell? ⟨g9, 0, none⟩ = some (.int .i32 (PG.rn O)) := hx.cell 0
                    have q1 : w'.cell? ⟨g9, 1, none⟩ = some (.int .i64 (PG.kd O)) := hx.cell 1
                    have q2 : w'.cell? ⟨g9, 2, none⟩ = some (.int .i64 (PG.pn O).1) := hx.cell 2
                    have q3 : w'.cell? ⟨g9, 3, none⟩ = some (.int .i64 (PG.pn O).2.1) := hx.cell 3
                    have q4 : w'.cell? ⟨g9, 4, none⟩ = some (.int .i64 (PG.pn O).2.2) := hx.cell 4
                    refine Step.val _ rfl rfl (wanted_none rfl) (.agg #[.int .i32 (PG.rn O), .int .i64 (PG.kd O), .int .i64 (PG.pn O).1, .int .i64 (PG.pn O).2.1, .int .i64 (PG.pn O).2.2]) w' (fun ρ hρ => ?_) (hJ.val hGS hcl hL rfl (Below.refl _ _) _ rfl)
                    clear hx
                    rw [hρ] at e0
                    clear hJ hsame hdep hcl hρ hsz hb
                    go_simp
                  · intro L a w' hL hsame hsz hJ hdep hcl
                    have hb := hJ.kept.toBelow (Nat.le_refl _) (by simp)
                    refine Step.val _ rfl rfl (wanted_none rfl) (.pointer (some ⟨w'.heap.size, 0, none⟩)) (w'.alloc (.cells #[.int .i32 0, .int .i64 0, .int .i64 0, .int .i64 0, .int .i64 0] 56)) (fun ρ hρ => ?_) (hJ.box hGS hcl hL rfl 56 rfl #[.int .i32 0, .int .i64 0, .int .i64 0, .int .i64 0, .int .i64 0] rfl)
                    clear hJ hsame hdep hcl hρ hsz hb
                    go_simp
                  · intro L a w' hL hsame hsz hJ hdep hcl
                    have hb := hJ.kept.toBelow (Nat.le_refl _) (by simp)
                    refine Step.val _ rfl rfl (wanted_none rfl) (.pointer (some ⟨w'.heap.size, 0, none⟩)) (w'.alloc (.cells #[.int .i32 0, .int .i64 0, .int .i64 0, .int .i64 0, .int .i64 0] 56)) (fun ρ hρ => ?_) (hJ.box hGS hcl hL rfl 56 rfl #[.int .i32 0, .int .i64 0, .int .i64 0, .int .i64 0, .int .i64 0] rfl)
                    clear hJ hsame hdep hcl hρ hsz hb
                    go_simp
                  · intro L a w' hL hsame hsz hJ hdep hcl
                    have hb := hJ.kept.toBelow (Nat.le_refl _) (by simp)
                    have hsv := hJ.valOf (j := 0) (by decide) (dep_of hdep 0 (by kernel_rfl)) rfl rfl
                    have es : a.eval (.tmp 76) = (.agg #[.int .i32 (PG.rn O), .int .i64 (PG.kd O), .int .i64 (PG.pn O).1, .int .i64 (PG.pn O).2.1, .int .i64 (PG.pn O).2.2]) := eval_slot (j := 0) (by kernel_rfl) hsv
                    have la := dep_of hdep 2 (by kernel_rfl)
                    obtain ⟨g, cs, hg, hg0, hx, hs⟩ := hJ.boxOf (j := 2) (by decide) la rfl
                    have ea : a.eval (.tmp 15) = .pointer (some ⟨g, 0, none⟩) := eval_slot (j := 2) (by kernel_rfl) hg
                    obtain ⟨m0, hm0⟩ : ∃ m, w'.cell? ⟨g, 0, none⟩ = some m := ⟨_, (hx.cell 0).trans (Array.getElem?_eq_getElem (by rw [hs]; decide))⟩
                    have hf0 := hx.frozen 0
                    obtain ⟨m1, hm1⟩ : ∃ m, w'.cell? ⟨g, 1, none⟩ = some m := ⟨_, (hx.cell 1).trans (Array.getElem?_eq_getElem (by rw [hs]; decide))⟩
                    have hf1 := hx.frozen 1
                    obtain ⟨m2, hm2⟩ : ∃ m, w'.cell? ⟨g, 2, none⟩ = some m := ⟨_, (hx.cell 2).trans (Array.getElem?_eq_getElem (by rw [hs]; decide))⟩
                    have hf2 := hx.frozen 2
                    obtain ⟨m3, hm3⟩ : ∃ m, w'.cell? ⟨g, 3, none⟩ = some m := ⟨_, (hx.cell 3).trans (Array.getElem?_eq_getElem (by rw [hs]; decide))⟩
                    have hf3 := hx.frozen 3
                    obtain ⟨m4, hm4⟩ : ∃ m, w'.cell? ⟨g, 4, none⟩ = some m := ⟨_, (hx.cell 4).trans (Array.getElem?_eq_getElem (by rw [hs]; decide))⟩
                    have hf4 := hx.frozen 4
                    refine Step.skip _ rfl (wanted_none rfl) (setL w' g 0 [.int .i32 (PG.rn O), .int .i64 (PG.kd O), .int .i64 (PG.pn O).1, .int .i64 (PG.pn O).2.1, .int .i64 (PG.pn O).2.2]) (fun ρ hρ => ?_) (hJ.put hGS hcl hL rfl la (dep_of hdep 0 (by kernel_rfl)) hg rfl hsv)
                    rw [hρ] at es ea
                    clear hJ hsame hdep hcl hρ hsz hb hsv hx hs hg
                    simp only [setL]
                    go_simp
                  · intro L a w' hL hsame hsz hJ hdep hcl
                    have hb := hJ.kept.toBelow (Nat.le_refl _) (by simp)
                    have hsv := hJ.valOf (j := 1) (by decide) (dep_of hdep 1 (by kernel_rfl)) rfl rfl
                    have es : a.eval (.tmp 77) = (.agg #[.int .i32 (PG.rn O), .int .i64 (PG.kd O), .int .i64 (PG.pn O).1, .int .i64 (PG.pn O).2.1, .int .i64 (PG.pn O).2.2]) := eval_slot (j := 1) (by kernel_rfl) hsv
                    have la := dep_of hdep 3 (by kernel_rfl)
                    obtain ⟨g, cs, hg, hg0, hx, hs⟩ := hJ.boxOf (j := 3) (by decide) la rfl
                    have ea : a.eval (.tmp 16) = .pointer (some ⟨g, 0, none⟩) := eval_slot (j := 3) (by kernel_rfl) hg
                    obtain ⟨m0, hm0⟩ : ∃ m, w'.cell? ⟨g, 0, none⟩ = some m := ⟨_, (hx.cell 0).trans (Array.getElem?_eq_getElem (by rw [hs]; decide))⟩
                    have hf0 := hx.frozen 0
                    obtain ⟨m1, hm1⟩ : ∃ m, w'.cell? ⟨g, 1, none⟩ = some m := ⟨_, (hx.cell 1).trans (Array.getElem?_eq_getElem (by rw [hs]; decide))⟩
                    have hf1 := hx.frozen 1
                    obtain ⟨m2, hm2⟩ : ∃ m, w'.cell? ⟨g, 2, none⟩ = some m := ⟨_, (hx.cell 2).trans (Array.getElem?_eq_getElem (by rw [hs]; decide))⟩
                    have hf2 := hx.frozen 2
                    obtain ⟨m3, hm3⟩ : ∃ m, w'.cell? ⟨g, 3, none⟩ = some m := ⟨_, (hx.cell 3).trans (Array.getElem?_eq_getElem (by rw [hs]; decide))⟩
                    have hf3 := hx.frozen 3
                    obtain ⟨m4, hm4⟩ : ∃ m, w'.cell? ⟨g, 4, none⟩ = some m := ⟨_, (hx.cell 4).trans (Array.getElem?_eq_getElem (by rw [hs]; decide))⟩
                    have hf4 := hx.frozen 4
                    refine Step.skip _ rfl (wanted_none rfl) (setL w' g 0 [.int .i32 (PG.rn O), .int .i64 (PG.kd O), .int .i64 (PG.pn O).1, .int .i64 (PG.pn O).2.1, .int .i64 (PG.pn O).2.2]) (fun ρ hρ => ?_) (hJ.put hGS hcl hL rfl la (dep_of hdep 1 (by kernel_rfl)) hg rfl hsv)
                    rw [hρ] at es ea
                    clear hJ hsame hdep hcl hρ hsz hb hsv hx hs hg
                    simp only [setL]
                    go_simp
                  · intro u w' hF
                    change Exit.then _ _ Exit.normal (Act.put (Act.put (Act.put (Act.put (Act.put (Act.put (putAll _ u 0 _) (some 76) (u 0)) (some 77) (u 1)) (some 15) (u 2)) (some 16) (u 3)) none (u 4)) none (u 5)) _
                    simp only [putAll]
                    obtain ⟨gA, ha, la, hA⟩ := hF.fin3 (j := 4) (a := 2) (v := 0) (by decide) rfl rfl rfl (by decide) rfl (by decide) rfl (cs := #[.int .i32 (PG.rn O), .int .i64 (PG.kd O), .int .i64 (PG.pn O).1, .int .i64 (PG.pn O).2.1, .int .i64 (PG.pn O).2.2]) rfl
                    obtain ⟨gB, hbb, lb, hB⟩ := hF.fin3 (j := 5) (a := 3) (v := 1) (by decide) rfl rfl rfl (by decide) rfl (by decide) rfl (cs := #[.int .i32 (PG.rn O), .int .i64 (PG.kd O), .int .i64 (PG.pn O).1, .int .i64 (PG.pn O).2.1, .int .i64 (PG.pn O).2.2]) rfl
                    have nab := hF.dist 2 3 rfl rfl rfl rfl (by decide)
                    have hk := hF.kept.toBelow (Nat.le_refl _) (by simp)
                    clear hF
                    generalize u 0 = y0
                    generalize u 1 = y1
                    generalize u 2 = y2 at ha nab ⊢
                    generalize u 3 = y3 at hbb nab ⊢
                    generalize u 4 = y4
                    generalize u 5 = y5
                    subst ha hbb
                    have m1 : gA ≠ gB := fun e => nab (by rw [e])
                    clear nab
                    go_simp
                    go_step
                    go_meet
                    exact ⟨gA, gB, rfl, rfl, ⟨la, lb, m1⟩, hA, hB, hk⟩
                case rest =>
                  obtain ⟨gA, gB, rfl, rfl, ⟨la, lb, nab⟩, hA, hB, hbe⟩ := hcut
                  rename World => we
                  have hwe := hwd2.trans (hbe.mono hwd2.size)
                  have bu3 := bu2.below hbe bu2.lt
                  have bd3 := bg13.below hbe bg13.lt
                  have nA11 : g11 ≠ gA := by have := bu2.lt; omega
                  have nB11 : g11 ≠ gB := by have := bu2.lt; omega
                  have nA13 : g13 ≠ gA := by have := bg13.lt; omega
                  have nB13 : g13 ≠ gB := by have := bg13.lt; omega
                  have l2 := hwd2.size
                  have lA : w0.heap.size ≤ gA := by omega
                  have lB : w0.heap.size ≤ gB := by omega
                  clear bu2 bg13 bo3 hbe la lb hwd2 hwb2 hwa2 lwd2 lwb2 lwa2
                  have q6 : we.cell? ⟨gs, 6, none⟩ = some (.int .i64 (S.top : Nat)) := (HSs3.out.below hwe HSs3.out.lt).c6
                  have q7 : we.cell? ⟨gs, 7, none⟩ = some (.int .i64 (S.bot : Nat)) := (HSs3.out.below hwe HSs3.out.lt).c7
                  go_upto_region 15 with fail
                  have ncA : gc ≠ gA := by have := HC.out.lt; omega
                  have ncB : gc ≠ gB := by have := HC.out.lt; omega
                  have hcb := HC.out.below hwe HC.out.lt
                  have c0 : we.cell? ⟨gc, 0, none⟩ = some (.int .i32 (PG.rn bl)) := hcb.cell 0
                  have c1 : we.cell? ⟨gc, 1, none⟩ = some (.int .i64 (PG.kd bl)) := hcb.cell 1
                  have c2 : we.cell? ⟨gc, 2, none⟩ = some (.int .i64 (PG.pn bl).1) := hcb.cell 2
                  have c3 : we.cell? ⟨gc, 3, none⟩ = some (.int .i64 (PG.pn bl).2.1) := hcb.cell 3
                  have c4 : we.cell? ⟨gc, 4, none⟩ = some (.int .i64 (PG.pn bl).2.2) := hcb.cell 4
                  have a0 : we.cell? ⟨gA, 0, none⟩ = some (.int .i32 (PG.rn O)) := hA.cell 0
                  have a1 : we.cell? ⟨gA, 1, none⟩ = some (.int .i64 (PG.kd O)) := hA.cell 1
                  have a2 : we.cell? ⟨gA, 2, none⟩ = some (.int .i64 (PG.pn O).1) := hA.cell 2
                  have a3 : we.cell? ⟨gA, 3, none⟩ = some (.int .i64 (PG.pn O).2.1) := hA.cell 3
                  have a4 : we.cell? ⟨gA, 4, none⟩ = some (.int .i64 (PG.pn O).2.2) := hA.cell 4
                  have b0 : we.cell? ⟨gB, 0, none⟩ = some (.int .i32 (PG.rn O)) := hB.cell 0
                  have b1 : we.cell? ⟨gB, 1, none⟩ = some (.int .i64 (PG.kd O)) := hB.cell 1
                  have b2 : we.cell? ⟨gB, 2, none⟩ = some (.int .i64 (PG.pn O).1) := hB.cell 2
                  have b3 : we.cell? ⟨gB, 3, none⟩ = some (.int .i64 (PG.pn O).2.1) := hB.cell 3
                  have b4 : we.cell? ⟨gB, 4, none⟩ = some (.int .i64 (PG.pn O).2.2) := hB.cell 4
                  have za0 := hA.frozen 0
                  have za1 := hA.frozen 1
                  have za2 := hA.frozen 2
                  have za3 := hA.frozen 3
                  have za4 := hA.frozen 4
                  have zb0 := hB.frozen 0
                  have zb1 := hB.frozen 1
                  have zb2 := hB.frozen 2
                  have zb3 := hB.frozen 3
                  have zb4 := hB.frozen 4
                  go_cut [] from 78 to 90 (fun wx => Box wx gA 56 #[.int .i32 (PG.rn bl), .int .i64 (PG.kd bl), .int .i64 (PG.pn bl).1, .int .i64 (PG.pn bl).2.1, .int .i64 (PG.pn bl).2.2] ∧ Box wx gB 56 #[.int .i32 (PG.rn bl), .int .i64 (PG.kd bl), .int .i64 (PG.pn bl).1, .int .i64 (PG.pn bl).2.1, .int .i64 (PG.pn bl).2.2] ∧ Box wx g11 56 #[.int .i32 (PG.rn bl), .int .i64 (PG.kd bl), .int .i64 (PG.pn bl).1, .int .i64 (PG.pn bl).2.1, .int .i64 (PG.pn bl).2.2] ∧ Box wx g13 56 #[.int .i32 (PG.rn bl), .int .i64 (PG.kd bl), .int .i64 (PG.pn bl).1, .int .i64 (PG.pn bl).2.1, .int .i64 (PG.pn bl).2.2] ∧ Below w0.heap.size w0 wx)
                  case first =>
                    refine wp_region_gj (n := 146) [some gA, some gB] (fun j => cond (Nat.beq j 2) #[.int .i32 (PG.rn O), .int .i64 (PG.kd O), .int .i64 (PG.pn O).1, .int .i64 (PG.pn O).2.1, .int .i64 (PG.pn O).2.2] #[.int .i32 (PG.rn O), .int .i64 (PG.kd O), .int .i64 (PG.pn O).1, .int .i64 (PG.pn O).2.1, .int .i64 (PG.pn O).2.2]) [(0, 0, 0, 0, 0), (0, 0, 0, 0, 0), (4, 0, 0, 56, 5), (4, 0, 1, 56, 5)] (fun j => [(.agg #[.int .i32 (PG.rn bl), .int .i64 (PG.kd bl), .int .i64 (PG.pn bl).1, .int .i64 (PG.pn bl).2.1, .int .i64 (PG.pn bl).2.2]), (.agg #[.int .i32 (PG.rn bl), .int .i64 (PG.kd bl), .int .i64 (PG.pn bl).1, .int .i64 (PG.pn bl).2.1, .int .i64 (PG.pn bl).2.2]), undef, undef].getD j undef) [] (fun j => cond (Nat.beq j 2) gA gB) (by kernel_rfl) (by kernel_rfl) (by kernel_rfl) rfl (by kernel_rfl) (gonly4b (k := 2) (l := 3) rfl ⟨List.Mem.head _, rfl, hA⟩ ⟨List.Mem.tail _ (List.Mem.head _), rfl, hB⟩) (gonly44b (k := 2) (l := 3) rfl nab (Ne.symm nab)) (AllG.nil _) (fun hGS => cases4 ⟨?_, ?_, ?_, ?_⟩) ?_
                    · intro L a w' hL hsame hsz hJ hdep hcl
                      have hb := trivial
                      have e0 : a.eval (.tmp 6) = (.pointer (some ⟨gc, 0, none⟩)) := eval_base hsame (by kernel_rfl)
                      have hx := hJ.keptBox (hcb) (by simp; exact ⟨ncA, ncB⟩)
                      have q0 : w'.cell? ⟨gc, 0, none⟩ = some (.int .i32 (PG.rn bl)) := hx.cell 0
                      have q1 : w'.cell? ⟨gc, 1, none⟩ = some (.int .i64 (PG.kd bl)) := hx.cell 1
                      have q2 : w'.cell? ⟨gc, 2, none⟩ = some (.int .i64 (PG.pn bl).1) := hx.cell 2
                      have q3 : w'.cell? ⟨gc, 3, none⟩ = some (.int .i64 (PG.pn bl).2.1) := hx.cell 3
                      have q4 : w'.cell? ⟨gc, 4, none⟩ = some (.int .i64 (PG.pn bl).2.2) := hx.cell 4
                      refine Step.val _ rfl rfl (wanted_none rfl) (.agg #[.int .i32 (PG.rn bl), .int .i64 (PG.kd bl), .int .i64 (PG.pn bl).1, .int .i64 (PG.pn bl).2.1, .int .i64 (PG.pn bl).2.2]) w' (fun ρ hρ => ?_) (hJ.val hGS hcl hL rfl (Below.refl _ _) _ rfl)
                      clear hx
                      rw [hρ] at e0
                      clear hJ hsame hdep hcl hρ hsz hb
                      go_simp
                    · intro L a w' hL hsame hsz hJ hdep hcl
                      have hb := trivial
                      have e0 : a.eval (.tmp 6) = (.pointer (some ⟨gc, 0, none⟩)) := eval_base hsame (by kernel_rfl)
                      have hx := hJ.keptBox (hcb) (by simp; exact ⟨ncA, ncB⟩)
                      have q0 : w'.cell? ⟨gc, 0, none⟩ = some (.int .i32 (PG.rn bl)) := hx.cell 0
                      have q1 : w'.cell? ⟨gc, 1, none⟩ = some (.int .i64 (PG.kd bl)) := hx.cell 1
                      have q2 : w'.cell? ⟨gc, 2, none⟩ = some (.int .i64 (PG.pn bl).1) := hx.cell 2
                      have q3 : w'.cell? ⟨gc, 3, none⟩ = some (.int .i64 (PG.pn bl).2.1) := hx.cell 3
                      have q4 : w'.cell? ⟨gc, 4, none⟩ = some (.int .i64 (PG.pn bl).2.2) := hx.cell 4
                      refine Step.val _ rfl rfl (wanted_none rfl) (.agg #[.int .i32 (PG.rn bl), .int .i64 (PG.kd bl), .int .i64 (PG.pn bl).1, .int .i64 (PG.pn bl).2.1, .int .i64 (PG.pn bl).2.2]) w' (fun ρ hρ => ?_) (hJ.val hGS hcl hL rfl (Below.refl _ _) _ rfl)
                      clear hx
                      rw [hρ] at e0
                      clear hJ hsame hdep hcl hρ hsz hb
                      go_simp
                    · intro L a w' hL hsame hsz hJ hdep hcl
                      have hb := trivial
                      have hsv := hJ.valOf (j := 0) (by decide) (dep_of hdep 0 (by kernel_rfl)) rfl rfl
                      have es : a.eval (.tmp 88) = (.agg #[.int .i32 (PG.rn bl), .int .i64 (PG.kd bl), .int .i64 (PG.pn bl).1, .int .i64 (PG.pn bl).2.1, .int .i64 (PG.pn bl).2.2]) := eval_slot (j := 0) (by kernel_rfl) hsv
                      have hx : Box w' gA 56 #[.int .i32 (PG.rn O), .int .i64 (PG.kd O), .int .i64 (PG.pn O).1, .int .i64 (PG.pn O).2.1, .int .i64 (PG.pn O).2.2] := hJ.old 2 rfl hL
                      have hs : (#[.int .i32 (PG.rn O), .int .i64 (PG.kd O), .int .i64 (PG.pn O).1, .int .i64 (PG.pn O).2.1, .int .i64 (PG.pn O).2.2] : Array Value).size = 5 := rfl
                      have ea : a.eval (.tmp 15) = .pointer (some ⟨gA, 0, none⟩) := eval_base hsame (by kernel_rfl)
                      obtain ⟨m0, hm0⟩ : ∃ m, w'.cell? ⟨gA, 0, none⟩ = some m := ⟨_, (hx.cell 0).trans (Array.getElem?_eq_getElem (by rw [hs]; decide))⟩
                      have hf0 := hx.frozen 0
                      obtain ⟨m1, hm1⟩ : ∃ m, w'.cell? ⟨gA, 1, none⟩ = some m := ⟨_, (hx.cell 1).trans (Array.getElem?_eq_getElem (by rw [hs]; decide))⟩
                      have hf1 := hx.frozen 1
                      obtain ⟨m2, hm2⟩ : ∃ m, w'.cell? ⟨gA, 2, none⟩ = some m := ⟨_, (hx.cell 2).trans (Array.getElem?_eq_getElem (by rw [hs]; decide))⟩
                      have hf2 := hx.frozen 2
                      obtain ⟨m3, hm3⟩ : ∃ m, w'.cell? ⟨gA, 3, none⟩ = some m := ⟨_, (hx.cell 3).trans (Array.getElem?_eq_getElem (by rw [hs]; decide))⟩
                      have hf3 := hx.frozen 3
                      obtain ⟨m4, hm4⟩ : ∃ m, w'.cell? ⟨gA, 4, none⟩ = some m := ⟨_, (hx.cell 4).trans (Array.getElem?_eq_getElem (by rw [hs]; decide))⟩
                      have hf4 := hx.frozen 4
                      refine Step.skip _ rfl (wanted_none rfl) (setL w' gA 0 [.int .i32 (PG.rn bl), .int .i64 (PG.kd bl), .int .i64 (PG.pn bl).1, .int .i64 (PG.pn bl).2.1, .int .i64 (PG.pn bl).2.2]) (fun ρ hρ => ?_) (hJ.set hGS hcl hL rfl (dep_of hdep 0 (by kernel_rfl)) rfl hsv)
                      rw [hρ] at es ea
                      clear hJ hsame hdep hcl hρ hsz hb hsv hx hs
                      simp only [setL]
                      go_simp
                    · intro L a w' hL hsame hsz hJ hdep hcl
                      have hb := trivial
                      have hsv := hJ.valOf (j := 1) (by decide) (dep_of hdep 1 (by kernel_rfl)) rfl rfl
                      have es : a.eval (.tmp 89) = (.agg #[.int .i32 (PG.rn bl), .int .i64 (PG.kd bl), .int .i64 (PG.pn bl).1, .int .i64 (PG.pn bl).2.1, .int .i64 (PG.pn bl).2.2]) := eval_slot (j := 1) (by kernel_rfl) hsv
                      have hx : Box w' gB 56 #[.int .i32 (PG.rn O), .int .i64 (PG.kd O), .int .i64 (PG.pn O).1, .int .i64 (PG.pn O).2.1, .int .i64 (PG.pn O).2.2] := hJ.old 3 rfl hL
                      have hs : (#[.int .i32 (PG.rn O), .int .i64 (PG.kd O), .int .i64 (PG.pn O).1, .int .i64 (PG.pn O).2.1, .int .i64 (PG.pn O).2.2] : Array Value).size = 5 := rfl
                      have ea : a.eval (.tmp 16) = .pointer (some ⟨gB, 0, none⟩) := eval_base hsame (by kernel_rfl)
                      obtain ⟨m0, hm0⟩ : ∃ m, w'.cell? ⟨gB, 0, none⟩ = some m := ⟨_, (hx.cell 0).trans (Array.getElem?_eq_getElem (by rw [hs]; decide))⟩
                      have hf0 := hx.frozen 0
                      obtain ⟨m1, hm1⟩ : ∃ m, w'.cell? ⟨gB, 1, none⟩ = some m := ⟨_, (hx.cell 1).trans (Array.getElem?_eq_getElem (by rw [hs]; decide))⟩
                      have hf1 := hx.frozen 1
                      obtain ⟨m2, hm2⟩ : ∃ m, w'.cell? ⟨gB, 2, none⟩ = some m := ⟨_, (hx.cell 2).trans (Array.getElem?_eq_getElem (by rw [hs]; decide))⟩
                      have hf2 := hx.frozen 2
                      obtain ⟨m3, hm3⟩ : ∃ m, w'.cell? ⟨gB, 3, none⟩ = some m := ⟨_, (hx.cell 3).trans (Array.getElem?_eq_getElem (by rw [hs]; decide))⟩
                      have hf3 := hx.frozen 3
                      obtain ⟨m4, hm4⟩ : ∃ m, w'.cell? ⟨gB, 4, none⟩ = some m := ⟨_, (hx.cell 4).trans (Array.getElem?_eq_getElem (by rw [hs]; decide))⟩
                      have hf4 := hx.frozen 4
                      refine Step.skip _ rfl (wanted_none rfl) (setL w' gB 0 [.int .i32 (PG.rn bl), .int .i64 (PG.kd bl), .int .i64 (PG.pn bl).1, .int .i64 (PG.pn bl).2.1, .int .i64 (PG.pn bl).2.2]) (fun ρ hρ => ?_) (hJ.set hGS hcl hL rfl (dep_of hdep 1 (by kernel_rfl)) rfl hsv)
                      rw [hρ] at es ea
                      clear hJ hsame hdep hcl hρ hsz hb hsv hx hs
                      simp only [setL]
                      go_simp
                    · intro u w' hF
                      change Exit.then _ _ Exit.normal (Act.put (Act.put (Act.put (Act.put (putAll _ u 0 _) (some 88) (u 0)) (some 89) (u 1)) none (u 2)) none (u 3)) _
                      simp only [putAll]
                      have hA3 : Box w' gA 56 #[.int .i32 (PG.rn bl), .int .i64 (PG.kd bl), .int .i64 (PG.pn bl).1, .int .i64 (PG.pn bl).2.1, .int .i64 (PG.pn bl).2.2] := hF.fin4 (j := 2) (v := 0) (by decide) rfl rfl (by decide) rfl (cs := #[.int .i32 (PG.rn bl), .int .i64 (PG.kd bl), .int .i64 (PG.pn bl).1, .int .i64 (PG.pn bl).2.1, .int .i64 (PG.pn bl).2.2]) rfl
                      have hB3 : Box w' gB 56 #[.int .i32 (PG.rn bl), .int .i64 (PG.kd bl), .int .i64 (PG.pn bl).1, .int .i64 (PG.pn bl).2.1, .int .i64 (PG.pn bl).2.2] := hF.fin4 (j := 3) (v := 1) (by decide) rfl rfl (by decide) rfl (cs := #[.int .i32 (PG.rn bl), .int .i64 (PG.kd bl), .int .i64 (PG.pn bl).1, .int .i64 (PG.pn bl).2.1, .int .i64 (PG.pn bl).2.2]) rfl
                      have hk := hF.kept
                      clear hF
                      generalize u 0 = y0
                      generalize u 1 = y1
                      generalize u 2 = y2
                      generalize u 3 = y3
                      go_simp
                      go_step
                      go_meet
                      exact ⟨hA3, hB3, bu3.kept hk (by simp; exact ⟨nA11, nB11⟩), bd3.kept hk (by simp; exact ⟨nA13, nB13⟩), hwe.trans (hk.toBelow hwe.size (fun k hh => by simp at hh; omega))⟩
                  case rest =>
                    obtain ⟨hA2, hB2, bu4, bd4, hw3⟩ := hcut
                    rename World => w3
                    clear c0 c1 c2 c3 c4 a0 a1 a2 a3 a4 b0 b1 b2 b3 b4 za0 za1 za2 za3 za4 zb0 zb1 zb2 zb3 zb4 hcb q6 q7 hA hB bu3 bd3
                    have q7 : w3.cell? ⟨gs, 7, none⟩ = some (.int .i64 (S.bot : Nat)) := (HSs3.out.below hw3 HSs3.out.lt).c7
                    have q6 : w3.cell? ⟨gs, 6, none⟩ = some (.int .i64 (S.top : Nat)) := (HSs3.out.below hw3 HSs3.out.lt).c6
                    have u0 : w3.cell? ⟨g11, 0, none⟩ = some (.int .i32 (PG.rn bl)) := bu4.cell 0
                    have u1 : w3.cell? ⟨g11, 1, none⟩ = some (.int .i64 (PG.kd bl)) := bu4.cell 1
                    have u2 : w3.cell? ⟨g11, 2, none⟩ = some (.int .i64 (PG.pn bl).1) := bu4.cell 2
                    have u3 : w3.cell? ⟨g11, 3, none⟩ = some (.int .i64 (PG.pn bl).2.1) := bu4.cell 3
                    have u4 : w3.cell? ⟨g11, 4, none⟩ = some (.int .i64 (PG.pn bl).2.2) := bu4.cell 4
                    have d0 : w3.cell? ⟨g13, 0, none⟩ = some (.int .i32 (PG.rn bl)) := bd4.cell 0
                    have d1 : w3.cell? ⟨g13, 1, none⟩ = some (.int .i64 (PG.kd bl)) := bd4.cell 1
                    have d2 : w3.cell? ⟨g13, 2, none⟩ = some (.int .i64 (PG.pn bl).1) := bd4.cell 2
                    have d3 : w3.cell? ⟨g13, 3, none⟩ = some (.int .i64 (PG.pn bl).2.1) := bd4.cell 3
                    have d4 : w3.cell? ⟨g13, 4, none⟩ = some (.int .i64 (PG.pn bl).2.2) := bd4.cell 4
                    have a0 : w3.cell? ⟨gA, 0, none⟩ = some (.int .i32 (PG.rn bl)) := hA2.cell 0
                    have a1 : w3.cell? ⟨gA, 1, none⟩ = some (.int .i64 (PG.kd bl)) := hA2.cell 1
                    have a2 : w3.cell? ⟨gA, 2, none⟩ = some (.int .i64 (PG.pn bl).1) := hA2.cell 2
                    have a3 : w3.cell? ⟨gA, 3, none⟩ = some (.int .i64 (PG.pn bl).2.1) := hA2.cell 3
                    have a4 : w3.cell? ⟨gA, 4, none⟩ = some (.int .i64 (PG.pn bl).2.2) := hA2.cell 4
                    have b0 : w3.cell? ⟨gB, 0, none⟩ = some (.int .i32 (PG.rn bl)) := hB2.cell 0
                    have b1 : w3.cell? ⟨gB, 1, none⟩ = some (.int .i64 (PG.kd bl)) := hB2.cell 1
                    have b2 : w3.cell? ⟨gB, 2, none⟩ = some (.int .i64 (PG.pn bl).1) := hB2.cell 2
                    have b3 : w3.cell? ⟨gB, 3, none⟩ = some (.int .i64 (PG.pn bl).2.1) := hB2.cell 3
                    have b4 : w3.cell? ⟨gB, 4, none⟩ = some (.int .i64 (PG.pn bl).2.2) := hB2.cell 4
                    have en1 := HEN.out bl
                    have en2 := HEN.out bl
                    go_wp2_with fail
                    go_roundw
                    case rel => exact ⟨x + 1, by omega, by go_num, hide hw3⟩
                    case measure => simp [intOf]; omega
          · skip
            go_wp2_with fail
            go_roundw
            case rel => exact ⟨y + 1, by omega, by go_num, hbx⟩
            case measure => simp [intOf]; omega
      · skip
        have hb1 := hby.out
        have hLO := LO6.out.trans (hb1.mono LO6.out.size)
        have k3 : wr.cell? ⟨gf, 3, none⟩ = some (.int .i64 (S.bot : Nat)) := ((HSf2.out.below hb1 HSf2.out.lt).c3).trans (by rw [EFR.out])
        have k4 : wr.cell? ⟨gf, 4, none⟩ = some (.int .i64 (S.col : Nat)) := ((HSf2.out.below hb1 HSf2.out.lt).c4).trans (by rw [EFC.out])
        have k5 : wr.cell? ⟨gb, 3, none⟩ = some (.int .i64 (S.top : Nat)) := ((HSb2.out.below hb1 HSb2.out.lt).c3).trans (by rw [EBR.out])
        have k6 : wr.cell? ⟨gs, 6, none⟩ = some (.int .i64 (S.top : Nat)) := (HSs3.out.below hb1 HSs3.out.lt).c6
        have k7 : wr.cell? ⟨gs, 7, none⟩ = some (.int .i64 (S.bot : Nat)) := (HSs3.out.below hb1 HSs3.out.lt).c7
        have k8 : wr.cell? ⟨gs, 4, none⟩ = some (.int .i64 (S.col : Nat)) := (HSs3.out.below hb1 HSs3.out.lt).c4
        go_wp2_with fail
        refine (cursorRuns_any _ (HSP.out.below hLO (by exact SLT.out))).mono ?_
        rintro e wq ⟨rfl, hq⟩
        go_wp2_with fail
        go_ret
        exact ⟨rfl, hLO.trans (hq.mono hLO.size)⟩
end Go.Proofs.YtbhnipepbckalaaDoor
