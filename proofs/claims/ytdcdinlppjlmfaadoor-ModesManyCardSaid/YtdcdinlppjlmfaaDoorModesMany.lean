/- ModesMany: each mode is by itself: set in any order, each reports what it was set to last; the grid stays. (written by tools/genmodesmany.py) -/
import Derived.Test.YtdcdinlppjlmfaaDoorModesRuns
import Derived.Test.YtdcdinlppjlmfaaDoorModesMap
import Derived.Test.YtdcdinlppjlmfaaDoorOpenBools
import Derived.Test.YtdcdinlppjlmfaaDoorScreenEq
import Derived.Test.YtdcdinlppjlmfaaDoorScrStore
import Derived.Test.YtdcdinlppjlmfaaDoorTailTwo
import Derived.Test.YtdcdinlppjlmfaaDoorPenEq
import Derived.Test.YtdcdinlppjlmfaaDoorKept
import Derived.Deep.DeepCutAuto
set_option maxRecDepth 100000
namespace Go.Proofs.YtdcdinlppjlmfaaDoor
open Go Go.RowKit Go.Maps
set_option linter.unusedVariables false
/-- what the rounds leave of a screen but its modes and its cursor -/
def Mild (S T : SN.Sc) : Prop := SN.RightS T ∧ T.g = S.g ∧ T.top = S.top ∧ T.bot = S.bot ∧ T.pen = S.pen
theorem Mild.next {S T : SN.Sc} (h : Mild S T) (n : Int) (on : Bool) : Mild S (SN.modeS T n on) := ⟨SN.right_mode h.1 n on, (SN.mode_g T n on).trans h.2.1, (SN.mode_top T n on).trans h.2.2.1, (SN.mode_bot T n on).trans h.2.2.2.1, (SN.mode_pen T n on).trans h.2.2.2.2⟩
theorem ismode_at {y : Nat} (h : y < 4) : SN.IsMode (([1, 6, 7, 25] : List Int).getD y 0) := by
  obtain rfl | rfl | rfl | rfl : y = 0 ∨ y = 1 ∨ y = 2 ∨ y = 3 := by omega
  all_goals
    unfold SN.IsMode
    simp
set_option maxHeartbeats 16000000 in
theorem modesMany_t (kcs : Array Value) (An : Option Addr) (nn cn : Nat) (ln : List Int) (Ab : Option Addr) (nb cb : Nat) (lb : List Bool) (S : SN.Sc) (w : World) (hk13 : kcs.size = 13) (hS : SN.RightS S) (hR5 : S.g.rows ≤ 5) (hK9 : S.g.cols ≤ 9) (hmt : MTab w)
    (hA : Arg .i64 w An nn cn ln) (hBo : ArgB w Ab nb cb lb)
    (KS : Hid (∀ w', Below w.heap.size w w' → Calls Tryd.prog 12 #[.agg kcs] w' (GotS w' S))) :
    Calls Tryd.prog 5 #[.agg kcs, .slice An nn cn, .slice Ab nb cb] w fun e w' => e = .returned (.bool true) ∧ Below w.heap.size w w' := by
  have hN : S.g.rows * S.g.cols ≤ 45 := Nat.mul_le_mul hR5 hK9
  have HN := hide (show S.g.rows * S.g.cols ≤ 1099511627776 by omega)
  have HMT := hide hmt
  have HA := hide hA
  have HB := hide hBo
  have RS := hide hS
  have hmm := @run_makeMap Tryd.prog
  have LO0 := hide (Below.refl w.heap.size w)
  have hcapn := hA.cap
  have hlen := hA.le
  have hcapb := hBo.cap
  have hleb := hBo.le
  unfold maxLen at hcapn hcapb
  clear hmt hA hBo hS
  go_enter Tryd.func5, Tryd.ntmps5
  go_wp2_with (first | (refine wpList_box_ks hk13 rfl _ rfl rfl ?_; intro gk wk hKB hbk hlk) | (refine wpList_load_ks hKB rfl _ rfl rfl ?_))
  have LO1 := hide (LO0.out.trans (hbk.mono LO0.out.size))
  clear LO0 hbk
  refine (KS.out _ LO1.out).mono ?_
  rintro e wb1 ⟨v1, rfl, ⟨x1, rfl, hg1⟩, hb1⟩
  have LO2 := hide (LO1.out.trans (hb1.mono LO1.out.size))
  clear LO1 hb1
  obtain ⟨A1, c1, rfl⟩ := gv_slice hg1
  have HGs1 := hide hg1
  clear hg1
  go_upto_region 2 with (first | (refine wpList_alloc_scr rfl rfl ?_; intro gs wags csgs hBgs hzgs hbgs hlgs) | (refine wpList_store_scr hBgs hzgs rfl _ _ rfl rfl rfl rfl ?_; intro wsgs hSgs hkgs hqgs))
  have le_gs : w.heap.size ≤ gs := by have := LO2.out.size; omega
  have HGs2 := hide (HGs1.out.low hbgs)
  have LO3 := hide (LO2.out.trans (hbgs.mono LO2.out.size))
  clear HGs1 LO2 hbgs
  have HGs3 := hide (HGs2.out.kept hBgs (by decide) hkgs)
  have LO4 := hide (LO3.out.trans (hkgs.toBelow LO3.out.size (fun k hh => by simp at hh; omega)))
  clear HGs2 LO3
  have HSs1 := hide hSgs
  clear hSgs hkgs hBgs hlgs
  go_upto_region 3 with (first | (refine wpList_alloc_scr rfl rfl ?_; intro gt wagt csgt hBgt hzgt hbgt hlgt) | (refine wpList_store_scr hBgt hzgt rfl _ _ rfl rfl rfl rfl ?_; intro wsgt hSgt hkgt hqgt) | (refine wpList_load_scr HSs1.out rfl _ rfl rfl ?_))
  have ne_gs_gt : gs ≠ gt := by have := HSs1.out.lt; omega
  have le_gt : w.heap.size ≤ gt := by have := LO4.out.size; omega
  have HSs2 := hide (HSs1.out.below hbgt HSs1.out.lt)
  have HGs4 := hide (HGs3.out.low hbgt)
  have LO5 := hide (LO4.out.trans (hbgt.mono LO4.out.size))
  clear HSs1 HGs3 LO4 hbgt
  have HSs3 := hide (HSs2.out.kept hkgt (by simp; first | exact ne_gs_gt | exact Ne.symm ne_gt_gs))
  have HGs5 := hide (HGs4.out.kept hBgt (by decide) hkgt)
  have LO6 := hide (LO5.out.trans (hkgt.toBelow LO5.out.size (fun k hh => by simp at hh; omega)))
  clear HSs2 HGs4 LO5
  have HSt1 := hide hSgt
  clear hSgt hkgt hBgt hlgt
  clear hqgs hqgt
  go_simp
  go_cut [9] from 17 to 26 (fun u wx => ∃ gm, u = .map (some gm) ∧ wsgt.heap.size ≤ gm ∧ MMap wx gm 4 S ∧ Kept [] wsgt wx)
  case first =>
    have ka0 : Kept [] wsgt (wsgt.alloc (.map #[] 0)) := (Kept.refl [] wsgt).alloc _
    have hfr : From wsgt [] (some wsgt.heap.size) := fun h e => by
      cases e
      exact .inr (Nat.le_refl _)
    have kk18 : (wsgt.alloc (.map #[] 0)).cell? ⟨gs, 18, none⟩ = some (.bool S.keys) := (HSs3.out.kept ka0 (by simp)).c18
    have fA : True := trivial
    have fB : True := trivial
    have fC : True := trivial
    have fD : True := trivial
    go_wp2_with (first | (clear fA; refine wpList_insert_own (H := Unit) _ rfl _ _ _ 55 rfl 3 4 keyed64 Tryd.underlying55 _ wsgt.heap.size 0 _ rfl (World.ownsMap_made wsgt _ _ _) (by unfold maxLen; omega) _ _ _ rfl rfl (key64_of 1 (by omega) (by omega)) _ [] (elem_bool _) ?_; intro wA hoA hgA; have kA := ka0.grown hgA hfr; have kk16 : wA.cell? ⟨gs, 16, none⟩ = some (.bool S.org) := (HSs3.out.kept kA (by simp)).c16) | (clear fB; refine wpList_insert_own (H := Unit) _ rfl _ _ _ 55 rfl 3 4 keyed64 Tryd.underlying55 _ wsgt.heap.size 1 _ rfl hoA (by unfold maxLen; omega) _ _ _ rfl rfl (key64_of 6 (by omega) (by omega)) _ [] (elem_bool _) ?_; intro wB hoB hgB; have kB := kA.grown hgB hfr; have kk15 : wB.cell? ⟨gs, 15, none⟩ = some (.bool S.wrap) := (HSs3.out.kept kB (by simp)).c15) | (clear fC; refine wpList_insert_own (H := Unit) _ rfl _ _ _ 55 rfl 3 4 keyed64 Tryd.underlying55 _ wsgt.heap.size 2 _ rfl hoB (by unfold maxLen; omega) _ _ _ rfl rfl (key64_of 7 (by omega) (by omega)) _ [] (elem_bool _) ?_; intro wC hoC hgC; have kC := kB.grown hgC hfr; have kk17 : wC.cell? ⟨gs, 17, none⟩ = some (.bool S.shown) := (HSs3.out.kept kC (by simp)).c17) | (clear fD; refine wpList_insert_own (H := Unit) _ rfl _ _ _ 55 rfl 3 4 keyed64 Tryd.underlying55 _ wsgt.heap.size 3 _ rfl hoC (by unfold maxLen; omega) _ _ _ rfl rfl (key64_of 25 (by omega) (by omega)) _ [] (elem_bool _) ?_; intro wD hoD hgD; have kD := kC.grown hgD hfr))
    go_meet
    exact ⟨_, rfl, Nat.le_refl _, ⟨_, hoD, MHolds.start S⟩, kD⟩
  case rest =>
    obtain ⟨gm, rfl, hgm, hMM, hkm⟩ := hcut
    rename World => wm
    have le_gm : w.heap.size ≤ gm := by have := LO6.out.size; omega
    have hbm := hkm.toBelow (Nat.le_refl _) (by simp)
    have HSs4 := hide (HSs3.out.below hbm HSs3.out.lt)
    have HSt2 := hide (HSt1.out.below hbm HSt1.out.lt)
    have HGs6 := hide (HGs5.out.low hbm)
    have LO7 := hide (LO6.out.trans (hbm.mono LO6.out.size))
    clear HSs3 HSt1 HGs5 LO6 hbm
    have HM0 := hide hMM
    clear hMM hkm hmm
    go_wp2_with fail
    go_loopw [10] (fun i wr => ∃ (k : Nat) (T : SN.Sc) (A : Option Addr) (c : Nat), k ≤ 12 ∧ k ≤ nn ∧ k ≤ nb ∧ i = .int .i64 k ∧ Hid (Mild S T) ∧ Hid (SBox wr gs (.slice A1 (S.g.rows * S.g.cols) c1) S) ∧ Hid (SBox wr gt (.slice A (S.g.rows * S.g.cols) c) T) ∧ Hid (IsG wr S.g (gv S.g.rows S.g.cols (.slice A1 (S.g.rows * S.g.cols) c1))) ∧ Hid (IsG wr S.g (gv S.g.rows S.g.cols (.slice A (S.g.rows * S.g.cols) c))) ∧ Hid (MMap wr gm (4 + k) T) ∧ Hid (Below w.heap.size w wr)) (fun i _ => 12 - (intOf i).toNat)
    case atStart => exact ⟨0, S, A1, c1, by omega, Nat.zero_le _, Nat.zero_le _, rfl, hide ⟨RS.out, rfl, rfl, rfl, rfl⟩, HSs4, HSt2, HGs6, HGs6, HM0, LO7⟩
    case round =>
      clear HSs4 HSt2 HGs6 LO7 HM0
      obtain ⟨k, T, A, c, hk12, hkn, hkb, rfl, HT, HSs, HSt, HGs, HGt, HM, HLO⟩ := hrel
      obtain ⟨go, hgo⟩ : ∃ b, decide (k < nn ∧ k < nb ∧ k < 12) = b := ⟨_, rfl⟩
      have HGO := hide hgo
      clear hgo
      go_upto_region 5 with fail
      go_cut [40] from 27 to 40 (fun u wx => u = .bool go ∧ wx = wr)
      case first =>
        by_cases h1 : k < nn
        · by_cases h2 : k < nb
          · by_cases h3 : k < 12
            · obtain rfl : true = go := by rw [← HGO.out]; exact (decide_eq_true ⟨h1, h2, h3⟩).symm
              go_wp2_with fail
              go_meet
              exact ⟨congrArg Value.bool (decide_eq_true (by omega)), rfl⟩
            · obtain rfl : false = go := by rw [← HGO.out]; exact (decide_eq_false (fun h => h3 h.2.2)).symm
              go_wp2_with fail
              go_meet
              exact ⟨congrArg Value.bool (decide_eq_false (by omega)), rfl⟩
          · obtain rfl : false = go := by rw [← HGO.out]; exact (decide_eq_false (fun h => h2 h.2.1)).symm
            go_wp2_with fail
            go_meet
            exact ⟨rfl, rfl⟩
        · obtain rfl : false = go := by rw [← HGO.out]; exact (decide_eq_false (fun h => h1 h.1)).symm
          go_wp2_with fail
          go_meet
          exact ⟨rfl, rfl⟩
      case rest =>
        obtain ⟨rfl, hw⟩ := hcut
        subst hw
        rename World => wr
        cases go with
        | true =>
          obtain ⟨h1, h2, h3⟩ := of_decide_eq_true HGO.out
          obtain ⟨ad, u, rfl, hadl, hu, hcell⟩ := (HA.out.seen.below HLO.out).at_ h1
          rw [List.getElem?_map] at hu
          obtain ⟨x, hx, rfl⟩ := Option.map_eq_some_iff.1 hu
          obtain ⟨x0, x1⟩ := bounds_i64 (HA.out.wf x (List.mem_of_getElem? hx))
          obtain ⟨ab, ub, rfl, habl, hub, hcellb⟩ := (HB.out.seen.below HLO.out).at_ h2
          rw [List.getElem?_map] at hub
          obtain ⟨on, hon, rfl⟩ := Option.map_eq_some_iff.1 hub
          obtain ⟨y, hy, hy4⟩ : ∃ y : Nat, 0 + x % (3 - 0 + 1) = (y : Int) ∧ y < 4 := ⟨(0 + x % (3 - 0 + 1)).toNat, by omega, by omega⟩
          have WI := hide (fun w' => within_is x 0 3 _ hy w' x0 x1 (by omega) (by omega) (by omega))
          obtain ⟨m, hm⟩ : ∃ m : Int, ([1, 6, 7, 25] : List Int).getD y 0 = m := ⟨_, rfl⟩
          have HIM := hide (hm ▸ ismode_at hy4 : SN.IsMode m)
          have EM := hide hm
          have hsz := HLO.out.size
          have hadr : ad.block < wr.heap.size := Nat.lt_of_lt_of_le hadl hsz
          have habr : ab.block < wr.heap.size := Nat.lt_of_lt_of_le habl hsz
          clear hu hx hy hub hon hm x0 x1
          go_upto_region 7 with fail
          have hc1 : (wr.alloc (.cells #[.int .i64 1, .int .i64 6, .int .i64 7, .int .i64 25] 3)).cell? (ad.add k) = some (.int .i64 x) := (((Below.refl wr.heap.size wr).alloc (Nat.le_refl _) _).cell (p := ad.add k) (by rw [addBlock]; exact hadr)).trans hcell
          go_cut [11] from 43 to 50 (fun u wx => u = .int .i64 m ∧ Below wr.heap.size wr wx)
          case first =>
            have hkI : (k : Int) < nn := by omega
            obtain rfl | rfl | rfl | rfl : y = 0 ∨ y = 1 ∨ y = 2 ∨ y = 3 := by omega
            all_goals
              have em := EM.out
              simp at em
              subst em
              go_wp2_with fail
              refine (WI.out _).mono ?_
              rintro e w' ⟨rfl, rfl⟩
              go_wp2_with fail
              go_meet
              exact ⟨rfl, (Below.refl _ _).alloc (Nat.le_refl _) _⟩
          case rest =>
            obtain ⟨rfl, hbm⟩ := hcut
            rename World => w7
            have hcb7 := hbm.cell (p := ab.add k) (by rw [addBlock]; exact habr) |>.trans hcellb
            have HSs7 := hide (HSs.out.below hbm HSs.out.lt)
            have HSt7 := hide (HSt.out.below hbm HSt.out.lt)
            have HGs7 := hide (HGs.out.low hbm)
            have HGt7 := hide (HGt.out.low hbm)
            have HM7 := hide (HM.out.below hbm)
            have HLO7 := hide (HLO.out.trans (hbm.mono hsz))
            have hab7 : ab.block < w7.heap.size := Nat.lt_of_lt_of_le habr hbm.size
            clear HSs HSt HGs HGt HM HLO hbm hc1 hcell hcellb hadr habr hadl hsz WI EM hy4
            have HT' := hide (HT.out.next m on)
            have MS := hide (fun w' v' h => mset_is T v' m on w' HT.out.1 h)
            have MN := hide (fun (v' : DataW Unit) (h : MHolds T v') => (h.put HIM.out on : MHolds (SN.modeS T m on) (v'.put (.int .i64 m) (.lit (.bool on)))))
            generalize SN.modeS T m on = T' at HT' MS MN
            have ETG := hide HT'.out.2.1
            have EGT := hide HT.out.2.1
            have hkI : (k : Int) < nb := by omega
            have hkc : k < nb := h2
            have hbb : nb ≤ cb := hleb
            go_upto_region 8 with fail
            go_cut [] from 51 to 57 (fun wx => ∃ A4 c4, SBox wx gt (.slice A4 (S.g.rows * S.g.cols) c4) T' ∧ IsG wx S.g (gv S.g.rows S.g.cols (.slice A4 (S.g.rows * S.g.cols) c4)) ∧ Kept [some gt] w7 wx)
            case first =>
              refine wp_region_gt (n := 108) 7 [] (fun _ => #[]) [(0, 0, 0, 0, 0), (0, 0, 0, 0, 0), (0, 0, 0, 0, 0), (0, 0, 0, 0, 0), (0, 0, 0, 0, 0), (0, 0, 0, 0, 0), (1, 0, 0, 0, 0), (0, 0, 0, 0, 0)] (fun j => [(.agg (scA (.slice A (S.g.rows * S.g.cols) c) T)), (.int .i64 m), (.slice (some ab) nb cb), (.int .i64 (k : Nat)), (.pointer (some (ab.add k))), (.bool on), undef, undef].getD j undef) [none, none, none, none, none, none, some (ScrV T')] (fun _ => 0) (by kernel_rfl) (by kernel_rfl) (by kernel_rfl) rfl (by kernel_rfl) (by kernel_rfl) (gno4 rfl) (fun i j h => by revert h; exact gno4 (p := fun _ => _) rfl i) (AllG.none_ (AllG.none_ (AllG.none_ (AllG.none_ (AllG.none_ (AllG.none_ (AllG.some_ (ScrV.stays (by kernel_rfl)) (AllG.nil _)))))))) (fun hGS => cases7 ⟨?_, ?_, ?_, ?_, ?_, ?_, ?_⟩) ?_
              · intro L a w' hL hsame hsz hJ hdep hcl
                have hb := hJ.kept.toBelow (Nat.le_refl _) (by simp)
                have e0 : a.eval (.tmp 8) = (.pointer (some ⟨gt, 0, none⟩)) := eval_base hsame (by kernel_rfl)
                have hx := hJ.keptBox ((show Box _ gt 32 (scA (.slice A (S.g.rows * S.g.cols) c) T) from HSt7.out)) (by simp)
                exact Step.val _ rfl rfl (wanted_none rfl) (.agg (scA (.slice A (S.g.rows * S.g.cols) c) T)) w' (fun ρ hρ => exec_load_any hx rfl ρ _ rfl ((hρ _).symm.trans e0)) (hJ.val hGS hcl hL rfl (Below.refl _ _) _ rfl)
              · intro L a w' hL hsame hsz hJ hdep hcl
                have hb := hJ.kept.toBelow (Nat.le_refl _) (by simp)
                have e0 : a.eval (.tmp 11) = (.int .i64 m) := eval_base hsame (by kernel_rfl)
                refine Step.val _ rfl rfl (wanted_none rfl) (.int .i64 m) w' (fun ρ hρ => ?_) (hJ.val hGS hcl hL rfl (Below.refl _ _) _ rfl)
                rw [hρ] at e0
                clear hJ hsame hdep hcl hρ hsz hb
                go_simp
              · intro L a w' hL hsame hsz hJ hdep hcl
                have hb := hJ.kept.toBelow (Nat.le_refl _) (by simp)
                have e0 : a.eval (.tmp 2) = (.slice (some ab) nb cb) := eval_base hsame (by kernel_rfl)
                refine Step.val _ rfl rfl (wanted_none rfl) (.slice (some ab) nb cb) w' (fun ρ hρ => ?_) (hJ.val hGS hcl hL rfl (Below.refl _ _) _ rfl)
                rw [hρ] at e0
                clear hJ hsame hdep hcl hρ hsz hb
                go_simp
              · intro L a w' hL hsame hsz hJ hdep hcl
                have hb := hJ.kept.toBelow (Nat.le_refl _) (by simp)
                have e0 : a.eval (.tmp 10) = (.int .i64 (k : Nat)) := eval_base hsame (by kernel_rfl)
                refine Step.val _ rfl rfl (wanted_none rfl) (.int .i64 (k : Nat)) w' (fun ρ hρ => ?_) (hJ.val hGS hcl hL rfl (Below.refl _ _) _ rfl)
                rw [hρ] at e0
                clear hJ hsame hdep hcl hρ hsz hb
                go_simp
              · intro L a w' hL hsame hsz hJ hdep hcl
                have hb := hJ.kept.toBelow (Nat.le_refl _) (by simp)
                have e0 : a.eval (.tmp 53) = (.slice (some ab) nb cb) := eval_slot (j := 2) (by kernel_rfl) (hJ.valOf (by decide) (dep_of hdep 2 (by kernel_rfl)) rfl rfl)
                have e1 : a.eval (.tmp 54) = (.int .i64 (k : Nat)) := eval_slot (j := 3) (by kernel_rfl) (hJ.valOf (by decide) (dep_of hdep 3 (by kernel_rfl)) rfl rfl)
                refine Step.val _ rfl rfl (wanted_none rfl) (.pointer (some (ab.add k))) w' (fun ρ hρ => ?_) (hJ.val hGS hcl hL rfl (Below.refl _ _) _ rfl)
                rw [hρ] at e0 e1
                clear hJ hsame hdep hcl hρ hsz hb
                go_simp
              · intro L a w' hL hsame hsz hJ hdep hcl
                have hb := hJ.kept.toBelow (Nat.le_refl _) (by simp)
                have e0 : a.eval (.tmp 55) = (.pointer (some (ab.add k))) := eval_slot (j := 4) (by kernel_rfl) (hJ.valOf (by decide) (dep_of hdep 4 (by kernel_rfl)) rfl rfl)
                refine Step.val _ rfl rfl (wanted_none rfl) (.bool on) w' (fun ρ hρ => ?_) (hJ.val hGS hcl hL rfl (Below.refl _ _) _ rfl)
                rw [hρ] at e0
                have hc5 := (hb.cell (p := ab.add k) (by rw [addBlock]; exact hab7)).trans hcb7
                clear hJ hsame hdep hcl hρ hsz hb
                go_simp
              · intro L a w' hL hsame hsz hJ hdep hcl
                have hb := hJ.kept.toBelow (Nat.le_refl _) (by simp)
                have e0 : a.eval (.tmp 51) = (.agg (scA (.slice A (S.g.rows * S.g.cols) c) T)) := eval_slot (j := 0) (by kernel_rfl) (hJ.valOf (by decide) (dep_of hdep 0 (by kernel_rfl)) rfl rfl)
                have e1 : a.eval (.tmp 52) = (.int .i64 m) := eval_slot (j := 1) (by kernel_rfl) (hJ.valOf (by decide) (dep_of hdep 1 (by kernel_rfl)) rfl rfl)
                have e2 : a.eval (.tmp 56) = (.bool on) := eval_slot (j := 5) (by kernel_rfl) (hJ.valOf (by decide) (dep_of hdep 5 (by kernel_rfl)) rfl rfl)
                refine Step.call _ rfl rfl (wanted_none rfl) 7 #[.agg (scA (.slice A (S.g.rows * S.g.cols) c) T), .int .i64 m, .bool on] (fun ρ hρ => ?_) ?_
                · skip
                  rw [hρ] at e0 e1 e2
                  have ef : ρ (.func 7) = .func (.func 7) #[] #[] := (hρ _).symm
                  clear hJ hsame hdep hcl hρ hsz hb
                  go_simp
                · refine (MS.out _ _ ⟨_, rfl, by rw [EGT.out]; exact HGt7.out.low hb⟩).mono ?_
                  rintro e w2 ⟨v, rfl, hi, bb⟩
                  exact ⟨_, rfl, hJ.pred hGS hcl hL rfl bb _ (scrV_of hi)⟩
              · intro L u w' hF hall
                change wpList _ _ _ _ (Act.put (Act.put (Act.put (Act.put (Act.put (Act.put (Act.put (Act.put (putAll _ u 0 _) (some 51) (u 0)) (some 52) (u 1)) (some 53) (u 2)) (some 54) (u 3)) (some 55) (u 4)) (some 56) (u 5)) (some 57) (u 6)) none (u 7)) _
                simp only [putAll]
                obtain ⟨A4, c4, f6, hi4⟩ := (show ScrV T' (u 6) w' from hF.predOf (j := 6) (by decide) (hall 6 (by decide)) rfl)
                have hk := hF.kept.toBelow (Nat.le_refl _) (by simp)
                clear hF
                generalize u 0 = z0
                generalize u 1 = z1
                generalize u 2 = z2
                generalize u 3 = z3
                generalize u 4 = z4
                generalize u 5 = z5
                generalize u 6 = z6 at f6 ⊢
                generalize u 7 = z7
                subst f6
                simp only [List.drop_succ_cons, List.drop_zero]
                have hS9 := HSt7.out.below hk HSt7.out.lt
                refine wpList_store_scr (x := .slice A4 (T'.g.rows * T'.g.cols) c4) (s := T') hS9 (scA_size _ _) rfl _ _ rfl (by ((repeat (first | rw [put_no] | rw [put_ne (by decide)])); rfl)) (by ((repeat (first | rw [put_no] | rw [put_ne (by decide)])); rw [put_at (by (repeat rw [put_size]); exact Nat.lt_of_lt_of_le (m := 108) (by decide) (Nat.le_refl 108))])) rfl ?_
                intro w8 hB8 hk8 hs8
                change Exit.then _ _ Exit.normal _ _
                go_simp
                go_step
                go_meet
                exact ⟨A4, c4, by have := hB8; rw [ETG.out] at this; exact this, by have := hi4.kept hS9 (by decide) hk8; rw [ETG.out] at this; exact this, (Kept.of_below hk).trans hk8 (fun x hx => From.mem hx)⟩
            case rest =>
              obtain ⟨A4, c4, hS4, hG4, hk4⟩ := hcut
              rename World => w8
              have hx7 := HSt7.out
              have HSs8 := hide (HSs7.out.kept hk4 (by simp; exact ne_gs_gt))
              have HGs8 := hide (HGs7.out.kept hx7 (by decide) hk4)
              have HM8 := hide (HM7.out.kept hk4 (by simp; exact Ne.symm (HM7.out.ne_box hx7)))
              have HLO8 := hide (HLO7.out.trans (hk4.toBelow HLO7.out.size (fun k hh => by simp at hh; have := le_gt; omega)))
              have HSt8 := hide hS4
              have HGt8 := hide hG4
              have hcb8 := (hk4.cell (p := ab.add k) (by rw [addBlock]; exact hab7) (by rw [addBlock]; simp; omega)).trans hcb7
              clear HSs7 HGs7 HM7 HLO7 hS4 hG4 HGt7 HSt7 hx7 hcb7
              obtain ⟨DM, hDM, hHM⟩ := HM8.out
              go_wp2_with (at_mapUpdate; refine wpList_mapUpdate_own (H := Unit) _ rfl _ _ _ 55 rfl 3 4 keyed64 Tryd.underlying55 _ gm (4 + k) _ rfl hDM (by unfold maxLen; omega) _ _ _ rfl rfl (key64_of m (by have := HIM.out; unfold SN.IsMode at this; omega) (by have := HIM.out; unfold SN.IsMode at this; omega)) _ [] (elem_bool _) ?_; intro w9 ho9 hg9)
              have hk9 := (Kept.refl [some gm] w8).grown hg9 (From.mem (by simp))
              go_roundw
              case rel => exact ⟨k + 1, T', A4, c4, by omega, by omega, by omega, by go_num, HT', hide (HM8.out.box hk9 HSs8.out), hide (HM8.out.box hk9 HSt8.out), hide (HM8.out.isg hk9 HGs8.out), hide (HM8.out.isg hk9 HGt8.out), hide ⟨_, ho9, MN.out _ hHM⟩, hide (HLO8.out.trans (hk9.toBelow HLO8.out.size (fun k hh => by simp at hh; omega)))⟩
              case measure => simp [intOf]; omega
        | false =>
          clear HGO hk12 hkn hkb HA HB
          generalize hw2 : wr = w2 at HSs HSt HGs HGt HM HLO ⊢
          clear hw2
          obtain ⟨D, hD, hH⟩ := HM.out
          have HH := hide hH
          clear hH
          go_wp2_with (at_range; refine wpList_range_own _ rfl _ 55 rfl 3 4 keyed64 Tryd.underlying55 _ gm (4 + k) D rfl hD ?_; intro w0 hrg0 hg0 hs0)
          go_frame
          have hb0 := below_of_grown hg0 (Nat.le_refl _) (by simp)
          go_loopw [12] (fun _ wr => ∃ left cnt, wr.ranges Tryd.prog 3 (plainElem Tryd.prog 4) gm w2.heap.size (4 + k) D left cnt ∧ Hid (∀ z, left z = true → has D z = true) ∧ Hid (Below w2.heap.size w2 wr)) (fun _ wr => wr.rangeLeft gm w2.heap.size)
          case atStart => exact ⟨_, _, hrg0, hide (fun z h => h), hide hb0⟩
          case round =>
            clear hrg0 hg0 hs0 hb0 w0
            obtain ⟨left, cnt, hrg, HL, HB2⟩ := hrel
            have HSs2 := hide (HSs.out.below HB2.out HSs.out.lt)
            have HSt2 := hide (HSt.out.below HB2.out HSt.out.lt)
            have HGs2 := hide (HGs.out.low HB2.out)
            have HGt2 := hide (HGt.out.low HB2.out)
            have HLO2 := hide (HLO.out.trans (HB2.out.mono HLO.out.size))
            go_wp2_with (at_next; refine wpList_next_ranges _ rfl _ rfl 3 keyed64 (plainElem Tryd.prog 4) (Value.int .i64) Value.bool (fun key kl h => invKey h) (fun v y h => invBool h) gm w2.heap.size (4 + k) D left cnt rfl hrg ?_ ?_)
            · intro _ _
              clear HSs HSt HGs HGt HLO hrg HL HB2 hD HH HM
              have ETT := hide HT.out.2.2.1
              have ETB := hide HT.out.2.2.2.1
              have ETP := hide HT.out.2.2.2.2
              have ep : ∀ w' : World, (binOp .eql 26 (.agg #[.int .i64 S.pen.1, .int .i64 S.pen.2.1, .int .i64 S.pen.2.2]) (.agg #[.int .i64 S.pen.1, .int .i64 S.pen.2.1, .int .i64 S.pen.2.2])).run Tryd.prog w' = .ok (.bool true) w' := fun w' => by
                rw [eql_pen]
                simp
              have k_t_2 := (show _ = some (.slice A (S.g.rows * S.g.cols) c : Value) from HSt2.out.c2)
              have k_s_2 := (show _ = some ((.slice A1 (S.g.rows * S.g.cols) c1) : Value) from HSs2.out.c2)
              have SC := hide (fun c c' => same_cells _ _ _ _ _ _ c _ c' _ (isg_seen HGt2.out).1 (isg_seen HGs2.out).1 HN.out)
              go_wp2_with fail
              refine (SC.out _ _).mono ?_
              rintro e wq ⟨rfl, q, hq⟩
              have hbq : Below wr.heap.size wr wq := by rw [← hq]; exact below_drewN (Below.refl _ _) q
              clear SC hq k_t_2 k_s_2
              have HSt3 := hide (HSt2.out.below hbq HSt2.out.lt)
              have HSs3 := hide (HSs2.out.below hbq HSs2.out.lt)
              have HLO3 := hide (HLO2.out.trans (hbq.mono HLO2.out.size))
              clear HSt2 HSs2 HGt2 HGs2 HLO2 hbq
              have k_t_6 := (show _ = some (.int .i64 (S.top : Nat) : Value) from HSt3.out.c6.trans (by rw [ETT.out]))
              have k_t_7 := (show _ = some (.int .i64 (S.bot : Nat) : Value) from HSt3.out.c7.trans (by rw [ETB.out]))
              have k_t_8 := (show _ = some (.int .i64 S.pen.1 : Value) from HSt3.out.c8.trans (by rw [ETP.out]))
              have k_t_9 := (show _ = some (.int .i64 S.pen.2.1 : Value) from HSt3.out.c9.trans (by rw [ETP.out]))
              have k_t_10 := (show _ = some (.int .i64 S.pen.2.2 : Value) from HSt3.out.c10.trans (by rw [ETP.out]))
              have k_s_6 := HSs3.out.c6
              have k_s_7 := HSs3.out.c7
              have k_s_8 := HSs3.out.c8
              have k_s_9 := HSs3.out.c9
              have k_s_10 := HSs3.out.c10
              go_wp2_with fail
              refine (modesRuns_any _ (HMT.out.keep HLO3.out)).mono ?_
              rintro e wq5 ⟨rfl, hq5⟩
              have HLO4 := hide (HLO3.out.trans (hq5.mono HLO3.out.size))
              clear HLO3 hq5 HSt3 HSs3
              go_wp2_with fail
              go_ret
              exact ⟨rfl, HLO4.out⟩
            · intro x
              constructor
              all_goals
                intro kl yd yp w3 cnt3 hkey hlk hv hat hrg3 hlt hg3 hs3 hen
                obtain ⟨hmo, hmv⟩ := HH.out.entry hkey (HL.out kl hlk) hv hat
                have hb3 := HB2.out.trans (below_of_grown hg3 HB2.out.size (fun g h => by cases h; exact Nat.le_refl _))
                have HSt3 := hide (HSt.out.below hb3 HSt.out.lt)
                have HGt3 := hide (HGt.out.low hb3)
                have HLO3 := hide (HLO.out.trans (hb3.mono HLO.out.size))
                have HB3 := hide hb3
                have HR := hide (fun w' v (hb : Below w.heap.size w w') h => mreport_is T v x w' (HMT.out.keep hb) h)
                have ER : SN.reportS T x = _ := (if_pos hmo).trans (by rw [hmv])
                simp only [Bool.false_eq_true, ↓reduceIte] at ER
                rw [ER] at HR
                have EGT := hide HT.out.2.1
                have HREN := hide hrg3
                have HLT := hide hlt
                have HLL := hide (fun (z : Lit) (h : (left z && !z.sameKey kl) = true) => HL.out z (by rw [Bool.and_eq_true] at h; exact h.1))
                clear hkey hlk hv hat hrg3 hlt hg3 hs3 hmo hmv hb3 ER HSs2 HSt2 HGs2 HGt2 HLO2
                go_wp2_with (refine wpList_load_scr HSt3.out rfl _ rfl rfl ?_)
                refine (HR.out _ _ HLO3.out ⟨_, rfl, by rw [EGT.out]; exact HGt3.out⟩).mono ?_
                rintro e w4 ⟨rfl, hb4⟩
                have HB4 := hide (HB3.out.trans (hb4.mono HB3.out.size))
                have HRG4 := hide (HREN.out.kept (grown_of_below hb4 none) (by simp) (by simp))
                clear hb4 HB3 hen HREN
                go_wp2_with fail
                go_roundw
                case rel => exact ⟨_, cnt3, HRG4.out, HLL, HB4⟩
                case measure =>
                  rw [HRG4.out.left_eq, hrg.left_eq]
                  exact HLT.out
end Go.Proofs.YtdcdinlppjlmfaaDoor
