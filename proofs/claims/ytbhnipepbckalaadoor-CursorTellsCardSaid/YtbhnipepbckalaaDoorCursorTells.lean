/- CursorTells: any screen, any motion: the whole screen behind it is the document's own; it is right; what was handed in stays. (written by tools/gencursortells.py) -/
import Derived.Test.YtbhnipepbckalaaDoorCursorRuns
import Derived.Test.YtbhnipepbckalaaDoorCursorFeed
import Derived.Test.YtbhnipepbckalaaDoorCursorDoo
import Derived.Test.YtbhnipepbckalaaDoorScrStore
import Derived.Test.YtbhnipepbckalaaDoorTailTwo
import Derived.Test.YtbhnipepbckalaaDoorScrRight
import Derived.Deep.DeepCutAuto
import Derived.Deep.CutBlock
set_option maxRecDepth 100000
namespace Go.Proofs.YtbhnipepbckalaaDoor
open Go Go.RowKit
set_option linter.unusedVariables false
theorem scrV_same {S T : SN.Sc} {w : World} {A : Option Addr} {c : Nat} (hT : T.g = S.g) (h : IsG w S.g (gv S.g.rows S.g.cols (.slice A (S.g.rows * S.g.cols) c))) : ScrV T (.agg (scA (.slice A (S.g.rows * S.g.cols) c) T)) w :=
  ⟨A, c, by rw [hT], by rw [hT]; exact h⟩
/-- an event that goes to a place, its two parameters in a row of their own -/
def EvP (a b : Int) (v : Value) (w : World) : Prop := ∃ g, v = .agg #[.int .i64 4, .int .i32 0, .int .u8 0, .int .u8 0, .int .u8 72, .slice (some ⟨g, 0, none⟩) 2 2, .string { data := #[] }] ∧ Box w g 3 #[.int .i64 a, .int .i64 b]
theorem EvP.stays {Ts : List TypeId} {a b : Int} (h : Ts.all (fun x => x != 3) = true) : StaysG Ts (EvP a b) :=
  ⟨fun v w w' ⟨g, h1, h2⟩ hb => ⟨g, h1, h2.below hb h2.lt⟩, fun v w w' g' T' cs' ⟨g, h1, h2⟩ hb hT hk => ⟨g, h1, h2.kept hk (fun hm => by
    have e : g = g' := by simpa using hm
    subst e
    unfold Box at h2 hb
    rw [hb] at h2
    simp only [Option.some.injEq, Obj.cells.injEq] at h2
    have := List.all_eq_true.1 h _ hT
    simp [h2.2.1] at this)⟩⟩
theorem seen_box1 {w : World} {g B : Nat} {T : TypeId} {z : Int} (h : Box w g T #[.int .i64 z]) (hB : g < B) : Seen w B (some ⟨g, 0, none⟩) 1 ([z].map (Value.int .i64)) :=
  ⟨rfl, fun j u hu => by
    match j with
    | 0 =>
      simp at hu
      subst hu
      exact ⟨_, rfl, hB, h.cell 0⟩
    | j + 1 => simp at hu⟩
theorem seen_box2 {w : World} {g B : Nat} {T : TypeId} {y z : Int} (h : Box w g T #[.int .i64 y, .int .i64 z]) (hB : g < B) : Seen w B (some ⟨g, 0, none⟩) 2 ([y, z].map (Value.int .i64)) :=
  ⟨rfl, fun j u hu => by
    match j with
    | 0 =>
      simp at hu
      subst hu
      exact ⟨_, rfl, hB, h.cell 0⟩
    | 1 =>
      simp at hu
      subst hu
      exact ⟨_, rfl, hB, h.cell 1⟩
    | j + 2 => simp at hu⟩
set_option maxHeartbeats 16000000 in
theorem cursorTells_t (kcs : Array Value) (wt r1 c1' n1 y x : Int) (m wn : Nat) (S : SN.Sc) (w : World) (hk13 : kcs.size = 13) (hS : SN.RightS S) (hR5 : S.g.rows ≤ 5) (hK9 : S.g.cols ≤ 9) (hsp : Spans w) (hy : -3 ≤ y ∧ y ≤ 9) (hx : -3 ≤ x ∧ x ≤ 14) (hm : m ≤ 9) (hwn : wn ≤ 8)
    (KS : Hid (∀ w', Below w.heap.size w w' → Calls Tryd.prog 12 #[.agg kcs] w' (GotS w' S)))
    (WY : Hid (∀ w', Calls Tryd.prog 13 #[.int .i64 r1, .int .i64 (-3), .int .i64 9] w' fun e w'' => e = .returned (.int .i64 y) ∧ w' = w''))
    (WX : Hid (∀ w', Calls Tryd.prog 13 #[.int .i64 c1', .int .i64 (-3), .int .i64 14] w' fun e w'' => e = .returned (.int .i64 x) ∧ w' = w''))
    (WM : Hid (∀ w', Calls Tryd.prog 13 #[.int .i64 n1, .int .i64 0, .int .i64 9] w' fun e w'' => e = .returned (.int .i64 (m : Nat)) ∧ w' = w''))
    (WT : Hid (∀ w', Calls Tryd.prog 13 #[.int .i64 wt, .int .i64 0, .int .i64 8] w' fun e w'' => e = .returned (.int .i64 (wn : Nat)) ∧ w' = w'')) :
    Calls Tryd.prog 4 #[.agg kcs, .int .i64 wt, .int .i64 r1, .int .i64 c1', .int .i64 n1] w fun e w' => e = .returned (.bool true) ∧ Below w.heap.size w w' := by
  have RS := hide hS
  have hN : S.g.rows * S.g.cols ≤ 45 := Nat.mul_le_mul hR5 hK9
  have HSP := hide hsp
  have SLT := hide hsp.lt
  have LO0 := hide (Below.refl w.heap.size w)
  clear hsp
  go_enter Tryd.func4, Tryd.ntmps4
  go_wp2_with (first | (refine wpList_box_ks hk13 rfl _ rfl rfl ?_; intro gk wk hKB hbk hlk) | (refine wpList_load_ks hKB rfl _ rfl rfl ?_))
  have LO1 := hide (LO0.out.trans (hbk.mono LO0.out.size))
  clear LO0 hbk
  refine (KS.out _ LO1.out).mono ?_
  rintro e wb1 ⟨v1, rfl, ⟨x1, rfl, hg1⟩, hb1⟩
  have LO2 := hide (LO1.out.trans (hb1.mono LO1.out.size))
  clear LO1 hb1
  obtain ⟨A1, c1, rfl⟩ := gv_slice hg1
  have HGs1 := hide hg1
  clear hg1
  go_upto_region 2 with (first | (refine wpList_alloc_scr rfl rfl ?_; intro gs wags csgs hBgs hzgs hbgs hlgs) | (refine wpList_store_scr hBgs hzgs rfl _ _ rfl rfl rfl rfl ?_; intro wsgs hSgs hkgs hqgs))
  have le_gs : w.heap.size ≤ gs := by have := LO2.out.size; omega
  have HGs2 := hide (HGs1.out.low hbgs)
  have LO3 := hide (LO2.out.trans (hbgs.mono LO2.out.size))
  clear HGs1 LO2 hbgs
  have HGs3 := hide (HGs2.out.kept hBgs (by decide) hkgs)
  have LO4 := hide (LO3.out.trans (hkgs.toBelow LO3.out.size (fun k hh => by simp at hh; omega)))
  clear HGs2 LO3
  have HSs1 := hide hSgs
  clear hSgs hkgs hBgs hlgs
  go_wp2_with fail
  refine (WY.out _).mono ?_
  rintro e w' ⟨rfl, rfl⟩
  go_wp2_with fail
  refine (WX.out _).mono ?_
  rintro e w' ⟨rfl, rfl⟩
  go_wp2_with fail
  refine (WM.out _).mono ?_
  rintro e w' ⟨rfl, rfl⟩
  go_wp2_with (first | (refine wpList_load_scr HSs1.out rfl _ rfl rfl ?_))
  refine (scopy_is S _ RS.out _ ⟨_, rfl, HGs3.out⟩).mono ?_
  rintro e wb2 ⟨x2, rfl, ho2, hb2⟩
  have HSs2 := hide (HSs1.out.below hb2 HSs1.out.lt)
  have HGs4 := hide (HGs3.out.low hb2)
  have LO5 := hide (LO4.out.trans (hb2.mono LO4.out.size))
  clear HSs1 HGs3 LO4 hb2
  obtain ⟨A2, c2, rfl, _⟩ := own_form' ho2
  have HGw0 : Hid (IsG wb2 S.g (gv S.g.rows S.g.cols (.slice A2 (S.g.rows * S.g.cols) c2))) := hide ⟨_, rfl, own_base' ho2 (Nat.zero_le _)⟩
  clear ho2
  go_upto_region 4 with (first | (refine wpList_alloc_scr rfl rfl ?_; intro gw wagw csgw hBgw hzgw hbgw hlgw) | (refine wpList_store_scr hBgw hzgw rfl _ _ rfl rfl rfl rfl ?_; intro wsgw hSgw hkgw hqgw))
  have ne_gs_gw : gs ≠ gw := by have := HSs2.out.lt; omega
  have le_gw : w.heap.size ≤ gw := by have := LO5.out.size; omega
  have HSs3 := hide (HSs2.out.below hbgw HSs2.out.lt)
  have HGs5 := hide (HGs4.out.low hbgw)
  have HGw1 := hide (HGw0.out.low hbgw)
  have LO6 := hide (LO5.out.trans (hbgw.mono LO5.out.size))
  clear HSs2 HGs4 HGw0 LO5 hbgw
  have HSs4 := hide (HSs3.out.kept hkgw (by simp; first | exact ne_gs_gw | exact Ne.symm ne_gw_gs))
  have HGs6 := hide (HGs5.out.kept hBgw (by decide) hkgw)
  have HGw2 := hide (HGw1.out.kept hBgw (by decide) hkgw)
  have LO7 := hide (LO6.out.trans (hkgw.toBelow LO6.out.size (fun k hh => by simp at hh; omega)))
  clear HSs3 HGs5 HGw1 LO6
  have HSw1 := hide hSgw
  clear hSgw hkgw hBgw hlgw
  clear hqgw hqgs
  go_upto_region 5 with fail
  have HP0 : Box ((wsgw.alloc (.cells #[.int .i64 m] 3)).alloc (.cells #[.int .i64 4, .int .i32 0, .int .u8 0, .int .u8 0, .int .u8 0, .slice (some ⟨wsgw.heap.size, 0, none⟩) 1 1, .string { data := #[] }] 47)) wsgw.heap.size 3 #[.int .i64 m] := (Box.new wsgw 3 #[.int .i64 m]).alloc _
  have HE0 : Box ((wsgw.alloc (.cells #[.int .i64 m] 3)).alloc (.cells #[.int .i64 4, .int .i32 0, .int .u8 0, .int .u8 0, .int .u8 0, .slice (some ⟨wsgw.heap.size, 0, none⟩) 1 1, .string { data := #[] }] 47)) (wsgw.heap.size + 1) 47 #[.int .i64 4, .int .i32 0, .int .u8 0, .int .u8 0, .int .u8 0, .slice (some ⟨wsgw.heap.size, 0, none⟩) 1 1, .string { data := #[] }] := by
    have h := Box.new (wsgw.alloc (.cells #[.int .i64 m] 3)) 47 #[.int .i64 4, .int .i32 0, .int .u8 0, .int .u8 0, .int .u8 0, .slice (some ⟨wsgw.heap.size, 0, none⟩) 1 1, .string { data := #[] }]
    simpa using h
  have hal : Below wsgw.heap.size wsgw ((wsgw.alloc (.cells #[.int .i64 m] 3)).alloc (.cells #[.int .i64 4, .int .i32 0, .int .u8 0, .int .u8 0, .int .u8 0, .slice (some ⟨wsgw.heap.size, 0, none⟩) 1 1, .string { data := #[] }] 47)) := ((Below.refl wsgw.heap.size wsgw).alloc (Nat.le_refl _) _).alloc (by simp) _
  have hpl : w.heap.size ≤ wsgw.heap.size := LO7.out.size
  have hps := HSs4.out.lt
  have hpw := HSw1.out.lt
  generalize ((wsgw.alloc (.cells #[.int .i64 m] 3)).alloc (.cells #[.int .i64 4, .int .i32 0, .int .u8 0, .int .u8 0, .int .u8 0, .slice (some ⟨wsgw.heap.size, 0, none⟩) 1 1, .string { data := #[] }] 47)) = we at HP0 HE0 hal ⊢
  have HSs5 := hide (HSs4.out.below hal HSs4.out.lt)
  have HSw2 := hide (HSw1.out.below hal HSw1.out.lt)
  have HGs7 := hide (HGs6.out.low hal)
  have HGw3 := hide (HGw2.out.low hal)
  have LO8 := hide (LO7.out.trans (hal.mono LO7.out.size))
  clear HSs4 HSw1 HGs6 HGw2 LO7 hal
  generalize wsgw.heap.size = gP at HP0 HE0 hpl hps hpw ⊢
  obtain ⟨gE, hgE⟩ : ∃ gE, gP + 1 = gE := ⟨_, rfl⟩
  rw [hgE] at HE0
  simp only [hgE]
  have ne_gP_gE : gP ≠ gE := by omega
  have ne_gs_gP : gs ≠ gP := by omega
  have ne_gw_gP : gw ≠ gP := by omega
  have ne_gs_gE : gs ≠ gE := by omega
  have ne_gw_gE : gw ≠ gE := by omega
  have hpe : w.heap.size ≤ gE := by omega
  have HP := hide HP0
  have HE := hide HE0
  clear HP0 HE0 hgE hps hpw
  have fA : True := trivial
  have fB : True := trivial
  go_upto_region 6 with (first | (clear fA; refine wpList_alloc_scr rfl rfl ?_; intro gG wagG csgG hBgG hzgG hbgG hlgG) | (clear fB; refine wpList_alloc_scr rfl rfl ?_; intro gW wagW csgW hBgW hzgW hbgW hlgW))
  have ne_gs_gG : gs ≠ gG := by have := HSs5.out.lt; omega
  have ne_gw_gG : gw ≠ gG := by have := HSw2.out.lt; omega
  have ne_gP_gG : gP ≠ gG := by have := HP.out.lt; omega
  have ne_gE_gG : gE ≠ gG := by have := HE.out.lt; omega
  have ne_gG_gW : gG ≠ gW := by have := hBgG.lt; omega
  have hlG : w.heap.size ≤ gG := by have := LO8.out.size; omega
  have hp1 := HP.out.below hbgG HP.out.lt
  have he1 := HE.out.below hbgG HE.out.lt
  have HSs6 := hide (HSs5.out.below hbgG HSs5.out.lt)
  have HSw3 := hide (HSw2.out.below hbgG HSw2.out.lt)
  have HGs8 := hide (HGs7.out.low hbgG)
  have HGw4 := hide (HGw3.out.low hbgG)
  have LO9 := hide (LO8.out.trans (hbgG.mono LO8.out.size))
  clear HSs5 HSw2 HGs7 HGw3 LO8 hbgG
  have HP1 := hide (hp1.below hbgW hp1.lt)
  have HE1 := hide (he1.below hbgW he1.lt)
  have HBG := hide (hBgG.below hbgW hBgG.lt)
  have HBW := hide hBgW
  have ne_gs_gW : gs ≠ gW := by have := HSs6.out.lt; omega
  have ne_gw_gW : gw ≠ gW := by have := HSw3.out.lt; omega
  have ne_gP_gW : gP ≠ gW := by have := hp1.lt; omega
  have ne_gE_gW : gE ≠ gW := by have := he1.lt; omega
  have hlW : w.heap.size ≤ gW := by have := LO9.out.size; omega
  have HSs7 := hide (HSs6.out.below hbgW HSs6.out.lt)
  have HSw4 := hide (HSw3.out.below hbgW HSw3.out.lt)
  have HGs9 := hide (HGs8.out.low hbgW)
  have HGw5 := hide (HGw4.out.low hbgW)
  have LO10 := hide (LO9.out.trans (hbgW.mono LO9.out.size))
  clear HSs6 HSw3 HGs8 HGw4 LO9 hbgW
  clear hp1 he1 HP HE hBgG hBgW hlgG hlgW
  go_wp2_with fail
  refine (WT.out _).mono ?_
  rintro e w' ⟨rfl, rfl⟩
  go_upto_block 0 with fail
  go_cut [12, 13, 14] from 34 to 138 (fun uy ux um wx => ∃ (T : SN.Sc) (X X' : Value), SN.RightS T ∧ SBox wx gG X T ∧ SBox wx gW X' T ∧ IsG wx T.g (gv T.g.rows T.g.cols X) ∧ IsG wx T.g (gv T.g.rows T.g.cols X') ∧ Kept [some gG, some gW, some gE, some gP] wagW wx)
  case first =>
    have cs : wn = 0 ∨ wn = 1 ∨ wn = 2 ∨ wn = 3 ∨ wn = 4 ∨ wn = 5 ∨ wn = 6 ∨ wn = 7 ∨ wn = 8 := by omega
    rcases cs with rfl | rfl | rfl | rfl | rfl | rfl | rfl | rfl | rfl
    · as_aux_lemma =>
        skip
        have hat : ((S.u3 (SN.pin y S.g.rows)).u4 (SN.pin x S.g.cols)).u5 false = SN.atS S y x := rfl
        have RT0 := SN.right_at RS.out y x
        have GP := hide (fun w' v h => cat_is S v y x w' RS.out (by omega) (by omega) h)
        have ETG := hide (show (SN.atS S y x).g = S.g from rfl)
        have q1 := hS.g.1
        have q2 := hS.g.2.2.1
        obtain ⟨py, hpy⟩ : ∃ p, SN.pin y S.g.rows = p := ⟨_, rfl⟩
        obtain ⟨px, hpx⟩ : ∃ p, SN.pin x S.g.cols = p := ⟨_, rfl⟩
        have EY := hide (hpy ▸ pin_if y q1)
        have EX := hide (hpx ▸ pin_if x q2)
        rw [hpy, hpx] at hat
        have HAT := hide hat
        generalize SN.atS S y x = T at RT0 GP ETG HAT hat
        have RT := hide RT0
        clear RT0 hat hpy hpx
        go_upto_region 9 with fail
        refine wp_region_gt2 (n := 154) 6 [some gG] (fun _ => csgG) [(0, 0, 0, 0, 0), (0, 0, 0, 0, 0), (0, 0, 0, 0, 0), (1, 0, 0, 0, 0), (0, 0, 0, 0, 0), (4, 0, 3, 32, 29), (0, 0, 0, 0, 0)] (fun j => [(.agg (scA (.slice A1 (S.g.rows * S.g.cols) c1) S)), (.int .i64 y), (.int .i64 x), undef, (.agg (scA (.slice A1 (S.g.rows * S.g.cols) c1) S)), undef, undef].getD j undef) [none, none, none, some (ScrV T)] (fun _ => gG) (by kernel_rfl) (by kernel_rfl) (by kernel_rfl) rfl (by kernel_rfl) (by kernel_rfl) (gonly4 (k := 5) rfl ⟨by simp, hzgG, HBG.out⟩) (gonly44 (k := 5) rfl) (AllG.none_ (AllG.none_ (AllG.none_ (AllG.some_ (ScrV.stays (by kernel_rfl)) (AllG.nil _))))) (fun hGS => cases6 ⟨?_, ?_, ?_, ?_, ?_, ?_⟩) ?_
        · intro L a w' hL hsame hsz hJ hdep hcl
          have hb := hJ.kept
          have e0 : a.eval (.tmp 11) = (.pointer (some ⟨gs, 0, none⟩)) := eval_base hsame (by kernel_rfl)
          have hx := hJ.keptBox ((show Box _ gs 32 (scA (.slice A1 (S.g.rows * S.g.cols) c1) S) from HSs7.out)) (by simp; exact ne_gs_gG)
          exact Step.val _ rfl rfl (wanted_none rfl) (.agg (scA (.slice A1 (S.g.rows * S.g.cols) c1) S)) w' (fun ρ hρ => exec_load_any hx rfl ρ _ rfl ((hρ _).symm.trans e0)) (hJ.val hGS hcl hL rfl (Below.refl _ _) _ rfl)
        · intro L a w' hL hsame hsz hJ hdep hcl
          have hb := hJ.kept
          have e0 : a.eval (.tmp 12) = (.int .i64 y) := eval_base hsame (by kernel_rfl)
          refine Step.val _ rfl rfl (wanted_none rfl) (.int .i64 y) w' (fun ρ hρ => ?_) (hJ.val hGS hcl hL rfl (Below.refl _ _) _ rfl)
          rw [hρ] at e0
          clear hJ hsame hdep hcl hρ hsz hb
          go_simp
        · intro L a w' hL hsame hsz hJ hdep hcl
          have hb := hJ.kept
          have e0 : a.eval (.tmp 13) = (.int .i64 x) := eval_base hsame (by kernel_rfl)
          refine Step.val _ rfl rfl (wanted_none rfl) (.int .i64 x) w' (fun ρ hρ => ?_) (hJ.val hGS hcl hL rfl (Below.refl _ _) _ rfl)
          rw [hρ] at e0
          clear hJ hsame hdep hcl hρ hsz hb
          go_simp
        · intro L a w' hL hsame hsz hJ hdep hcl
          have hb := hJ.kept
          have e0 : a.eval (.tmp 41) = (.agg (scA (.slice A1 (S.g.rows * S.g.cols) c1) S)) := eval_slot (j := 0) (by kernel_rfl) (hJ.valOf (by decide) (dep_of hdep 0 (by kernel_rfl)) rfl rfl)
          have e1 : a.eval (.tmp 42) = (.int .i64 y) := eval_slot (j := 1) (by kernel_rfl) (hJ.valOf (by decide) (dep_of hdep 1 (by kernel_rfl)) rfl rfl)
          have e2 : a.eval (.tmp 43) = (.int .i64 x) := eval_slot (j := 2) (by kernel_rfl) (hJ.valOf (by decide) (dep_of hdep 2 (by kernel_rfl)) rfl rfl)
          refine Step.call _ rfl rfl (wanted_none rfl) 15 #[.agg (scA (.slice A1 (S.g.rows * S.g.cols) c1) S), .int .i64 y, .int .i64 x] (fun ρ hρ => ?_) ?_
          · skip
            rw [hρ] at e0 e1 e2
            have ef : ρ (.func 15) = .func (.func 15) #[] #[] := (hρ _).symm
            clear hJ hsame hdep hcl hρ hsz hb
            go_simp
          · refine (GP.out _ _ ⟨_, rfl, (HGs9.out.kept HBG.out (by decide) hJ.kept)⟩).mono ?_
            rintro e w2 ⟨v, rfl, hi, bb⟩
            exact ⟨_, rfl, hJ.pred hGS hcl hL rfl bb _ (scrV_of hi)⟩
        · intro L a w' hL hsame hsz hJ hdep hcl
          have hb := hJ.kept
          have e0 : a.eval (.tmp 11) = (.pointer (some ⟨gs, 0, none⟩)) := eval_base hsame (by kernel_rfl)
          have hx := hJ.keptBox ((show Box _ gs 32 (scA (.slice A1 (S.g.rows * S.g.cols) c1) S) from HSs7.out)) (by simp; exact ne_gs_gG)
          exact Step.val _ rfl rfl (wanted_none rfl) (.agg (scA (.slice A1 (S.g.rows * S.g.cols) c1) S)) w' (fun ρ hρ => exec_load_any hx rfl ρ _ rfl ((hρ _).symm.trans e0)) (hJ.val hGS hcl hL rfl (Below.refl _ _) _ rfl)
        · intro L a w' hL hsame hsz hJ hdep hcl
          have hb := hJ.kept
          obtain ⟨A3', c3', hv3, hi3⟩ := (show (ScrV T) (valOf _ 3 a) w' from hJ.predOf (by decide) (dep_of hdep 3 (by kernel_rfl)) rfl)
          have es : a.eval (.tmp 44) = .agg (scA (.slice A3' (T.g.rows * T.g.cols) c3') T) := eval_slot (j := 3) (by kernel_rfl) hv3
          have hx : Box w' gG 32 csgG := hJ.old 5 rfl hL
          have ea : a.eval (.tmp 17) = .pointer (some ⟨gG, 0, none⟩) := eval_base hsame (by kernel_rfl)
          exact Step.skip _ rfl (wanted_none rfl) _ (fun ρ hρ => exec_store_any hx hzgG rfl (scA_one rfl _) ρ _ rfl ((hρ _).symm.trans ea) ((hρ _).symm.trans es)) (hJ.set hGS hcl hL rfl (dep_of hdep 3 (by kernel_rfl)) rfl hv3)
        · intro L u w' hF hall
          change wpList _ _ _ _ (Act.put (Act.put (Act.put (Act.put (Act.put (Act.put (Act.put (putAll _ u 0 _) (some 41) (u 0)) (some 42) (u 1)) (some 43) (u 2)) (some 44) (u 3)) (some 45) (u 4)) none (u 5)) none (u 6)) _
          simp only [putAll]
          obtain ⟨Aa, ca, fa, hia⟩ := (show ScrV T (u 3) w' from hF.predOf (j := 3) (by decide) (hall 3 (by decide)) rfl)
          have fb : u 4 = .agg (scA (.slice A1 (S.g.rows * S.g.cols) c1) S) := hF.valOf (j := 4) (by decide) (hall 4 (by decide)) rfl rfl
          obtain ⟨ds, fd, hBd⟩ : ∃ ds, u 3 = .agg ds ∧ Box w' gG 32 ds := (hF.all 5 (by decide) (hall 5 (by decide))).2.2.2.2 rfl
          obtain rfl : ds = scA (.slice Aa (T.g.rows * T.g.cols) ca) T := by
            have := fd.symm.trans fa
            cases this
            rfl
          have hk1 : Kept [some gG] wagW w' := hF.kept
          clear hF fd
          generalize u 0 = y0
          generalize u 1 = y1
          generalize u 2 = y2
          generalize u 3 = y3 at fa ⊢
          generalize u 4 = y4 at fb ⊢
          generalize u 5 = y5
          generalize u 6 = y6
          subst fa fb
          simp only [List.drop_succ_cons, List.drop_zero]
          have hB1 : SBox w' gG (.slice Aa (T.g.rows * T.g.cols) ca) T := hBd
          have hW10 := HBW.out.kept hk1 (by simp; exact Ne.symm ne_gG_gW)
          refine wpList_store_scr (x := (.slice A1 (S.g.rows * S.g.cols) c1)) (s := S) hW10 hzgW rfl _ _ rfl (by ((repeat (first | rw [put_no] | rw [put_ne (by decide)])); rfl)) (by ((repeat (first | rw [put_no] | rw [put_ne (by decide)])); rw [put_at (by (repeat rw [put_size]); exact Nat.lt_of_lt_of_le (m := 154) (by decide) (Nat.le_refl 154))])) rfl ?_
          intro wx2 hB2 hk2 hq2
          change Exit.then _ _ Exit.normal _ _
          go_simp
          go_step
          have HA := hide (hB1.kept hk2 (by simp; exact ne_gG_gW))
          have HB := hide hB2
          have HIA := hide (hia.kept hW10 (by decide) hk2)
          have HIS := hide ((HGs9.out.kept HBG.out (by decide) hk1).kept hW10 (by decide) hk2)
          have HSS := hide ((HSs7.out.kept hk1 (by simp; exact ne_gs_gG)).kept hk2 (by simp; exact ne_gs_gW))
          have HKK := hide (((Kept.refl [some gG, some gW, some gE, some gP] wagW).trans hk1 (fun x hx => From.mem (by simp at hx; simp [hx]))).trans hk2 (fun x hx => From.mem (by simp at hx; simp [hx])))
          clear hia hW10 hB1 hB2 hk1 hk2 hq2 hBd
          go_upto_region 10 with fail
          have s0 := HSS.out.c0
          have s1 := HSS.out.c1
          have k3 := HB.out.c3
          have k4 := HB.out.c4
          have k5 := HB.out.c5
          have z3 := HB.out.fz 3
          have z4 := HB.out.fz 4
          have z5 := HB.out.fz 5
          go_region
          simp only [EY.out, EX.out]
          go_simp
          go_step
          go_meet
          exact ⟨T, _, _, RT.out, (Box.drew (((HA.out.far (p := ⟨gW, 3, none⟩) ne_gG_gW _).far (p := ⟨gW, 4, none⟩) ne_gG_gW _).far (p := ⟨gW, 5, none⟩) ne_gG_gW _) : SBox _ gG _ T), (by rw [← HAT.out]; exact Box.drew (((HB.out.set3 py).set4 px).set5 false)), (((HIA.out.puts HB.out 3 _).puts (HB.out.set3 py) 4 _).puts ((HB.out.set3 py).set4 px) 5 _).low ((Below.refl _ _).drew), (by rw [ETG.out]; exact (((HIS.out.puts HB.out 3 _).puts (HB.out.set3 py) 4 _).puts ((HB.out.set3 py).set4 px) 5 _).low ((Below.refl _ _).drew)), (((HKK.out.setCell (p := ⟨gW, 3, none⟩) (From.mem (by simp)) _).setCell (p := ⟨gW, 4, none⟩) (From.mem (by simp)) _).setCell (p := ⟨gW, 5, none⟩) (From.mem (by simp)) _).drew⟩
    · as_aux_lemma =>
        have RT0 := hide (show SN.RightS (SN.feedS S) from SN.right_feed RS.out)
        have GP := hide (fun w' v h => cfeed_is S v w' RS.out h)
        have GR := hide (fun w' v h => rfeed_is S v w' RS.out h)
        generalize (SN.feedS S) = T at RT0 GP GR
        have RT := RT0
        clear RT0
        go_upto_region 12 with fail
        refine wp_region_gt2 (n := 154) 4 [] (fun _ => #[]) [(0, 0, 0, 0, 0), (1, 0, 0, 0, 0), (0, 0, 0, 0, 0), (1, 0, 0, 0, 0), (0, 0, 0, 0, 0), (0, 0, 0, 0, 0)] (fun j => [(.agg (scA (.slice A1 (S.g.rows * S.g.cols) c1) S)), undef, (.agg (scA (.slice A1 (S.g.rows * S.g.cols) c1) S)), undef, undef, undef].getD j undef) [none, some (ScrV T), none, some (ScrV T)] (fun _ => 0) (by kernel_rfl) (by kernel_rfl) (by kernel_rfl) rfl (by kernel_rfl) (by kernel_rfl) (gno4 rfl) (fun i j h => by revert h; exact gno4 (p := fun _ => _) rfl i) (AllG.none_ (AllG.some_ (ScrV.stays (by kernel_rfl)) (AllG.none_ (AllG.some_ (ScrV.stays (by kernel_rfl)) (AllG.nil _))))) (fun hGS => cases4 ⟨?_, ?_, ?_, ?_⟩) ?_
        · intro L a w' hL hsame hsz hJ hdep hcl
          have hb := hJ.kept.toBelow (Nat.le_refl _) (by simp)
          have e0 : a.eval (.tmp 11) = (.pointer (some ⟨gs, 0, none⟩)) := eval_base hsame (by kernel_rfl)
          have hx := hJ.keptBox ((show Box _ gs 32 (scA (.slice A1 (S.g.rows * S.g.cols) c1) S) from HSs7.out)) (by simp)
          exact Step.val _ rfl rfl (wanted_none rfl) (.agg (scA (.slice A1 (S.g.rows * S.g.cols) c1) S)) w' (fun ρ hρ => exec_load_any hx rfl ρ _ rfl ((hρ _).symm.trans e0)) (hJ.val hGS hcl hL rfl (Below.refl _ _) _ rfl)
        · intro L a w' hL hsame hsz hJ hdep hcl
          have hb := hJ.kept.toBelow (Nat.le_refl _) (by simp)
          have e0 : a.eval (.tmp 65) = (.agg (scA (.slice A1 (S.g.rows * S.g.cols) c1) S)) := eval_slot (j := 0) (by kernel_rfl) (hJ.valOf (by decide) (dep_of hdep 0 (by kernel_rfl)) rfl rfl)
          refine Step.call _ rfl rfl (wanted_none rfl) 10 #[.agg (scA (.slice A1 (S.g.rows * S.g.cols) c1) S)] (fun ρ hρ => ?_) ?_
          · skip
            rw [hρ] at e0
            have ef : ρ (.func 10) = .func (.func 10) #[] #[] := (hρ _).symm
            clear hJ hsame hdep hcl hρ hsz hb
            go_simp
          · refine (GP.out _ _ ⟨_, rfl, (HGs9.out.low hb)⟩).mono ?_
            rintro e w2 ⟨v, rfl, hi, bb⟩
            exact ⟨_, rfl, hJ.pred hGS hcl hL rfl bb _ (scrV_of hi)⟩
        · intro L a w' hL hsame hsz hJ hdep hcl
          have hb := hJ.kept.toBelow (Nat.le_refl _) (by simp)
          have e0 : a.eval (.tmp 11) = (.pointer (some ⟨gs, 0, none⟩)) := eval_base hsame (by kernel_rfl)
          have hx := hJ.keptBox ((show Box _ gs 32 (scA (.slice A1 (S.g.rows * S.g.cols) c1) S) from HSs7.out)) (by simp)
          exact Step.val _ rfl rfl (wanted_none rfl) (.agg (scA (.slice A1 (S.g.rows * S.g.cols) c1) S)) w' (fun ρ hρ => exec_load_any hx rfl ρ _ rfl ((hρ _).symm.trans e0)) (hJ.val hGS hcl hL rfl (Below.refl _ _) _ rfl)
        · intro L a w' hL hsame hsz hJ hdep hcl
          have hb := hJ.kept.toBelow (Nat.le_refl _) (by simp)
          have e0 : a.eval (.tmp 67) = (.agg (scA (.slice A1 (S.g.rows * S.g.cols) c1) S)) := eval_slot (j := 2) (by kernel_rfl) (hJ.valOf (by decide) (dep_of hdep 2 (by kernel_rfl)) rfl rfl)
          refine Step.call _ rfl rfl (wanted_none rfl) 16 #[.agg (scA (.slice A1 (S.g.rows * S.g.cols) c1) S)] (fun ρ hρ => ?_) ?_
          · skip
            rw [hρ] at e0
            have ef : ρ (.func 16) = .func (.func 16) #[] #[] := (hρ _).symm
            clear hJ hsame hdep hcl hρ hsz hb
            go_simp
          · refine (GR.out _ _ ⟨_, rfl, (HGs9.out.low hb)⟩).mono ?_
            rintro e w2 ⟨v, rfl, hi, bb⟩
            exact ⟨_, rfl, hJ.pred hGS hcl hL rfl bb _ (scrV_of hi)⟩
        · intro L u w' hF hall
          change wpList _ _ _ _ (Act.put (Act.put (Act.put (Act.put (Act.put (Act.put (putAll _ u 0 _) (some 65) (u 0)) (some 66) (u 1)) (some 67) (u 2)) (some 68) (u 3)) none (u 4)) none (u 5)) _
          simp only [putAll]
          obtain ⟨Aa, ca, fa, hia⟩ := (show ScrV T (u 1) w' from hF.predOf (j := 1) (by decide) (hall 1 (by decide)) rfl)
          obtain ⟨Ab, cb, fb, hib⟩ := (show ScrV T (u 3) w' from hF.predOf (j := 3) (by decide) (hall 3 (by decide)) rfl)
          have hk := hF.kept.toBelow (Nat.le_refl _) (by simp)
          clear hF
          generalize u 0 = y0
          generalize u 1 = y1 at fa ⊢
          generalize u 2 = y2
          generalize u 3 = y3 at fb ⊢
          generalize u 4 = y4
          generalize u 5 = y5
          subst fa fb
          simp only [List.drop_succ_cons, List.drop_zero]
          have hG9 := HBG.out.below hk HBG.out.lt
          have hW9 := HBW.out.below hk HBW.out.lt
          refine wpList_store_scr (x := .slice Aa (T.g.rows * T.g.cols) ca) (s := T) hG9 hzgG rfl _ _ rfl (by ((repeat (first | rw [put_no] | rw [put_ne (by decide)])); rfl)) (by ((repeat (first | rw [put_no] | rw [put_ne (by decide)])); rw [put_at (by (repeat rw [put_size]); exact Nat.lt_of_lt_of_le (m := 154) (by decide) (Nat.le_refl 154))])) rfl ?_
          intro wx1 hB1 hk1 hq1
          have hW10 := hW9.kept hk1 (by simp; exact Ne.symm ne_gG_gW)
          refine wpList_store_scr (x := .slice Ab (T.g.rows * T.g.cols) cb) (s := T) hW10 hzgW rfl _ _ rfl (by ((repeat (first | rw [put_no] | rw [put_ne (by decide)])); rfl)) (by ((repeat (first | rw [put_no] | rw [put_ne (by decide)])); rw [put_at (by (repeat rw [put_size]); exact Nat.lt_of_lt_of_le (m := 154) (by decide) (Nat.le_refl 154))])) rfl ?_
          intro wx2 hB2 hk2 hq2
          change Exit.inBlock _ _ Exit.normal _ _
          go_simp
          go_step
          go_meet
          exact ⟨T, _, _, RT.out, hB1.kept hk2 (by simp; exact ne_gG_gW), hB2, (hia.kept hG9 (by decide) hk1).kept hW10 (by decide) hk2, (hib.kept hG9 (by decide) hk1).kept hW10 (by decide) hk2, (((Kept.refl [some gG, some gW, some gE, some gP] wagW).below hk).trans hk1 (fun x hx => From.mem (by simp at hx; simp [hx]))).trans hk2 (fun x hx => From.mem (by simp at hx; simp [hx]))⟩
    · as_aux_lemma =>
        have RT0 := hide (show SN.RightS (SN.backS S) from SN.right_back RS.out)
        have GP := hide (fun w' v h => cback_is S v w' RS.out h)
        have GR := hide (fun w' v h => rback_is S v w' RS.out h)
        generalize (SN.backS S) = T at RT0 GP GR
        have RT := RT0
        clear RT0
        go_upto_region 14 with fail
        refine wp_region_gt2 (n := 154) 4 [] (fun _ => #[]) [(0, 0, 0, 0, 0), (1, 0, 0, 0, 0), (0, 0, 0, 0, 0), (1, 0, 0, 0, 0), (0, 0, 0, 0, 0), (0, 0, 0, 0, 0)] (fun j => [(.agg (scA (.slice A1 (S.g.rows * S.g.cols) c1) S)), undef, (.agg (scA (.slice A1 (S.g.rows * S.g.cols) c1) S)), undef, undef, undef].getD j undef) [none, some (ScrV T), none, some (ScrV T)] (fun _ => 0) (by kernel_rfl) (by kernel_rfl) (by kernel_rfl) rfl (by kernel_rfl) (by kernel_rfl) (gno4 rfl) (fun i j h => by revert h; exact gno4 (p := fun _ => _) rfl i) (AllG.none_ (AllG.some_ (ScrV.stays (by kernel_rfl)) (AllG.none_ (AllG.some_ (ScrV.stays (by kernel_rfl)) (AllG.nil _))))) (fun hGS => cases4 ⟨?_, ?_, ?_, ?_⟩) ?_
        · intro L a w' hL hsame hsz hJ hdep hcl
          have hb := hJ.kept.toBelow (Nat.le_refl _) (by simp)
          have e0 : a.eval (.tmp 11) = (.pointer (some ⟨gs, 0, none⟩)) := eval_base hsame (by kernel_rfl)
          have hx := hJ.keptBox ((show Box _ gs 32 (scA (.slice A1 (S.g.rows * S.g.cols) c1) S) from HSs7.out)) (by simp)
          exact Step.val _ rfl rfl (wanted_none rfl) (.agg (scA (.slice A1 (S.g.rows * S.g.cols) c1) S)) w' (fun ρ hρ => exec_load_any hx rfl ρ _ rfl ((hρ _).symm.trans e0)) (hJ.val hGS hcl hL rfl (Below.refl _ _) _ rfl)
        · intro L a w' hL hsame hsz hJ hdep hcl
          have hb := hJ.kept.toBelow (Nat.le_refl _) (by simp)
          have e0 : a.eval (.tmp 71) = (.agg (scA (.slice A1 (S.g.rows * S.g.cols) c1) S)) := eval_slot (j := 0) (by kernel_rfl) (hJ.valOf (by decide) (dep_of hdep 0 (by kernel_rfl)) rfl rfl)
          refine Step.call _ rfl rfl (wanted_none rfl) 17 #[.agg (scA (.slice A1 (S.g.rows * S.g.cols) c1) S)] (fun ρ hρ => ?_) ?_
          · skip
            rw [hρ] at e0
            have ef : ρ (.func 17) = .func (.func 17) #[] #[] := (hρ _).symm
            clear hJ hsame hdep hcl hρ hsz hb
            go_simp
          · refine (GP.out _ _ ⟨_, rfl, (HGs9.out.low hb)⟩).mono ?_
            rintro e w2 ⟨v, rfl, hi, bb⟩
            exact ⟨_, rfl, hJ.pred hGS hcl hL rfl bb _ (scrV_of hi)⟩
        · intro L a w' hL hsame hsz hJ hdep hcl
          have hb := hJ.kept.toBelow (Nat.le_refl _) (by simp)
          have e0 : a.eval (.tmp 11) = (.pointer (some ⟨gs, 0, none⟩)) := eval_base hsame (by kernel_rfl)
          have hx := hJ.keptBox ((show Box _ gs 32 (scA (.slice A1 (S.g.rows * S.g.cols) c1) S) from HSs7.out)) (by simp)
          exact Step.val _ rfl rfl (wanted_none rfl) (.agg (scA (.slice A1 (S.g.rows * S.g.cols) c1) S)) w' (fun ρ hρ => exec_load_any hx rfl ρ _ rfl ((hρ _).symm.trans e0)) (hJ.val hGS hcl hL rfl (Below.refl _ _) _ rfl)
        · intro L a w' hL hsame hsz hJ hdep hcl
          have hb := hJ.kept.toBelow (Nat.le_refl _) (by simp)
          have e0 : a.eval (.tmp 73) = (.agg (scA (.slice A1 (S.g.rows * S.g.cols) c1) S)) := eval_slot (j := 2) (by kernel_rfl) (hJ.valOf (by decide) (dep_of hdep 2 (by kernel_rfl)) rfl rfl)
          refine Step.call _ rfl rfl (wanted_none rfl) 18 #[.agg (scA (.slice A1 (S.g.rows * S.g.cols) c1) S)] (fun ρ hρ => ?_) ?_
          · skip
            rw [hρ] at e0
            have ef : ρ (.func 18) = .func (.func 18) #[] #[] := (hρ _).symm
            clear hJ hsame hdep hcl hρ hsz hb
            go_simp
          · refine (GR.out _ _ ⟨_, rfl, (HGs9.out.low hb)⟩).mono ?_
            rintro e w2 ⟨v, rfl, hi, bb⟩
            exact ⟨_, rfl, hJ.pred hGS hcl hL rfl bb _ (scrV_of hi)⟩
        · intro L u w' hF hall
          change wpList _ _ _ _ (Act.put (Act.put (Act.put (Act.put (Act.put (Act.put (putAll _ u 0 _) (some 71) (u 0)) (some 72) (u 1)) (some 73) (u 2)) (some 74) (u 3)) none (u 4)) none (u 5)) _
          simp only [putAll]
          obtain ⟨Aa, ca, fa, hia⟩ := (show ScrV T (u 1) w' from hF.predOf (j := 1) (by decide) (hall 1 (by decide)) rfl)
          obtain ⟨Ab, cb, fb, hib⟩ := (show ScrV T (u 3) w' from hF.predOf (j := 3) (by decide) (hall 3 (by decide)) rfl)
          have hk := hF.kept.toBelow (Nat.le_refl _) (by simp)
          clear hF
          generalize u 0 = y0
          generalize u 1 = y1 at fa ⊢
          generalize u 2 = y2
          generalize u 3 = y3 at fb ⊢
          generalize u 4 = y4
          generalize u 5 = y5
          subst fa fb
          simp only [List.drop_succ_cons, List.drop_zero]
          have hG9 := HBG.out.below hk HBG.out.lt
          have hW9 := HBW.out.below hk HBW.out.lt
          refine wpList_store_scr (x := .slice Aa (T.g.rows * T.g.cols) ca) (s := T) hG9 hzgG rfl _ _ rfl (by ((repeat (first | rw [put_no] | rw [put_ne (by decide)])); rfl)) (by ((repeat (first | rw [put_no] | rw [put_ne (by decide)])); rw [put_at (by (repeat rw [put_size]); exact Nat.lt_of_lt_of_le (m := 154) (by decide) (Nat.le_refl 154))])) rfl ?_
          intro wx1 hB1 hk1 hq1
          have hW10 := hW9.kept hk1 (by simp; exact Ne.symm ne_gG_gW)
          refine wpList_store_scr (x := .slice Ab (T.g.rows * T.g.cols) cb) (s := T) hW10 hzgW rfl _ _ rfl (by ((repeat (first | rw [put_no] | rw [put_ne (by decide)])); rfl)) (by ((repeat (first | rw [put_no] | rw [put_ne (by decide)])); rw [put_at (by (repeat rw [put_size]); exact Nat.lt_of_lt_of_le (m := 154) (by decide) (Nat.le_refl 154))])) rfl ?_
          intro wx2 hB2 hk2 hq2
          change Exit.inBlock _ _ Exit.normal _ _
          go_simp
          go_step
          go_meet
          exact ⟨T, _, _, RT.out, hB1.kept hk2 (by simp; exact ne_gG_gW), hB2, (hia.kept hG9 (by decide) hk1).kept hW10 (by decide) hk2, (hib.kept hG9 (by decide) hk1).kept hW10 (by decide) hk2, (((Kept.refl [some gG, some gW, some gE, some gP] wagW).below hk).trans hk1 (fun x hx => From.mem (by simp at hx; simp [hx]))).trans hk2 (fun x hx => From.mem (by simp at hx; simp [hx]))⟩
    · as_aux_lemma =>
        skip
        obtain ⟨q, hq⟩ : ∃ q : Nat, max m 1 = q := ⟨_, rfl⟩
        have EM := hide (show (if ((m : Int) < 1) then (1 : Int) else (m : Int)) = ((q : Nat) : Int) by split <;> omega)
        have RT := hide (show SN.RightS (SN.upS S q) from SN.right_at RS.out (SN.upR S q) S.col)
        have GP := hide (fun w' v h => cup_is S v q w' (by omega) RS.out h)
        have ETG := hide (show (SN.upS S q).g = S.g from rfl)
        have GR := hide (fun w' (hP : Box w' gP 3 #[.int .i64 q]) => rdo_csi 65 (.slice A1 (S.g.rows * S.g.cols) c1) S (SN.upS S q) { data := #[] } (some ⟨gP, 0, none⟩) 1 1 w' rfl (hide fun w'' hb => rcsi_is 65 (.slice A1 (S.g.rows * S.g.cols) c1) S (SN.upS S q) { data := #[] } (some ⟨gP, 0, none⟩) 1 1 w'' rfl (hide fun w3 hb3 => rmoves_up (.slice A1 (S.g.rows * S.g.cols) c1) S (SN.upS S q) { data := #[] } (some ⟨gP, 0, none⟩) 1 1 w3.heap.size q [(q : Int)] w3 rfl RS.out (seen_box1 ((hP.below hb hP.lt).below hb3 (hP.below hb hP.lt).lt) ((hP.below hb hP.lt).below hb3 (hP.below hb hP.lt).lt).lt) (Nat.le_refl _) (by omega) (by omega) (by unfold oneL; simp; omega) (by omega) rfl)))
        generalize SN.upS S q = T at RT GP ETG GR
        clear hq
        go_upto_region 16 with fail
        have p0 : wagW.cell? ⟨gP, 0, none⟩ = some (.int .i64 m) := HP1.out.cell 0
        have zp0 := HP1.out.frozen 0
        have e4 : wagW.cell? ⟨gE, 4, none⟩ = some (.int .u8 0) := HE1.out.cell 4
        have e5 : wagW.cell? ⟨gE, 5, none⟩ = some (.slice (some ⟨gP, 0, none⟩) 1 1) := HE1.out.cell 5
        have ze4 := HE1.out.frozen 4
        go_region
        simp only [EM.out]
        go_simp
        go_step
        have hk3 : Kept [some gP, some gE] wagW ((wagW.setCell ⟨gP, 0, none⟩ (.int .i64 q)).setCell ⟨gE, 4, none⟩ (.int .u8 65)).drew := (((Kept.refl [some gP, some gE] wagW).setCell (p := ⟨gP, 0, none⟩) (From.mem (by simp)) _).setCell (p := ⟨gE, 4, none⟩) (From.mem (by simp)) _).drew
        have hp3 : Box ((wagW.setCell ⟨gP, 0, none⟩ (.int .i64 q)).setCell ⟨gE, 4, none⟩ (.int .u8 65)).drew gP 3 #[.int .i64 q] := Box.drew ((HP1.out.set 0 (.int .i64 q)).far (p := ⟨gE, 4, none⟩) ne_gP_gE _)
        have he3 : Box ((wagW.setCell ⟨gP, 0, none⟩ (.int .i64 q)).setCell ⟨gE, 4, none⟩ (.int .u8 65)).drew gE 47 #[.int .i64 4, .int .i32 0, .int .u8 0, .int .u8 0, .int .u8 65, .slice (some ⟨gP, 0, none⟩) 1 1, .string { data := #[] }] := Box.drew ((HE1.out.far (p := ⟨gP, 0, none⟩) (Ne.symm ne_gP_gE) _).set 4 (.int .u8 65))
        have hnr : NoRow wagW [some gP, some gE] := fun x hx => by
          simp at hx
          rcases hx with rfl | rfl
          · exact ⟨_, _, HP1.out, by decide⟩
          · exact ⟨_, _, HE1.out, by decide⟩
        generalize ((wagW.setCell ⟨gP, 0, none⟩ (.int .i64 q)).setCell ⟨gE, 4, none⟩ (.int .u8 65)).drew = w3 at hk3 hp3 he3 ⊢
        have HP3 := hide hp3
        have HE3 := hide he3
        have HS3 := hide (HSs7.out.kept hk3 (by simp; exact ⟨ne_gs_gP, ne_gs_gE⟩))
        have HG3 := hide (HGs9.out.keptS hnr hk3)
        have HBG3 := hide (HBG.out.kept hk3 (by simp; exact ⟨Ne.symm ne_gP_gG, Ne.symm ne_gE_gG⟩))
        have HBW3 := hide (HBW.out.kept hk3 (by simp; exact ⟨Ne.symm ne_gP_gW, Ne.symm ne_gE_gW⟩))
        have HK3 := hide ((Kept.refl [some gG, some gW, some gE, some gP] wagW).trans hk3 (fun x hx => From.mem (by simp at hx; rcases hx with rfl | rfl <;> simp)))
        clear p0 zp0 e4 e5 ze4 hp3 he3 hk3 hnr
        go_upto_region 17 with fail
        refine wp_region_gt2 (n := 154) 6 [] (fun _ => #[]) [(0, 0, 0, 0, 0), (0, 0, 0, 0, 0), (1, 0, 0, 0, 0), (0, 0, 0, 0, 0), (0, 0, 0, 0, 0), (1, 0, 0, 0, 0), (0, 0, 0, 0, 0), (0, 0, 0, 0, 0)] (fun j => [(.agg (scA (.slice A1 (S.g.rows * S.g.cols) c1) S)), (.int .i64 (q : Nat)), undef, (.agg (scA (.slice A1 (S.g.rows * S.g.cols) c1) S)), (.agg #[.int .i64 4, .int .i32 0, .int .u8 0, .int .u8 0, .int .u8 65, .slice (some ⟨gP, 0, none⟩) 1 1, .string { data := #[] }]), undef, undef, undef].getD j undef) [none, none, some (ScrV T), none, none, some (ScrV T)] (fun _ => 0) (by kernel_rfl) (by kernel_rfl) (by kernel_rfl) rfl (by kernel_rfl) (by kernel_rfl) (gno4 rfl) (fun i j h => by revert h; exact gno4 (p := fun _ => _) rfl i) (AllG.none_ (AllG.none_ (AllG.some_ (ScrV.stays (by kernel_rfl)) (AllG.none_ (AllG.none_ (AllG.some_ (ScrV.stays (by kernel_rfl)) (AllG.nil _))))))) (fun hGS => cases6 ⟨?_, ?_, ?_, ?_, ?_, ?_⟩) ?_
        · intro L a w' hL hsame hsz hJ hdep hcl
          have hb := hJ.kept.toBelow (Nat.le_refl _) (by simp)
          have e0 : a.eval (.tmp 11) = (.pointer (some ⟨gs, 0, none⟩)) := eval_base hsame (by kernel_rfl)
          have hx := hJ.keptBox ((show Box _ gs 32 (scA (.slice A1 (S.g.rows * S.g.cols) c1) S) from HS3.out)) (by simp)
          exact Step.val _ rfl rfl (wanted_none rfl) (.agg (scA (.slice A1 (S.g.rows * S.g.cols) c1) S)) w' (fun ρ hρ => exec_load_any hx rfl ρ _ rfl ((hρ _).symm.trans e0)) (hJ.val hGS hcl hL rfl (Below.refl _ _) _ rfl)
        · intro L a w' hL hsame hsz hJ hdep hcl
          have hb := hJ.kept.toBelow (Nat.le_refl _) (by simp)
          have e0 : a.eval (.tmp 14) = (.int .i64 (q : Nat)) := eval_base hsame (by kernel_rfl)
          refine Step.val _ rfl rfl (wanted_none rfl) (.int .i64 (q : Nat)) w' (fun ρ hρ => ?_) (hJ.val hGS hcl hL rfl (Below.refl _ _) _ rfl)
          rw [hρ] at e0
          clear hJ hsame hdep hcl hρ hsz hb
          go_simp
        · intro L a w' hL hsame hsz hJ hdep hcl
          have hb := hJ.kept.toBelow (Nat.le_refl _) (by simp)
          have e0 : a.eval (.tmp 85) = (.agg (scA (.slice A1 (S.g.rows * S.g.cols) c1) S)) := eval_slot (j := 0) (by kernel_rfl) (hJ.valOf (by decide) (dep_of hdep 0 (by kernel_rfl)) rfl rfl)
          have e1 : a.eval (.tmp 86) = (.int .i64 (q : Nat)) := eval_slot (j := 1) (by kernel_rfl) (hJ.valOf (by decide) (dep_of hdep 1 (by kernel_rfl)) rfl rfl)
          refine Step.call _ rfl rfl (wanted_none rfl) 19 #[.agg (scA (.slice A1 (S.g.rows * S.g.cols) c1) S), .int .i64 (q : Nat)] (fun ρ hρ => ?_) ?_
          · skip
            rw [hρ] at e0 e1
            have ef : ρ (.func 19) = .func (.func 19) #[] #[] := (hρ _).symm
            clear hJ hsame hdep hcl hρ hsz hb
            go_simp
          · refine (GP.out _ _ ⟨_, rfl, (HG3.out.low hb)⟩).mono ?_
            rintro e w2 ⟨v, rfl, hi, bb⟩
            exact ⟨_, rfl, hJ.pred hGS hcl hL rfl bb _ (scrV_of hi)⟩
        · intro L a w' hL hsame hsz hJ hdep hcl
          have hb := hJ.kept.toBelow (Nat.le_refl _) (by simp)
          have e0 : a.eval (.tmp 11) = (.pointer (some ⟨gs, 0, none⟩)) := eval_base hsame (by kernel_rfl)
          have hx := hJ.keptBox ((show Box _ gs 32 (scA (.slice A1 (S.g.rows * S.g.cols) c1) S) from HS3.out)) (by simp)
          exact Step.val _ rfl rfl (wanted_none rfl) (.agg (scA (.slice A1 (S.g.rows * S.g.cols) c1) S)) w' (fun ρ hρ => exec_load_any hx rfl ρ _ rfl ((hρ _).symm.trans e0)) (hJ.val hGS hcl hL rfl (Below.refl _ _) _ rfl)
        · intro L a w' hL hsame hsz hJ hdep hcl
          have hb := hJ.kept.toBelow (Nat.le_refl _) (by simp)
          have e0 : a.eval (.tmp 16) = (.pointer (some ⟨gE, 0, none⟩)) := eval_base hsame (by kernel_rfl)
          have hx := hJ.keptBox (HE3.out) (by simp)
          have q0 : w'.cell? ⟨gE, 0, none⟩ = some (.int .i64 4) := hx.cell 0
          have q1 : w'.cell? ⟨gE, 1, none⟩ = some (.int .i32 0) := hx.cell 1
          have q2 : w'.cell? ⟨gE, 2, none⟩ = some (.int .u8 0) := hx.cell 2
          have q3 : w'.cell? ⟨gE, 3, none⟩ = some (.int .u8 0) := hx.cell 3
          have q4 : w'.cell? ⟨gE, 4, none⟩ = some (.int .u8 65) := hx.cell 4
          have q5 : w'.cell? ⟨gE, 5, none⟩ = some (.slice (some ⟨gP, 0, none⟩) 1 1) := hx.cell 5
          have q6 : w'.cell? ⟨gE, 6, none⟩ = some (.string { data := #[] }) := hx.cell 6
          refine Step.val _ rfl rfl (wanted_none rfl) (.agg #[.int .i64 4, .int .i32 0, .int .u8 0, .int .u8 0, .int .u8 65, .slice (some ⟨gP, 0, none⟩) 1 1, .string { data := #[] }]) w' (fun ρ hρ => ?_) (hJ.val hGS hcl hL rfl (Below.refl _ _) _ rfl)
          clear hx
          rw [hρ] at e0
          clear hJ hsame hdep hcl hρ hsz hb
          go_simp
        · intro L a w' hL hsame hsz hJ hdep hcl
          have hb := hJ.kept.toBelow (Nat.le_refl _) (by simp)
          have e0 : a.eval (.tmp 88) = (.agg (scA (.slice A1 (S.g.rows * S.g.cols) c1) S)) := eval_slot (j := 3) (by kernel_rfl) (hJ.valOf (by decide) (dep_of hdep 3 (by kernel_rfl)) rfl rfl)
          have e1 : a.eval (.tmp 89) = (.agg #[.int .i64 4, .int .i32 0, .int .u8 0, .int .u8 0, .int .u8 65, .slice (some ⟨gP, 0, none⟩) 1 1, .string { data := #[] }]) := eval_slot (j := 4) (by kernel_rfl) (hJ.valOf (by decide) (dep_of hdep 4 (by kernel_rfl)) rfl rfl)
          refine Step.call _ rfl rfl (wanted_none rfl) 20 #[.agg (scA (.slice A1 (S.g.rows * S.g.cols) c1) S), .agg #[.int .i64 4, .int .i32 0, .int .u8 0, .int .u8 0, .int .u8 65, .slice (some ⟨gP, 0, none⟩) 1 1, .string { data := #[] }]] (fun ρ hρ => ?_) ?_
          · skip
            rw [hρ] at e0 e1
            have ef : ρ (.func 20) = .func (.func 20) #[] #[] := (hρ _).symm
            clear hJ hsame hdep hcl hρ hsz hb
            go_simp
          · refine (GR.out _ (HP3.out.below hb HP3.out.lt)).mono ?_
            rintro e w2 ⟨rfl, bb⟩
            exact ⟨_, rfl, hJ.pred hGS hcl hL rfl bb _ (scrV_same ETG.out ((HG3.out.low hb).low bb))⟩
        · intro L u w' hF hall
          change wpList _ _ _ _ (Act.put (Act.put (Act.put (Act.put (Act.put (Act.put (Act.put (Act.put (putAll _ u 0 _) (some 85) (u 0)) (some 86) (u 1)) (some 87) (u 2)) (some 88) (u 3)) (some 89) (u 4)) (some 90) (u 5)) none (u 6)) none (u 7)) _
          simp only [putAll]
          obtain ⟨Aa, ca, fa, hia⟩ := (show ScrV T (u 2) w' from hF.predOf (j := 2) (by decide) (hall 2 (by decide)) rfl)
          obtain ⟨Ab, cb, fb, hib⟩ := (show ScrV T (u 5) w' from hF.predOf (j := 5) (by decide) (hall 5 (by decide)) rfl)
          have hk := hF.kept.toBelow (Nat.le_refl _) (by simp)
          clear hF
          generalize u 0 = y0
          generalize u 1 = y1
          generalize u 2 = y2 at fa ⊢
          generalize u 3 = y3
          generalize u 4 = y4
          generalize u 5 = y5 at fb ⊢
          generalize u 6 = y6
          generalize u 7 = y7
          subst fa fb
          simp only [List.drop_succ_cons, List.drop_zero]
          have hG9 := HBG3.out.below hk HBG3.out.lt
          have hW9 := HBW3.out.below hk HBW3.out.lt
          refine wpList_store_scr (x := .slice Aa (T.g.rows * T.g.cols) ca) (s := T) hG9 hzgG rfl _ _ rfl (by ((repeat (first | rw [put_no] | rw [put_ne (by decide)])); rfl)) (by ((repeat (first | rw [put_no] | rw [put_ne (by decide)])); rw [put_at (by (repeat rw [put_size]); exact Nat.lt_of_lt_of_le (m := 154) (by decide) (Nat.le_refl 154))])) rfl ?_
          intro wx1 hB1 hk1 hq1
          have hW10 := hW9.kept hk1 (by simp; exact Ne.symm ne_gG_gW)
          refine wpList_store_scr (x := .slice Ab (T.g.rows * T.g.cols) cb) (s := T) hW10 hzgW rfl _ _ rfl (by ((repeat (first | rw [put_no] | rw [put_ne (by decide)])); rfl)) (by ((repeat (first | rw [put_no] | rw [put_ne (by decide)])); rw [put_at (by (repeat rw [put_size]); exact Nat.lt_of_lt_of_le (m := 154) (by decide) (Nat.le_refl 154))])) rfl ?_
          intro wx2 hB2 hk2 hq2
          change Exit.inBlock _ _ Exit.normal _ _
          go_simp
          go_step
          go_meet
          exact ⟨T, _, _, RT.out, hB1.kept hk2 (by simp; exact ne_gG_gW), hB2, (hia.kept hG9 (by decide) hk1).kept hW10 (by decide) hk2, (hib.kept hG9 (by decide) hk1).kept hW10 (by decide) hk2, (((HK3.out).below hk).trans hk1 (fun x hx => From.mem (by simp at hx; simp [hx]))).trans hk2 (fun x hx => From.mem (by simp at hx; simp [hx]))⟩
    · as_aux_lemma =>
        skip
        obtain ⟨q, hq⟩ : ∃ q : Nat, max m 1 = q := ⟨_, rfl⟩
        have EM := hide (show (if ((m : Int) < 1) then (1 : Int) else (m : Int)) = ((q : Nat) : Int) by split <;> omega)
        have RT := hide (show SN.RightS (SN.downS S q) from SN.right_at RS.out (SN.downR S q) S.col)
        have GP := hide (fun w' v h => cdown_is S v q w' (by omega) RS.out h)
        have ETG := hide (show (SN.downS S q).g = S.g from rfl)
        have GR := hide (fun w' (hP : Box w' gP 3 #[.int .i64 q]) => rdo_csi 66 (.slice A1 (S.g.rows * S.g.cols) c1) S (SN.downS S q) { data := #[] } (some ⟨gP, 0, none⟩) 1 1 w' rfl (hide fun w'' hb => rcsi_is 66 (.slice A1 (S.g.rows * S.g.cols) c1) S (SN.downS S q) { data := #[] } (some ⟨gP, 0, none⟩) 1 1 w'' rfl (hide fun w3 hb3 => rmoves_down (.slice A1 (S.g.rows * S.g.cols) c1) S (SN.downS S q) { data := #[] } (some ⟨gP, 0, none⟩) 1 1 w3.heap.size q [(q : Int)] w3 rfl RS.out (seen_box1 ((hP.below hb hP.lt).below hb3 (hP.below hb hP.lt).lt) ((hP.below hb hP.lt).below hb3 (hP.below hb hP.lt).lt).lt) (Nat.le_refl _) (by omega) (by omega) (by unfold oneL; simp; omega) (by omega) rfl)))
        generalize SN.downS S q = T at RT GP ETG GR
        clear hq
        go_upto_region 19 with fail
        have p0 : wagW.cell? ⟨gP, 0, none⟩ = some (.int .i64 m) := HP1.out.cell 0
        have zp0 := HP1.out.frozen 0
        have e4 : wagW.cell? ⟨gE, 4, none⟩ = some (.int .u8 0) := HE1.out.cell 4
        have e5 : wagW.cell? ⟨gE, 5, none⟩ = some (.slice (some ⟨gP, 0, none⟩) 1 1) := HE1.out.cell 5
        have ze4 := HE1.out.frozen 4
        go_region
        simp only [EM.out]
        go_simp
        go_step
        have hk3 : Kept [some gP, some gE] wagW ((wagW.setCell ⟨gP, 0, none⟩ (.int .i64 q)).setCell ⟨gE, 4, none⟩ (.int .u8 66)).drew := (((Kept.refl [some gP, some gE] wagW).setCell (p := ⟨gP, 0, none⟩) (From.mem (by simp)) _).setCell (p := ⟨gE, 4, none⟩) (From.mem (by simp)) _).drew
        have hp3 : Box ((wagW.setCell ⟨gP, 0, none⟩ (.int .i64 q)).setCell ⟨gE, 4, none⟩ (.int .u8 66)).drew gP 3 #[.int .i64 q] := Box.drew ((HP1.out.set 0 (.int .i64 q)).far (p := ⟨gE, 4, none⟩) ne_gP_gE _)
        have he3 : Box ((wagW.setCell ⟨gP, 0, none⟩ (.int .i64 q)).setCell ⟨gE, 4, none⟩ (.int .u8 66)).drew gE 47 #[.int .i64 4, .int .i32 0, .int .u8 0, .int .u8 0, .int .u8 66, .slice (some ⟨gP, 0, none⟩) 1 1, .string { data := #[] }] := Box.drew ((HE1.out.far (p := ⟨gP, 0, none⟩) (Ne.symm ne_gP_gE) _).set 4 (.int .u8 66))
        have hnr : NoRow wagW [some gP, some gE] := fun x hx => by
          simp at hx
          rcases hx with rfl | rfl
          · exact ⟨_, _, HP1.out, by decide⟩
          · exact ⟨_, _, HE1.out, by decide⟩
        generalize ((wagW.setCell ⟨gP, 0, none⟩ (.int .i64 q)).setCell ⟨gE, 4, none⟩ (.int .u8 66)).drew = w3 at hk3 hp3 he3 ⊢
        have HP3 := hide hp3
        have HE3 := hide he3
        have HS3 := hide (HSs7.out.kept hk3 (by simp; exact ⟨ne_gs_gP, ne_gs_gE⟩))
        have HG3 := hide (HGs9.out.keptS hnr hk3)
        have HBG3 := hide (HBG.out.kept hk3 (by simp; exact ⟨Ne.symm ne_gP_gG, Ne.symm ne_gE_gG⟩))
        have HBW3 := hide (HBW.out.kept hk3 (by simp; exact ⟨Ne.symm ne_gP_gW, Ne.symm ne_gE_gW⟩))
        have HK3 := hide ((Kept.refl [some gG, some gW, some gE, some gP] wagW).trans hk3 (fun x hx => From.mem (by simp at hx; rcases hx with rfl | rfl <;> simp)))
        clear p0 zp0 e4 e5 ze4 hp3 he3 hk3 hnr
        go_upto_region 20 with fail
        refine wp_region_gt2 (n := 154) 6 [] (fun _ => #[]) [(0, 0, 0, 0, 0), (0, 0, 0, 0, 0), (1, 0, 0, 0, 0), (0, 0, 0, 0, 0), (0, 0, 0, 0, 0), (1, 0, 0, 0, 0), (0, 0, 0, 0, 0), (0, 0, 0, 0, 0)] (fun j => [(.agg (scA (.slice A1 (S.g.rows * S.g.cols) c1) S)), (.int .i64 (q : Nat)), undef, (.agg (scA (.slice A1 (S.g.rows * S.g.cols) c1) S)), (.agg #[.int .i64 4, .int .i32 0, .int .u8 0, .int .u8 0, .int .u8 66, .slice (some ⟨gP, 0, none⟩) 1 1, .string { data := #[] }]), undef, undef, undef].getD j undef) [none, none, some (ScrV T), none, none, some (ScrV T)] (fun _ => 0) (by kernel_rfl) (by kernel_rfl) (by kernel_rfl) rfl (by kernel_rfl) (by kernel_rfl) (gno4 rfl) (fun i j h => by revert h; exact gno4 (p := fun _ => _) rfl i) (AllG.none_ (AllG.none_ (AllG.some_ (ScrV.stays (by kernel_rfl)) (AllG.none_ (AllG.none_ (AllG.some_ (ScrV.stays (by kernel_rfl)) (AllG.nil _))))))) (fun hGS => cases6 ⟨?_, ?_, ?_, ?_, ?_, ?_⟩) ?_
        · intro L a w' hL hsame hsz hJ hdep hcl
          have hb := hJ.kept.toBelow (Nat.le_refl _) (by simp)
          have e0 : a.eval (.tmp 11) = (.pointer (some ⟨gs, 0, none⟩)) := eval_base hsame (by kernel_rfl)
          have hx := hJ.keptBox ((show Box _ gs 32 (scA (.slice A1 (S.g.rows * S.g.cols) c1) S) from HS3.out)) (by simp)
          exact Step.val _ rfl rfl (wanted_none rfl) (.agg (scA (.slice A1 (S.g.rows * S.g.cols) c1) S)) w' (fun ρ hρ => exec_load_any hx rfl ρ _ rfl ((hρ _).symm.trans e0)) (hJ.val hGS hcl hL rfl (Below.refl _ _) _ rfl)
        · intro L a w' hL hsame hsz hJ hdep hcl
          have hb := hJ.kept.toBelow (Nat.le_refl _) (by simp)
          have e0 : a.eval (.tmp 14) = (.int .i64 (q : Nat)) := eval_base hsame (by kernel_rfl)
          refine Step.val _ rfl rfl (wanted_none rfl) (.int .i64 (q : Nat)) w' (fun ρ hρ => ?_) (hJ.val hGS hcl hL rfl (Below.refl _ _) _ rfl)
          rw [hρ] at e0
          clear hJ hsame hdep hcl hρ hsz hb
          go_simp
        · intro L a w' hL hsame hsz hJ hdep hcl
          have hb := hJ.kept.toBelow (Nat.le_refl _) (by simp)
          have e0 : a.eval (.tmp 101) = (.agg (scA (.slice A1 (S.g.rows * S.g.cols) c1) S)) := eval_slot (j := 0) (by kernel_rfl) (hJ.valOf (by decide) (dep_of hdep 0 (by kernel_rfl)) rfl rfl)
          have e1 : a.eval (.tmp 102) = (.int .i64 (q : Nat)) := eval_slot (j := 1) (by kernel_rfl) (hJ.valOf (by decide) (dep_of hdep 1 (by kernel_rfl)) rfl rfl)
          refine Step.call _ rfl rfl (wanted_none rfl) 21 #[.agg (scA (.slice A1 (S.g.rows * S.g.cols) c1) S), .int .i64 (q : Nat)] (fun ρ hρ => ?_) ?_
          · skip
            rw [hρ] at e0 e1
            have ef : ρ (.func 21) = .func (.func 21) #[] #[] := (hρ _).symm
            clear hJ hsame hdep hcl hρ hsz hb
            go_simp
          · refine (GP.out _ _ ⟨_, rfl, (HG3.out.low hb)⟩).mono ?_
            rintro e w2 ⟨v, rfl, hi, bb⟩
            exact ⟨_, rfl, hJ.pred hGS hcl hL rfl bb _ (scrV_of hi)⟩
        · intro L a w' hL hsame hsz hJ hdep hcl
          have hb := hJ.kept.toBelow (Nat.le_refl _) (by simp)
          have e0 : a.eval (.tmp 11) = (.pointer (some ⟨gs, 0, none⟩)) := eval_base hsame (by kernel_rfl)
          have hx := hJ.keptBox ((show Box _ gs 32 (scA (.slice A1 (S.g.rows * S.g.cols) c1) S) from HS3.out)) (by simp)
          exact Step.val _ rfl rfl (wanted_none rfl) (.agg (scA (.slice A1 (S.g.rows * S.g.cols) c1) S)) w' (fun ρ hρ => exec_load_any hx rfl ρ _ rfl ((hρ _).symm.trans e0)) (hJ.val hGS hcl hL rfl (Below.refl _ _) _ rfl)
        · intro L a w' hL hsame hsz hJ hdep hcl
          have hb := hJ.kept.toBelow (Nat.le_refl _) (by simp)
          have e0 : a.eval (.tmp 16) = (.pointer (some ⟨gE, 0, none⟩)) := eval_base hsame (by kernel_rfl)
          have hx := hJ.keptBox (HE3.out) (by simp)
          have q0 : w'.cell? ⟨gE, 0, none⟩ = some (.int .i64 4) := hx.cell 0
          have q1 : w'.cell? ⟨gE, 1, none⟩ = some (.int .i32 0) := hx.cell 1
          have q2 : w'.cell? ⟨gE, 2, none⟩ = some (.int .u8 0) := hx.cell 2
          have q3 : w'.cell? ⟨gE, 3, none⟩ = some (.int .u8 0) := hx.cell 3
          have q4 : w'.cell? ⟨gE, 4, none⟩ = some (.int .u8 66) := hx.cell 4
          have q5 : w'.cell? ⟨gE, 5, none⟩ = some (.slice (some ⟨gP, 0, none⟩) 1 1) := hx.cell 5
          have q6 : w'.cell? ⟨gE, 6, none⟩ = some (.string { data := #[] }) := hx.cell 6
          refine Step.val _ rfl rfl (wanted_none rfl) (.agg #[.int .i64 4, .int .i32 0, .int .u8 0, .int .u8 0, .int .u8 66, .slice (some ⟨gP, 0, none⟩) 1 1, .string { data := #[] }]) w' (fun ρ hρ => ?_) (hJ.val hGS hcl hL rfl (Below.refl _ _) _ rfl)
          clear hx
          rw [hρ] at e0
          clear hJ hsame hdep hcl hρ hsz hb
          go_simp
        · intro L a w' hL hsame hsz hJ hdep hcl
          have hb := hJ.kept.toBelow (Nat.le_refl _) (by simp)
          have e0 : a.eval (.tmp 104) = (.agg (scA (.slice A1 (S.g.rows * S.g.cols) c1) S)) := eval_slot (j := 3) (by kernel_rfl) (hJ.valOf (by decide) (dep_of hdep 3 (by kernel_rfl)) rfl rfl)
          have e1 : a.eval (.tmp 105) = (.agg #[.int .i64 4, .int .i32 0, .int .u8 0, .int .u8 0, .int .u8 66, .slice (some ⟨gP, 0, none⟩) 1 1, .string { data := #[] }]) := eval_slot (j := 4) (by kernel_rfl) (hJ.valOf (by decide) (dep_of hdep 4 (by kernel_rfl)) rfl rfl)
          refine Step.call _ rfl rfl (wanted_none rfl) 20 #[.agg (scA (.slice A1 (S.g.rows * S.g.cols) c1) S), .agg #[.int .i64 4, .int .i32 0, .int .u8 0, .int .u8 0, .int .u8 66, .slice (some ⟨gP, 0, none⟩) 1 1, .string { data := #[] }]] (fun ρ hρ => ?_) ?_
          · skip
            rw [hρ] at e0 e1
            have ef : ρ (.func 20) = .func (.func 20) #[] #[] := (hρ _).symm
            clear hJ hsame hdep hcl hρ hsz hb
            go_simp
          · refine (GR.out _ (HP3.out.below hb HP3.out.lt)).mono ?_
            rintro e w2 ⟨rfl, bb⟩
            exact ⟨_, rfl, hJ.pred hGS hcl hL rfl bb _ (scrV_same ETG.out ((HG3.out.low hb).low bb))⟩
        · intro L u w' hF hall
          change wpList _ _ _ _ (Act.put (Act.put (Act.put (Act.put (Act.put (Act.put (Act.put (Act.put (putAll _ u 0 _) (some 101) (u 0)) (some 102) (u 1)) (some 103) (u 2)) (some 104) (u 3)) (some 105) (u 4)) (some 106) (u 5)) none (u 6)) none (u 7)) _
          simp only [putAll]
          obtain ⟨Aa, ca, fa, hia⟩ := (show ScrV T (u 2) w' from hF.predOf (j := 2) (by decide) (hall 2 (by decide)) rfl)
          obtain ⟨Ab, cb, fb, hib⟩ := (show ScrV T (u 5) w' from hF.predOf (j := 5) (by decide) (hall 5 (by decide)) rfl)
          have hk := hF.kept.toBelow (Nat.le_refl _) (by simp)
          clear hF
          generalize u 0 = y0
          generalize u 1 = y1
          generalize u 2 = y2 at fa ⊢
          generalize u 3 = y3
          generalize u 4 = y4
          generalize u 5 = y5 at fb ⊢
          generalize u 6 = y6
          generalize u 7 = y7
          subst fa fb
          simp only [List.drop_succ_cons, List.drop_zero]
          have hG9 := HBG3.out.below hk HBG3.out.lt
          have hW9 := HBW3.out.below hk HBW3.out.lt
          refine wpList_store_scr (x := .slice Aa (T.g.rows * T.g.cols) ca) (s := T) hG9 hzgG rfl _ _ rfl (by ((repeat (first | rw [put_no] | rw [put_ne (by decide)])); rfl)) (by ((repeat (first | rw [put_no] | rw [put_ne (by decide)])); rw [put_at (by (repeat rw [put_size]); exact Nat.lt_of_lt_of_le (m := 154) (by decide) (Nat.le_refl 154))])) rfl ?_
          intro wx1 hB1 hk1 hq1
          have hW10 := hW9.kept hk1 (by simp; exact Ne.symm ne_gG_gW)
          refine wpList_store_scr (x := .slice Ab (T.g.rows * T.g.cols) cb) (s := T) hW10 hzgW rfl _ _ rfl (by ((repeat (first | rw [put_no] | rw [put_ne (by decide)])); rfl)) (by ((repeat (first | rw [put_no] | rw [put_ne (by decide)])); rw [put_at (by (repeat rw [put_size]); exact Nat.lt_of_lt_of_le (m := 154) (by decide) (Nat.le_refl 154))])) rfl ?_
          intro wx2 hB2 hk2 hq2
          change Exit.inBlock _ _ Exit.normal _ _
          go_simp
          go_step
          go_meet
          exact ⟨T, _, _, RT.out, hB1.kept hk2 (by simp; exact ne_gG_gW), hB2, (hia.kept hG9 (by decide) hk1).kept hW10 (by decide) hk2, (hib.kept hG9 (by decide) hk1).kept hW10 (by decide) hk2, (((HK3.out).below hk).trans hk1 (fun x hx => From.mem (by simp at hx; simp [hx]))).trans hk2 (fun x hx => From.mem (by simp at hx; simp [hx]))⟩
    · as_aux_lemma =>
        skip
        obtain ⟨p, hp⟩ : ∃ p : Nat, max y 0 = (p : Int) := ⟨(max y 0).toNat, by omega⟩
        obtain ⟨q, hq⟩ : ∃ q : Nat, max x 0 = (q : Int) := ⟨(max x 0).toNat, by omega⟩
        have EY := hide (show (if (y < 0) then (0 : Int) else y) = ((p : Nat) : Int) by split <;> omega)
        have EX := hide (show (if (x < 0) then (0 : Int) else x) = ((q : Nat) : Int) by split <;> omega)
        have hp9 : p ≤ 9 := by omega
        have hq14 : q ≤ 14 := by omega
        clear hp hq
        have RT := hide (show SN.RightS (SN.goS S (p : Int) (q : Int)) from SN.right_at RS.out (SN.goR S p) (q : Int))
        have GP := hide (fun w' v h => cgo_is S v (p : Int) (q : Int) w' RS.out (by omega) (by omega) h)
        have ETG := hide (show (SN.goS S (p : Int) (q : Int)).g = S.g from rfl)
        have hgo : SN.goS S (((p + 1 : Nat) : Int) - 1) (((q + 1 : Nat) : Int) - 1) = SN.goS S (p : Int) (q : Int) := by
          rw [show (((p + 1 : Nat) : Int) - 1) = (p : Int) by omega, show (((q + 1 : Nat) : Int) - 1) = (q : Int) by omega]
        have GR := hide (fun (gQ : Nat) w' (hP : Box w' gQ 3 #[.int .i64 ((p : Int) + 1), .int .i64 ((q : Int) + 1)]) => rdo_csi 72 (.slice A1 (S.g.rows * S.g.cols) c1) S (SN.goS S (p : Int) (q : Int)) { data := #[] } (some ⟨gQ, 0, none⟩) 2 2 w' rfl (hide fun w'' hb => rcsi_is 72 (.slice A1 (S.g.rows * S.g.cols) c1) S (SN.goS S (p : Int) (q : Int)) { data := #[] } (some ⟨gQ, 0, none⟩) 2 2 w'' rfl (hide fun w3 hb3 => rmoves_go (.slice A1 (S.g.rows * S.g.cols) c1) S (SN.goS S (p : Int) (q : Int)) { data := #[] } (some ⟨gQ, 0, none⟩) 2 2 w3.heap.size (p + 1) (q + 1) [(p : Int) + 1, (q : Int) + 1] w3 rfl RS.out (seen_box2 ((hP.below hb hP.lt).below hb3 (hP.below hb hP.lt).lt) ((hP.below hb hP.lt).below hb3 (hP.below hb hP.lt).lt).lt) (Nat.le_refl _) (by omega) (by omega) (by unfold oneL; simp; omega) (by unfold oneL; simp; omega) (by omega) (by omega) hgo)))
        clear hgo
        generalize SN.goS S (p : Int) (q : Int) = T at RT GP ETG GR
        go_upto_region 23 with fail
        simp only [EY.out, EX.out]
        refine wp_region_gt2 (n := 154) 12 [] (fun _ => #[]) [(0, 0, 0, 0, 0), (0, 0, 0, 0, 0), (0, 0, 0, 0, 0), (1, 0, 0, 0, 0), (0, 0, 0, 0, 0), (0, 0, 0, 0, 0), (0, 0, 0, 0, 0), (0, 0, 0, 0, 0), (0, 0, 0, 0, 0), (1, 0, 0, 0, 0), (1, 0, 0, 0, 0), (1, 0, 0, 0, 0), (0, 0, 0, 0, 0), (0, 0, 0, 0, 0)] (fun j => [(.agg (scA (.slice A1 (S.g.rows * S.g.cols) c1) S)), (.int .i64 (p : Nat)), (.int .i64 (q : Nat)), undef, (.agg (scA (.slice A1 (S.g.rows * S.g.cols) c1) S)), (.int .i64 (p : Nat)), (.int .i64 ((p : Int) + 1)), (.int .i64 (q : Nat)), (.int .i64 ((q : Int) + 1)), undef, undef, undef, undef, undef].getD j undef) [none, none, none, some (ScrV T), none, none, none, none, none, some (NewS 3 2 #[.int .i64 ((p : Int) + 1), .int .i64 ((q : Int) + 1)]), some (EvP ((p : Int) + 1) ((q : Int) + 1)), some (ScrV T)] (fun _ => 0) (by kernel_rfl) (by kernel_rfl) (by kernel_rfl) rfl (by kernel_rfl) (by kernel_rfl) (gno4 rfl) (fun i j h => by revert h; exact gno4 (p := fun _ => _) rfl i) (AllG.none_ (AllG.none_ (AllG.none_ (AllG.some_ (ScrV.stays (by kernel_rfl)) (AllG.none_ (AllG.none_ (AllG.none_ (AllG.none_ (AllG.none_ (AllG.some_ (NewS.stays (by kernel_rfl)) (AllG.some_ (EvP.stays (by kernel_rfl)) (AllG.some_ (ScrV.stays (by kernel_rfl)) (AllG.nil _))))))))))))) (fun hGS => cases12 ⟨?_, ?_, ?_, ?_, ?_, ?_, ?_, ?_, ?_, ?_, ?_, ?_⟩) ?_
        · intro L a w' hL hsame hsz hJ hdep hcl
          have hb := hJ.kept.toBelow (Nat.le_refl _) (by simp)
          have e0 : a.eval (.tmp 11) = (.pointer (some ⟨gs, 0, none⟩)) := eval_base hsame (by kernel_rfl)
          have hx := hJ.keptBox ((show Box _ gs 32 (scA (.slice A1 (S.g.rows * S.g.cols) c1) S) from HSs7.out)) (by simp)
          exact Step.val _ rfl rfl (wanted_none rfl) (.agg (scA (.slice A1 (S.g.rows * S.g.cols) c1) S)) w' (fun ρ hρ => exec_load_any hx rfl ρ _ rfl ((hρ _).symm.trans e0)) (hJ.val hGS hcl hL rfl (Below.refl _ _) _ rfl)
        · intro L a w' hL hsame hsz hJ hdep hcl
          have hb := hJ.kept.toBelow (Nat.le_refl _) (by simp)
          have e0 : a.eval (.tmp 12) = (.int .i64 (p : Nat)) := eval_base hsame (by kernel_rfl)
          refine Step.val _ rfl rfl (wanted_none rfl) (.int .i64 (p : Nat)) w' (fun ρ hρ => ?_) (hJ.val hGS hcl hL rfl (Below.refl _ _) _ rfl)
          rw [hρ] at e0
          clear hJ hsame hdep hcl hρ hsz hb
          go_simp
        · intro L a w' hL hsame hsz hJ hdep hcl
          have hb := hJ.kept.toBelow (Nat.le_refl _) (by simp)
          have e0 : a.eval (.tmp 13) = (.int .i64 (q : Nat)) := eval_base hsame (by kernel_rfl)
          refine Step.val _ rfl rfl (wanted_none rfl) (.int .i64 (q : Nat)) w' (fun ρ hρ => ?_) (hJ.val hGS hcl hL rfl (Below.refl _ _) _ rfl)
          rw [hρ] at e0
          clear hJ hsame hdep hcl hρ hsz hb
          go_simp
        · intro L a w' hL hsame hsz hJ hdep hcl
          have hb := hJ.kept.toBelow (Nat.le_refl _) (by simp)
          have e0 : a.eval (.tmp 113) = (.agg (scA (.slice A1 (S.g.rows * S.g.cols) c1) S)) := eval_slot (j := 0) (by kernel_rfl) (hJ.valOf (by decide) (dep_of hdep 0 (by kernel_rfl)) rfl rfl)
          have e1 : a.eval (.tmp 114) = (.int .i64 (p : Nat)) := eval_slot (j := 1) (by kernel_rfl) (hJ.valOf (by decide) (dep_of hdep 1 (by kernel_rfl)) rfl rfl)
          have e2 : a.eval (.tmp 115) = (.int .i64 (q : Nat)) := eval_slot (j := 2) (by kernel_rfl) (hJ.valOf (by decide) (dep_of hdep 2 (by kernel_rfl)) rfl rfl)
          refine Step.call _ rfl rfl (wanted_none rfl) 22 #[.agg (scA (.slice A1 (S.g.rows * S.g.cols) c1) S), .int .i64 (p : Nat), .int .i64 (q : Nat)] (fun ρ hρ => ?_) ?_
          · skip
            rw [hρ] at e0 e1 e2
            have ef : ρ (.func 22) = .func (.func 22) #[] #[] := (hρ _).symm
            clear hJ hsame hdep hcl hρ hsz hb
            go_simp
          · refine (GP.out _ _ ⟨_, rfl, (HGs9.out.low hb)⟩).mono ?_
            rintro e w2 ⟨v, rfl, hi, bb⟩
            exact ⟨_, rfl, hJ.pred hGS hcl hL rfl bb _ (scrV_of hi)⟩
        · intro L a w' hL hsame hsz hJ hdep hcl
          have hb := hJ.kept.toBelow (Nat.le_refl _) (by simp)
          have e0 : a.eval (.tmp 11) = (.pointer (some ⟨gs, 0, none⟩)) := eval_base hsame (by kernel_rfl)
          have hx := hJ.keptBox ((show Box _ gs 32 (scA (.slice A1 (S.g.rows * S.g.cols) c1) S) from HSs7.out)) (by simp)
          exact Step.val _ rfl rfl (wanted_none rfl) (.agg (scA (.slice A1 (S.g.rows * S.g.cols) c1) S)) w' (fun ρ hρ => exec_load_any hx rfl ρ _ rfl ((hρ _).symm.trans e0)) (hJ.val hGS hcl hL rfl (Below.refl _ _) _ rfl)
        · intro L a w' hL hsame hsz hJ hdep hcl
          have hb := hJ.kept.toBelow (Nat.le_refl _) (by simp)
          have e0 : a.eval (.tmp 12) = (.int .i64 (p : Nat)) := eval_base hsame (by kernel_rfl)
          refine Step.val _ rfl rfl (wanted_none rfl) (.int .i64 (p : Nat)) w' (fun ρ hρ => ?_) (hJ.val hGS hcl hL rfl (Below.refl _ _) _ rfl)
          rw [hρ] at e0
          clear hJ hsame hdep hcl hρ hsz hb
          go_simp
        · intro L a w' hL hsame hsz hJ hdep hcl
          have hb := hJ.kept.toBelow (Nat.le_refl _) (by simp)
          have e0 : a.eval (.tmp 118) = (.int .i64 (p : Nat)) := eval_slot (j := 5) (by kernel_rfl) (hJ.valOf (by decide) (dep_of hdep 5 (by kernel_rfl)) rfl rfl)
          refine Step.val _ rfl rfl (wanted_none rfl) (.int .i64 ((p : Int) + 1)) w' (fun ρ hρ => ?_) (hJ.val hGS hcl hL rfl (Below.refl _ _) _ rfl)
          rw [hρ] at e0
          have ec0 : ρ (.const (.int .i64 1)) = (.int .i64 1) := (hρ _).symm
          clear hJ hsame hdep hcl hρ hsz hb
          go_simp
          exact IntWalk.i64_in _ (by omega)
        · intro L a w' hL hsame hsz hJ hdep hcl
          have hb := hJ.kept.toBelow (Nat.le_refl _) (by simp)
          have e0 : a.eval (.tmp 13) = (.int .i64 (q : Nat)) := eval_base hsame (by kernel_rfl)
          refine Step.val _ rfl rfl (wanted_none rfl) (.int .i64 (q : Nat)) w' (fun ρ hρ => ?_) (hJ.val hGS hcl hL rfl (Below.refl _ _) _ rfl)
          rw [hρ] at e0
          clear hJ hsame hdep hcl hρ hsz hb
          go_simp
        · intro L a w' hL hsame hsz hJ hdep hcl
          have hb := hJ.kept.toBelow (Nat.le_refl _) (by simp)
          have e0 : a.eval (.tmp 120) = (.int .i64 (q : Nat)) := eval_slot (j := 7) (by kernel_rfl) (hJ.valOf (by decide) (dep_of hdep 7 (by kernel_rfl)) rfl rfl)
          refine Step.val _ rfl rfl (wanted_none rfl) (.int .i64 ((q : Int) + 1)) w' (fun ρ hρ => ?_) (hJ.val hGS hcl hL rfl (Below.refl _ _) _ rfl)
          rw [hρ] at e0
          have ec0 : ρ (.const (.int .i64 1)) = (.int .i64 1) := (hρ _).symm
          clear hJ hsame hdep hcl hρ hsz hb
          go_simp
          exact IntWalk.i64_in _ (by omega)
        · intro L a w' hL hsame hsz hJ hdep hcl
          have hb := hJ.kept.toBelow (Nat.le_refl _) (by simp)
          have e0 : a.eval (.tmp 119) = (.int .i64 ((p : Int) + 1)) := eval_slot (j := 6) (by kernel_rfl) (hJ.valOf (by decide) (dep_of hdep 6 (by kernel_rfl)) rfl rfl)
          have e1 : a.eval (.tmp 121) = (.int .i64 ((q : Int) + 1)) := eval_slot (j := 8) (by kernel_rfl) (hJ.valOf (by decide) (dep_of hdep 8 (by kernel_rfl)) rfl rfl)
          refine Step.val _ rfl rfl (wanted_none rfl) (.slice (some ⟨w'.heap.size, 0, none⟩) 2 2) (w'.alloc (.cells #[.int .i64 ((p : Int) + 1), .int .i64 ((q : Int) + 1)] 3)) (fun ρ hρ => ?_) (hJ.pred hGS hcl hL rfl ((Below.refl _ _).alloc (Nat.le_refl _) _) _ (⟨_, rfl, Box.new w' _ _⟩))
          rw [hρ] at e0 e1
          clear hJ hsame hdep hcl hρ hsz hb
          go_simp
        · intro L a w' hL hsame hsz hJ hdep hcl
          have hb := hJ.kept.toBelow (Nat.le_refl _) (by simp)
          obtain ⟨g9, hv9, hs9⟩ := (show (NewS 3 2 #[.int .i64 ((p : Int) + 1), .int .i64 ((q : Int) + 1)]) (valOf _ 9 a) w' from hJ.predOf (by decide) (dep_of hdep 9 (by kernel_rfl)) rfl)
          have e2 : a.eval (.tmp 122) = .slice (some ⟨g9, 0, none⟩) 2 2 := eval_slot (j := 9) (by kernel_rfl) hv9
          refine Step.val _ rfl rfl (wanted_none rfl) (.agg #[.int .i64 4, .int .i32 0, .int .u8 0, .int .u8 0, .int .u8 72, .slice (some ⟨g9, 0, none⟩) 2 2, .string { data := #[] }]) (w') (fun ρ hρ => ?_) (hJ.pred hGS hcl hL rfl (Below.refl _ _) _ (⟨g9, rfl, hs9⟩))
          rw [hρ] at e2
          have ec0 : ρ (.const (.int .i64 4)) = (.int .i64 4) := (hρ _).symm
          have ec1 : ρ (.const (.int .u8 72)) = (.int .u8 72) := (hρ _).symm
          clear hJ hsame hdep hcl hρ hsz hb
          go_simp
        · intro L a w' hL hsame hsz hJ hdep hcl
          have hb := hJ.kept.toBelow (Nat.le_refl _) (by simp)
          have e0 : a.eval (.tmp 117) = (.agg (scA (.slice A1 (S.g.rows * S.g.cols) c1) S)) := eval_slot (j := 4) (by kernel_rfl) (hJ.valOf (by decide) (dep_of hdep 4 (by kernel_rfl)) rfl rfl)
          obtain ⟨g10, hv10, hs10⟩ := (show (EvP ((p : Int) + 1) ((q : Int) + 1)) (valOf _ 10 a) w' from hJ.predOf (by decide) (dep_of hdep 10 (by kernel_rfl)) rfl)
          have e1 : a.eval (.tmp 123) = .agg #[.int .i64 4, .int .i32 0, .int .u8 0, .int .u8 0, .int .u8 72, .slice (some ⟨g10, 0, none⟩) 2 2, .string { data := #[] }] := eval_slot (j := 10) (by kernel_rfl) hv10
          refine Step.call _ rfl rfl (wanted_none rfl) 20 #[.agg (scA (.slice A1 (S.g.rows * S.g.cols) c1) S), .agg #[.int .i64 4, .int .i32 0, .int .u8 0, .int .u8 0, .int .u8 72, .slice (some ⟨g10, 0, none⟩) 2 2, .string { data := #[] }]] (fun ρ hρ => ?_) ?_
          · skip
            rw [hρ] at e0 e1
            have ef : ρ (.func 20) = .func (.func 20) #[] #[] := (hρ _).symm
            clear hJ hsame hdep hcl hρ hsz hb
            go_simp
          · refine (GR.out _ _ hs10).mono ?_
            rintro e w2 ⟨rfl, bb⟩
            exact ⟨_, rfl, hJ.pred hGS hcl hL rfl bb _ (scrV_same ETG.out ((HGs9.out.low hb).low bb))⟩
        · intro L u w' hF hall
          change wpList _ _ _ _ (Act.put (Act.put (Act.put (Act.put (Act.put (Act.put (Act.put (Act.put (Act.put (Act.put (Act.put (Act.put (Act.put (Act.put (putAll _ u 0 _) (some 113) (u 0)) (some 114) (u 1)) (some 115) (u 2)) (some 116) (u 3)) (some 117) (u 4)) (some 118) (u 5)) (some 119) (u 6)) (some 120) (u 7)) (some 121) (u 8)) (some 122) (u 9)) (some 123) (u 10)) (some 124) (u 11)) none (u 12)) none (u 13)) _
          simp only [putAll]
          obtain ⟨Aa, ca, fa, hia⟩ := (show ScrV T (u 3) w' from hF.predOf (j := 3) (by decide) (hall 3 (by decide)) rfl)
          obtain ⟨Ab, cb, fb, hib⟩ := (show ScrV T (u 11) w' from hF.predOf (j := 11) (by decide) (hall 11 (by decide)) rfl)
          have hk := hF.kept.toBelow (Nat.le_refl _) (by simp)
          clear hF
          generalize u 0 = y0
          generalize u 1 = y1
          generalize u 2 = y2
          generalize u 3 = y3 at fa ⊢
          generalize u 4 = y4
          generalize u 5 = y5
          generalize u 6 = y6
          generalize u 7 = y7
          generalize u 8 = y8
          generalize u 9 = y9
          generalize u 10 = y10
          generalize u 11 = y11 at fb ⊢
          generalize u 12 = y12
          generalize u 13 = y13
          subst fa fb
          simp only [List.drop_succ_cons, List.drop_zero]
          have hG9 := HBG.out.below hk HBG.out.lt
          have hW9 := HBW.out.below hk HBW.out.lt
          refine wpList_store_scr (x := .slice Aa (T.g.rows * T.g.cols) ca) (s := T) hG9 hzgG rfl _ _ rfl (by ((repeat (first | rw [put_no] | rw [put_ne (by decide)])); rfl)) (by ((repeat (first | rw [put_no] | rw [put_ne (by decide)])); rw [put_at (by (repeat rw [put_size]); exact Nat.lt_of_lt_of_le (m := 154) (by decide) (Nat.le_refl 154))])) rfl ?_
          intro wx1 hB1 hk1 hq1
          have hW10 := hW9.kept hk1 (by simp; exact Ne.symm ne_gG_gW)
          refine wpList_store_scr (x := .slice Ab (T.g.rows * T.g.cols) cb) (s := T) hW10 hzgW rfl _ _ rfl (by ((repeat (first | rw [put_no] | rw [put_ne (by decide)])); rfl)) (by ((repeat (first | rw [put_no] | rw [put_ne (by decide)])); rw [put_at (by (repeat rw [put_size]); exact Nat.lt_of_lt_of_le (m := 154) (by decide) (Nat.le_refl 154))])) rfl ?_
          intro wx2 hB2 hk2 hq2
          change Exit.inBlock _ _ Exit.normal _ _
          go_simp
          go_step
          go_meet
          exact ⟨T, _, _, RT.out, hB1.kept hk2 (by simp; exact ne_gG_gW), hB2, (hia.kept hG9 (by decide) hk1).kept hW10 (by decide) hk2, (hib.kept hG9 (by decide) hk1).kept hW10 (by decide) hk2, (((Kept.refl [some gG, some gW, some gE, some gP] wagW).below hk).trans hk1 (fun x hx => From.mem (by simp at hx; simp [hx]))).trans hk2 (fun x hx => From.mem (by simp at hx; simp [hx]))⟩
    · as_aux_lemma =>
        have RT0 := hide (show SN.RightS (SN.homeS S) from SN.right_at RS.out (SN.goR S 0) 0)
        have GP := hide (fun w' v h => chome_is S v w' RS.out h)
        have GR := hide (fun w' => rdo_csi 72 (.slice A1 (S.g.rows * S.g.cols) c1) S (SN.homeS S) { data := #[] } none 0 0 w' rfl (hide fun w'' hb => rcsi_is 72 (.slice A1 (S.g.rows * S.g.cols) c1) S (SN.homeS S) { data := #[] } none 0 0 w'' rfl (hide fun w3 hb3 => rmoves_go (.slice A1 (S.g.rows * S.g.cols) c1) S (SN.homeS S) { data := #[] } none 0 0 w3.heap.size 1 1 [] w3 rfl RS.out (Seen.nil_ _ _ _) (Nat.le_refl _) (by omega) (by omega) rfl rfl (by omega) (by omega) rfl)))
        have ETG := hide (show (SN.homeS S).g = S.g from rfl)
        generalize (SN.homeS S) = T at RT0 GP GR ETG
        have RT := RT0
        clear RT0
        go_upto_region 25 with fail
        refine wp_region_gt2 (n := 154) 5 [] (fun _ => #[]) [(0, 0, 0, 0, 0), (1, 0, 0, 0, 0), (0, 0, 0, 0, 0), (0, 0, 0, 0, 0), (1, 0, 0, 0, 0), (0, 0, 0, 0, 0), (0, 0, 0, 0, 0)] (fun j => [(.agg (scA (.slice A1 (S.g.rows * S.g.cols) c1) S)), undef, (.agg (scA (.slice A1 (S.g.rows * S.g.cols) c1) S)), (.agg #[.int .i64 4, .int .i32 0, .int .u8 0, .int .u8 0, .int .u8 72, .slice none 0 0, .string { data := #[] }]), undef, undef, undef].getD j undef) [none, some (ScrV T), none, none, some (ScrV T)] (fun _ => 0) (by kernel_rfl) (by kernel_rfl) (by kernel_rfl) rfl (by kernel_rfl) (by kernel_rfl) (gno4 rfl) (fun i j h => by revert h; exact gno4 (p := fun _ => _) rfl i) (AllG.none_ (AllG.some_ (ScrV.stays (by kernel_rfl)) (AllG.none_ (AllG.none_ (AllG.some_ (ScrV.stays (by kernel_rfl)) (AllG.nil _)))))) (fun hGS => cases5 ⟨?_, ?_, ?_, ?_, ?_⟩) ?_
        · intro L a w' hL hsame hsz hJ hdep hcl
          have hb := hJ.kept.toBelow (Nat.le_refl _) (by simp)
          have e0 : a.eval (.tmp 11) = (.pointer (some ⟨gs, 0, none⟩)) := eval_base hsame (by kernel_rfl)
          have hx := hJ.keptBox ((show Box _ gs 32 (scA (.slice A1 (S.g.rows * S.g.cols) c1) S) from HSs7.out)) (by simp)
          exact Step.val _ rfl rfl (wanted_none rfl) (.agg (scA (.slice A1 (S.g.rows * S.g.cols) c1) S)) w' (fun ρ hρ => exec_load_any hx rfl ρ _ rfl ((hρ _).symm.trans e0)) (hJ.val hGS hcl hL rfl (Below.refl _ _) _ rfl)
        · intro L a w' hL hsame hsz hJ hdep hcl
          have hb := hJ.kept.toBelow (Nat.le_refl _) (by simp)
          have e0 : a.eval (.tmp 127) = (.agg (scA (.slice A1 (S.g.rows * S.g.cols) c1) S)) := eval_slot (j := 0) (by kernel_rfl) (hJ.valOf (by decide) (dep_of hdep 0 (by kernel_rfl)) rfl rfl)
          refine Step.call _ rfl rfl (wanted_none rfl) 23 #[.agg (scA (.slice A1 (S.g.rows * S.g.cols) c1) S)] (fun ρ hρ => ?_) ?_
          · skip
            rw [hρ] at e0
            have ef : ρ (.func 23) = .func (.func 23) #[] #[] := (hρ _).symm
            clear hJ hsame hdep hcl hρ hsz hb
            go_simp
          · refine (GP.out _ _ ⟨_, rfl, (HGs9.out.low hb)⟩).mono ?_
            rintro e w2 ⟨v, rfl, hi, bb⟩
            exact ⟨_, rfl, hJ.pred hGS hcl hL rfl bb _ (scrV_of hi)⟩
        · intro L a w' hL hsame hsz hJ hdep hcl
          have hb := hJ.kept.toBelow (Nat.le_refl _) (by simp)
          have e0 : a.eval (.tmp 11) = (.pointer (some ⟨gs, 0, none⟩)) := eval_base hsame (by kernel_rfl)
          have hx := hJ.keptBox ((show Box _ gs 32 (scA (.slice A1 (S.g.rows * S.g.cols) c1) S) from HSs7.out)) (by simp)
          exact Step.val _ rfl rfl (wanted_none rfl) (.agg (scA (.slice A1 (S.g.rows * S.g.cols) c1) S)) w' (fun ρ hρ => exec_load_any hx rfl ρ _ rfl ((hρ _).symm.trans e0)) (hJ.val hGS hcl hL rfl (Below.refl _ _) _ rfl)
        · intro L a w' hL hsame hsz hJ hdep hcl
          have hb := hJ.kept.toBelow (Nat.le_refl _) (by simp)
          refine Step.val _ rfl rfl (wanted_none rfl) (.agg #[.int .i64 4, .int .i32 0, .int .u8 0, .int .u8 0, .int .u8 72, .slice none 0 0, .string { data := #[] }]) w' (fun ρ hρ => ?_) (hJ.val hGS hcl hL rfl (Below.refl _ _) _ rfl)
          have ec0 : ρ (.const (.int .i64 4)) = (.int .i64 4) := (hρ _).symm
          have ec1 : ρ (.const (.int .u8 72)) = (.int .u8 72) := (hρ _).symm
          clear hJ hsame hdep hcl hρ hsz hb
          go_simp
        · intro L a w' hL hsame hsz hJ hdep hcl
          have hb := hJ.kept.toBelow (Nat.le_refl _) (by simp)
          have e0 : a.eval (.tmp 129) = (.agg (scA (.slice A1 (S.g.rows * S.g.cols) c1) S)) := eval_slot (j := 2) (by kernel_rfl) (hJ.valOf (by decide) (dep_of hdep 2 (by kernel_rfl)) rfl rfl)
          have e1 : a.eval (.tmp 130) = (.agg #[.int .i64 4, .int .i32 0, .int .u8 0, .int .u8 0, .int .u8 72, .slice none 0 0, .string { data := #[] }]) := eval_slot (j := 3) (by kernel_rfl) (hJ.valOf (by decide) (dep_of hdep 3 (by kernel_rfl)) rfl rfl)
          refine Step.call _ rfl rfl (wanted_none rfl) 20 #[.agg (scA (.slice A1 (S.g.rows * S.g.cols) c1) S), .agg #[.int .i64 4, .int .i32 0, .int .u8 0, .int .u8 0, .int .u8 72, .slice none 0 0, .string { data := #[] }]] (fun ρ hρ => ?_) ?_
          · skip
            rw [hρ] at e0 e1
            have ef : ρ (.func 20) = .func (.func 20) #[] #[] := (hρ _).symm
            clear hJ hsame hdep hcl hρ hsz hb
            go_simp
          · refine (GR.out _).mono ?_
            rintro e w2 ⟨rfl, bb⟩
            exact ⟨_, rfl, hJ.pred hGS hcl hL rfl bb _ (scrV_same ETG.out ((HGs9.out.low hb).low bb))⟩
        · intro L u w' hF hall
          change wpList _ _ _ _ (Act.put (Act.put (Act.put (Act.put (Act.put (Act.put (Act.put (putAll _ u 0 _) (some 127) (u 0)) (some 128) (u 1)) (some 129) (u 2)) (some 130) (u 3)) (some 131) (u 4)) none (u 5)) none (u 6)) _
          simp only [putAll]
          obtain ⟨Aa, ca, fa, hia⟩ := (show ScrV T (u 1) w' from hF.predOf (j := 1) (by decide) (hall 1 (by decide)) rfl)
          obtain ⟨Ab, cb, fb, hib⟩ := (show ScrV T (u 4) w' from hF.predOf (j := 4) (by decide) (hall 4 (by decide)) rfl)
          have hk := hF.kept.toBelow (Nat.le_refl _) (by simp)
          clear hF
          generalize u 0 = y0
          generalize u 1 = y1 at fa ⊢
          generalize u 2 = y2
          generalize u 3 = y3
          generalize u 4 = y4 at fb ⊢
          generalize u 5 = y5
          generalize u 6 = y6
          subst fa fb
          simp only [List.drop_succ_cons, List.drop_zero]
          have hG9 := HBG.out.below hk HBG.out.lt
          have hW9 := HBW.out.below hk HBW.out.lt
          refine wpList_store_scr (x := .slice Aa (T.g.rows * T.g.cols) ca) (s := T) hG9 hzgG rfl _ _ rfl (by ((repeat (first | rw [put_no] | rw [put_ne (by decide)])); rfl)) (by ((repeat (first | rw [put_no] | rw [put_ne (by decide)])); rw [put_at (by (repeat rw [put_size]); exact Nat.lt_of_lt_of_le (m := 154) (by decide) (Nat.le_refl 154))])) rfl ?_
          intro wx1 hB1 hk1 hq1
          have hW10 := hW9.kept hk1 (by simp; exact Ne.symm ne_gG_gW)
          refine wpList_store_scr (x := .slice Ab (T.g.rows * T.g.cols) cb) (s := T) hW10 hzgW rfl _ _ rfl (by ((repeat (first | rw [put_no] | rw [put_ne (by decide)])); rfl)) (by ((repeat (first | rw [put_no] | rw [put_ne (by decide)])); rw [put_at (by (repeat rw [put_size]); exact Nat.lt_of_lt_of_le (m := 154) (by decide) (Nat.le_refl 154))])) rfl ?_
          intro wx2 hB2 hk2 hq2
          change Exit.inBlock _ _ Exit.normal _ _
          go_simp
          go_step
          go_meet
          exact ⟨T, _, _, RT.out, hB1.kept hk2 (by simp; exact ne_gG_gW), hB2, (hia.kept hG9 (by decide) hk1).kept hW10 (by decide) hk2, (hib.kept hG9 (by decide) hk1).kept hW10 (by decide) hk2, (((Kept.refl [some gG, some gW, some gE, some gP] wagW).below hk).trans hk1 (fun x hx => From.mem (by simp at hx; simp [hx]))).trans hk2 (fun x hx => From.mem (by simp at hx; simp [hx]))⟩
    · as_aux_lemma =>
        have RT0 := hide (show SN.RightS (SN.saveS S) from SN.right_save RS.out)
        have GP := hide (fun w' v h => csave_is S v w' RS.out h)
        have GR := hide (fun w' => rdo_esc 55 (.slice A1 (S.g.rows * S.g.cols) c1) S (SN.saveS S) { data := #[] } none 0 0 w' rfl (hide fun w'' hb => resc_save (.slice A1 (S.g.rows * S.g.cols) c1) S { data := #[] } none 0 0 w'' rfl RS.out))
        have ETG := hide (show (SN.saveS S).g = S.g from rfl)
        generalize (SN.saveS S) = T at RT0 GP GR ETG
        have RT := RT0
        clear RT0
        go_upto_region 27 with fail
        refine wp_region_gt2 (n := 154) 5 [] (fun _ => #[]) [(0, 0, 0, 0, 0), (1, 0, 0, 0, 0), (0, 0, 0, 0, 0), (0, 0, 0, 0, 0), (1, 0, 0, 0, 0), (0, 0, 0, 0, 0), (0, 0, 0, 0, 0)] (fun j => [(.agg (scA (.slice A1 (S.g.rows * S.g.cols) c1) S)), undef, (.agg (scA (.slice A1 (S.g.rows * S.g.cols) c1) S)), (.agg #[.int .i64 3, .int .i32 0, .int .u8 0, .int .u8 0, .int .u8 55, .slice none 0 0, .string { data := #[] }]), undef, undef, undef].getD j undef) [none, some (ScrV T), none, none, some (ScrV T)] (fun _ => 0) (by kernel_rfl) (by kernel_rfl) (by kernel_rfl) rfl (by kernel_rfl) (by kernel_rfl) (gno4 rfl) (fun i j h => by revert h; exact gno4 (p := fun _ => _) rfl i) (AllG.none_ (AllG.some_ (ScrV.stays (by kernel_rfl)) (AllG.none_ (AllG.none_ (AllG.some_ (ScrV.stays (by kernel_rfl)) (AllG.nil _)))))) (fun hGS => cases5 ⟨?_, ?_, ?_, ?_, ?_⟩) ?_
        · intro L a w' hL hsame hsz hJ hdep hcl
          have hb := hJ.kept.toBelow (Nat.le_refl _) (by simp)
          have e0 : a.eval (.tmp 11) = (.pointer (some ⟨gs, 0, none⟩)) := eval_base hsame (by kernel_rfl)
          have hx := hJ.keptBox ((show Box _ gs 32 (scA (.slice A1 (S.g.rows * S.g.cols) c1) S) from HSs7.out)) (by simp)
          exact Step.val _ rfl rfl (wanted_none rfl) (.agg (scA (.slice A1 (S.g.rows * S.g.cols) c1) S)) w' (fun ρ hρ => exec_load_any hx rfl ρ _ rfl ((hρ _).symm.trans e0)) (hJ.val hGS hcl hL rfl (Below.refl _ _) _ rfl)
        · intro L a w' hL hsame hsz hJ hdep hcl
          have hb := hJ.kept.toBelow (Nat.le_refl _) (by simp)
          have e0 : a.eval (.tmp 134) = (.agg (scA (.slice A1 (S.g.rows * S.g.cols) c1) S)) := eval_slot (j := 0) (by kernel_rfl) (hJ.valOf (by decide) (dep_of hdep 0 (by kernel_rfl)) rfl rfl)
          refine Step.call _ rfl rfl (wanted_none rfl) 24 #[.agg (scA (.slice A1 (S.g.rows * S.g.cols) c1) S)] (fun ρ hρ => ?_) ?_
          · skip
            rw [hρ] at e0
            have ef : ρ (.func 24) = .func (.func 24) #[] #[] := (hρ _).symm
            clear hJ hsame hdep hcl hρ hsz hb
            go_simp
          · refine (GP.out _ _ ⟨_, rfl, (HGs9.out.low hb)⟩).mono ?_
            rintro e w2 ⟨v, rfl, hi, bb⟩
            exact ⟨_, rfl, hJ.pred hGS hcl hL rfl bb _ (scrV_of hi)⟩
        · intro L a w' hL hsame hsz hJ hdep hcl
          have hb := hJ.kept.toBelow (Nat.le_refl _) (by simp)
          have e0 : a.eval (.tmp 11) = (.pointer (some ⟨gs, 0, none⟩)) := eval_base hsame (by kernel_rfl)
          have hx := hJ.keptBox ((show Box _ gs 32 (scA (.slice A1 (S.g.rows * S.g.cols) c1) S) from HSs7.out)) (by simp)
          exact Step.val _ rfl rfl (wanted_none rfl) (.agg (scA (.slice A1 (S.g.rows * S.g.cols) c1) S)) w' (fun ρ hρ => exec_load_any hx rfl ρ _ rfl ((hρ _).symm.trans e0)) (hJ.val hGS hcl hL rfl (Below.refl _ _) _ rfl)
        · intro L a w' hL hsame hsz hJ hdep hcl
          have hb := hJ.kept.toBelow (Nat.le_refl _) (by simp)
          refine Step.val _ rfl rfl (wanted_none rfl) (.agg #[.int .i64 3, .int .i32 0, .int .u8 0, .int .u8 0, .int .u8 55, .slice none 0 0, .string { data := #[] }]) w' (fun ρ hρ => ?_) (hJ.val hGS hcl hL rfl (Below.refl _ _) _ rfl)
          have ec0 : ρ (.const (.int .i64 3)) = (.int .i64 3) := (hρ _).symm
          have ec1 : ρ (.const (.int .u8 55)) = (.int .u8 55) := (hρ _).symm
          clear hJ hsame hdep hcl hρ hsz hb
          go_simp
        · intro L a w' hL hsame hsz hJ hdep hcl
          have hb := hJ.kept.toBelow (Nat.le_refl _) (by simp)
          have e0 : a.eval (.tmp 136) = (.agg (scA (.slice A1 (S.g.rows * S.g.cols) c1) S)) := eval_slot (j := 2) (by kernel_rfl) (hJ.valOf (by decide) (dep_of hdep 2 (by kernel_rfl)) rfl rfl)
          have e1 : a.eval (.tmp 137) = (.agg #[.int .i64 3, .int .i32 0, .int .u8 0, .int .u8 0, .int .u8 55, .slice none 0 0, .string { data := #[] }]) := eval_slot (j := 3) (by kernel_rfl) (hJ.valOf (by decide) (dep_of hdep 3 (by kernel_rfl)) rfl rfl)
          refine Step.call _ rfl rfl (wanted_none rfl) 20 #[.agg (scA (.slice A1 (S.g.rows * S.g.cols) c1) S), .agg #[.int .i64 3, .int .i32 0, .int .u8 0, .int .u8 0, .int .u8 55, .slice none 0 0, .string { data := #[] }]] (fun ρ hρ => ?_) ?_
          · skip
            rw [hρ] at e0 e1
            have ef : ρ (.func 20) = .func (.func 20) #[] #[] := (hρ _).symm
            clear hJ hsame hdep hcl hρ hsz hb
            go_simp
          · refine (GR.out _).mono ?_
            rintro e w2 ⟨rfl, bb⟩
            exact ⟨_, rfl, hJ.pred hGS hcl hL rfl bb _ (scrV_same ETG.out ((HGs9.out.low hb).low bb))⟩
        · intro L u w' hF hall
          change wpList _ _ _ _ (Act.put (Act.put (Act.put (Act.put (Act.put (Act.put (Act.put (putAll _ u 0 _) (some 134) (u 0)) (some 135) (u 1)) (some 136) (u 2)) (some 137) (u 3)) (some 138) (u 4)) none (u 5)) none (u 6)) _
          simp only [putAll]
          obtain ⟨Aa, ca, fa, hia⟩ := (show ScrV T (u 1) w' from hF.predOf (j := 1) (by decide) (hall 1 (by decide)) rfl)
          obtain ⟨Ab, cb, fb, hib⟩ := (show ScrV T (u 4) w' from hF.predOf (j := 4) (by decide) (hall 4 (by decide)) rfl)
          have hk := hF.kept.toBelow (Nat.le_refl _) (by simp)
          clear hF
          generalize u 0 = y0
          generalize u 1 = y1 at fa ⊢
          generalize u 2 = y2
          generalize u 3 = y3
          generalize u 4 = y4 at fb ⊢
          generalize u 5 = y5
          generalize u 6 = y6
          subst fa fb
          simp only [List.drop_succ_cons, List.drop_zero]
          have hG9 := HBG.out.below hk HBG.out.lt
          have hW9 := HBW.out.below hk HBW.out.lt
          refine wpList_store_scr (x := .slice Aa (T.g.rows * T.g.cols) ca) (s := T) hG9 hzgG rfl _ _ rfl (by ((repeat (first | rw [put_no] | rw [put_ne (by decide)])); rfl)) (by ((repeat (first | rw [put_no] | rw [put_ne (by decide)])); rw [put_at (by (repeat rw [put_size]); exact Nat.lt_of_lt_of_le (m := 154) (by decide) (Nat.le_refl 154))])) rfl ?_
          intro wx1 hB1 hk1 hq1
          have hW10 := hW9.kept hk1 (by simp; exact Ne.symm ne_gG_gW)
          refine wpList_store_scr (x := .slice Ab (T.g.rows * T.g.cols) cb) (s := T) hW10 hzgW rfl _ _ rfl (by ((repeat (first | rw [put_no] | rw [put_ne (by decide)])); rfl)) (by ((repeat (first | rw [put_no] | rw [put_ne (by decide)])); rw [put_at (by (repeat rw [put_size]); exact Nat.lt_of_lt_of_le (m := 154) (by decide) (Nat.le_refl 154))])) rfl ?_
          intro wx2 hB2 hk2 hq2
          change Exit.inBlock _ _ Exit.normal _ _
          go_simp
          go_step
          go_meet
          exact ⟨T, _, _, RT.out, hB1.kept hk2 (by simp; exact ne_gG_gW), hB2, (hia.kept hG9 (by decide) hk1).kept hW10 (by decide) hk2, (hib.kept hG9 (by decide) hk1).kept hW10 (by decide) hk2, (((Kept.refl [some gG, some gW, some gE, some gP] wagW).below hk).trans hk1 (fun x hx => From.mem (by simp at hx; simp [hx]))).trans hk2 (fun x hx => From.mem (by simp at hx; simp [hx]))⟩
    · as_aux_lemma =>
        have RT0 := hide (show SN.RightS (SN.restS S) from SN.right_rest RS.out)
        have GP := hide (fun w' v h => crest_is S v w' RS.out h)
        have GR := hide (fun w' => rdo_esc 56 (.slice A1 (S.g.rows * S.g.cols) c1) S (SN.restS S) { data := #[] } none 0 0 w' rfl (hide fun w'' hb => resc_rest (.slice A1 (S.g.rows * S.g.cols) c1) S { data := #[] } none 0 0 w'' rfl RS.out))
        have ETG := hide (show (SN.restS S).g = S.g from rfl)
        generalize (SN.restS S) = T at RT0 GP GR ETG
        have RT := RT0
        clear RT0
        go_upto_region 7 with fail
        refine wp_region_gt2 (n := 154) 5 [] (fun _ => #[]) [(0, 0, 0, 0, 0), (1, 0, 0, 0, 0), (0, 0, 0, 0, 0), (0, 0, 0, 0, 0), (1, 0, 0, 0, 0), (0, 0, 0, 0, 0), (0, 0, 0, 0, 0)] (fun j => [(.agg (scA (.slice A1 (S.g.rows * S.g.cols) c1) S)), undef, (.agg (scA (.slice A1 (S.g.rows * S.g.cols) c1) S)), (.agg #[.int .i64 3, .int .i32 0, .int .u8 0, .int .u8 0, .int .u8 56, .slice none 0 0, .string { data := #[] }]), undef, undef, undef].getD j undef) [none, some (ScrV T), none, none, some (ScrV T)] (fun _ => 0) (by kernel_rfl) (by kernel_rfl) (by kernel_rfl) rfl (by kernel_rfl) (by kernel_rfl) (gno4 rfl) (fun i j h => by revert h; exact gno4 (p := fun _ => _) rfl i) (AllG.none_ (AllG.some_ (ScrV.stays (by kernel_rfl)) (AllG.none_ (AllG.none_ (AllG.some_ (ScrV.stays (by kernel_rfl)) (AllG.nil _)))))) (fun hGS => cases5 ⟨?_, ?_, ?_, ?_, ?_⟩) ?_
        · intro L a w' hL hsame hsz hJ hdep hcl
          have hb := hJ.kept.toBelow (Nat.le_refl _) (by simp)
          have e0 : a.eval (.tmp 11) = (.pointer (some ⟨gs, 0, none⟩)) := eval_base hsame (by kernel_rfl)
          have hx := hJ.keptBox ((show Box _ gs 32 (scA (.slice A1 (S.g.rows * S.g.cols) c1) S) from HSs7.out)) (by simp)
          exact Step.val _ rfl rfl (wanted_none rfl) (.agg (scA (.slice A1 (S.g.rows * S.g.cols) c1) S)) w' (fun ρ hρ => exec_load_any hx rfl ρ _ rfl ((hρ _).symm.trans e0)) (hJ.val hGS hcl hL rfl (Below.refl _ _) _ rfl)
        · intro L a w' hL hsame hsz hJ hdep hcl
          have hb := hJ.kept.toBelow (Nat.le_refl _) (by simp)
          have e0 : a.eval (.tmp 34) = (.agg (scA (.slice A1 (S.g.rows * S.g.cols) c1) S)) := eval_slot (j := 0) (by kernel_rfl) (hJ.valOf (by decide) (dep_of hdep 0 (by kernel_rfl)) rfl rfl)
          refine Step.call _ rfl rfl (wanted_none rfl) 25 #[.agg (scA (.slice A1 (S.g.rows * S.g.cols) c1) S)] (fun ρ hρ => ?_) ?_
          · skip
            rw [hρ] at e0
            have ef : ρ (.func 25) = .func (.func 25) #[] #[] := (hρ _).symm
            clear hJ hsame hdep hcl hρ hsz hb
            go_simp
          · refine (GP.out _ _ ⟨_, rfl, (HGs9.out.low hb)⟩).mono ?_
            rintro e w2 ⟨v, rfl, hi, bb⟩
            exact ⟨_, rfl, hJ.pred hGS hcl hL rfl bb _ (scrV_of hi)⟩
        · intro L a w' hL hsame hsz hJ hdep hcl
          have hb := hJ.kept.toBelow (Nat.le_refl _) (by simp)
          have e0 : a.eval (.tmp 11) = (.pointer (some ⟨gs, 0, none⟩)) := eval_base hsame (by kernel_rfl)
          have hx := hJ.keptBox ((show Box _ gs 32 (scA (.slice A1 (S.g.rows * S.g.cols) c1) S) from HSs7.out)) (by simp)
          exact Step.val _ rfl rfl (wanted_none rfl) (.agg (scA (.slice A1 (S.g.rows * S.g.cols) c1) S)) w' (fun ρ hρ => exec_load_any hx rfl ρ _ rfl ((hρ _).symm.trans e0)) (hJ.val hGS hcl hL rfl (Below.refl _ _) _ rfl)
        · intro L a w' hL hsame hsz hJ hdep hcl
          have hb := hJ.kept.toBelow (Nat.le_refl _) (by simp)
          refine Step.val _ rfl rfl (wanted_none rfl) (.agg #[.int .i64 3, .int .i32 0, .int .u8 0, .int .u8 0, .int .u8 56, .slice none 0 0, .string { data := #[] }]) w' (fun ρ hρ => ?_) (hJ.val hGS hcl hL rfl (Below.refl _ _) _ rfl)
          have ec0 : ρ (.const (.int .i64 3)) = (.int .i64 3) := (hρ _).symm
          have ec1 : ρ (.const (.int .u8 56)) = (.int .u8 56) := (hρ _).symm
          clear hJ hsame hdep hcl hρ hsz hb
          go_simp
        · intro L a w' hL hsame hsz hJ hdep hcl
          have hb := hJ.kept.toBelow (Nat.le_refl _) (by simp)
          have e0 : a.eval (.tmp 36) = (.agg (scA (.slice A1 (S.g.rows * S.g.cols) c1) S)) := eval_slot (j := 2) (by kernel_rfl) (hJ.valOf (by decide) (dep_of hdep 2 (by kernel_rfl)) rfl rfl)
          have e1 : a.eval (.tmp 37) = (.agg #[.int .i64 3, .int .i32 0, .int .u8 0, .int .u8 0, .int .u8 56, .slice none 0 0, .string { data := #[] }]) := eval_slot (j := 3) (by kernel_rfl) (hJ.valOf (by decide) (dep_of hdep 3 (by kernel_rfl)) rfl rfl)
          refine Step.call _ rfl rfl (wanted_none rfl) 20 #[.agg (scA (.slice A1 (S.g.rows * S.g.cols) c1) S), .agg #[.int .i64 3, .int .i32 0, .int .u8 0, .int .u8 0, .int .u8 56, .slice none 0 0, .string { data := #[] }]] (fun ρ hρ => ?_) ?_
          · skip
            rw [hρ] at e0 e1
            have ef : ρ (.func 20) = .func (.func 20) #[] #[] := (hρ _).symm
            clear hJ hsame hdep hcl hρ hsz hb
            go_simp
          · refine (GR.out _).mono ?_
            rintro e w2 ⟨rfl, bb⟩
            exact ⟨_, rfl, hJ.pred hGS hcl hL rfl bb _ (scrV_same ETG.out ((HGs9.out.low hb).low bb))⟩
        · intro L u w' hF hall
          change wpList _ _ _ _ (Act.put (Act.put (Act.put (Act.put (Act.put (Act.put (Act.put (putAll _ u 0 _) (some 34) (u 0)) (some 35) (u 1)) (some 36) (u 2)) (some 37) (u 3)) (some 38) (u 4)) none (u 5)) none (u 6)) _
          simp only [putAll]
          obtain ⟨Aa, ca, fa, hia⟩ := (show ScrV T (u 1) w' from hF.predOf (j := 1) (by decide) (hall 1 (by decide)) rfl)
          obtain ⟨Ab, cb, fb, hib⟩ := (show ScrV T (u 4) w' from hF.predOf (j := 4) (by decide) (hall 4 (by decide)) rfl)
          have hk := hF.kept.toBelow (Nat.le_refl _) (by simp)
          clear hF
          generalize u 0 = y0
          generalize u 1 = y1 at fa ⊢
          generalize u 2 = y2
          generalize u 3 = y3
          generalize u 4 = y4 at fb ⊢
          generalize u 5 = y5
          generalize u 6 = y6
          subst fa fb
          simp only [List.drop_succ_cons, List.drop_zero]
          have hG9 := HBG.out.below hk HBG.out.lt
          have hW9 := HBW.out.below hk HBW.out.lt
          refine wpList_store_scr (x := .slice Aa (T.g.rows * T.g.cols) ca) (s := T) hG9 hzgG rfl _ _ rfl (by ((repeat (first | rw [put_no] | rw [put_ne (by decide)])); rfl)) (by ((repeat (first | rw [put_no] | rw [put_ne (by decide)])); rw [put_at (by (repeat rw [put_size]); exact Nat.lt_of_lt_of_le (m := 154) (by decide) (Nat.le_refl 154))])) rfl ?_
          intro wx1 hB1 hk1 hq1
          have hW10 := hW9.kept hk1 (by simp; exact Ne.symm ne_gG_gW)
          refine wpList_store_scr (x := .slice Ab (T.g.rows * T.g.cols) cb) (s := T) hW10 hzgW rfl _ _ rfl (by ((repeat (first | rw [put_no] | rw [put_ne (by decide)])); rfl)) (by ((repeat (first | rw [put_no] | rw [put_ne (by decide)])); rw [put_at (by (repeat rw [put_size]); exact Nat.lt_of_lt_of_le (m := 154) (by decide) (Nat.le_refl 154))])) rfl ?_
          intro wx2 hB2 hk2 hq2
          change Exit.inBlock _ _ Exit.normal _ _
          go_simp
          go_step
          go_meet
          exact ⟨T, _, _, RT.out, hB1.kept hk2 (by simp; exact ne_gG_gW), hB2, (hia.kept hG9 (by decide) hk1).kept hW10 (by decide) hk2, (hib.kept hG9 (by decide) hk1).kept hW10 (by decide) hk2, (((Kept.refl [some gG, some gW, some gE, some gP] wagW).below hk).trans hk1 (fun x hx => From.mem (by simp at hx; simp [hx]))).trans hk2 (fun x hx => From.mem (by simp at hx; simp [hx]))⟩
  case rest =>
    obtain ⟨T, X, X', RT, hBG, hBW, hGG, hGW, hkk⟩ := hcut
    rename World => wz
    obtain ⟨A3, c3, rfl⟩ := gv_slice hGG
    obtain ⟨A4, c4, rfl⟩ := gv_slice hGW
    have HNT := hide (show T.g.rows * T.g.cols ≤ 1099511627776 by have := size_le RT.g; omega)
    have hnr : NoRow wagW [some gG, some gW, some gE, some gP] := fun x hx => by
      simp at hx
      rcases hx with rfl | rfl | rfl | rfl
      · exact ⟨_, _, HBG.out, by decide⟩
      · exact ⟨_, _, HBW.out, by decide⟩
      · exact ⟨_, _, HE1.out, by decide⟩
      · exact ⟨_, _, HP1.out, by decide⟩
    have HSs8 := hide (HSs7.out.kept hkk (by simp; exact ⟨ne_gs_gG, ne_gs_gW, ne_gs_gE, ne_gs_gP⟩))
    clear HSs7
    have HSw5 := hide (HSw4.out.kept hkk (by simp; exact ⟨ne_gw_gG, ne_gw_gW, ne_gw_gE, ne_gw_gP⟩))
    clear HSw4
    have HGs10 := hide (HGs9.out.keptS hnr hkk)
    clear HGs9
    have HGw6 := hide (HGw5.out.keptS hnr hkk)
    clear HGw5
    have LO11 := hide (LO10.out.trans (hkk.toBelow LO10.out.size (fun k hh => by simp at hh; omega)))
    clear LO10
    clear hnr hkk
    have HSa0 := hide hBG
    clear hBG
    have HSb0 := hide hBW
    clear hBW
    have HGa0 := hide hGG
    clear hGG
    have HGb0 := hide hGW
    clear hGW
    go_wp2_with (first | (refine wpList_load_scr HSa0.out rfl _ rfl rfl ?_) | (refine wpList_load_scr HSb0.out rfl _ rfl rfl ?_))
    refine (screens_is T _ _ _ _ _ HNT.out HGa0.out HGb0.out).mono ?_
    rintro e wq1 ⟨rfl, hq1⟩
    have HSs9 := hide (HSs8.out.below hq1 HSs8.out.lt)
    have HSw6 := hide (HSw5.out.below hq1 HSw5.out.lt)
    have HSa1 := hide (HSa0.out.below hq1 HSa0.out.lt)
    have HSb1 := hide (HSb0.out.below hq1 HSb0.out.lt)
    have HGs11 := hide (HGs10.out.low hq1)
    have HGw7 := hide (HGw6.out.low hq1)
    have HGa1 := hide (HGa0.out.low hq1)
    have HGb1 := hide (HGb0.out.low hq1)
    have LO12 := hide (LO11.out.trans (hq1.mono LO11.out.size))
    clear HSs8 HSw5 HSa0 HSb0 HGs10 HGw6 HGa0 HGb0 LO11 hq1
    go_wp2_with (first | (refine wpList_load_scrG HSa1.out _ rfl (by rfl) rfl ?_))
    refine (sright_is T _ RT _ HGa1.out (HSP.out.below LO12.out (by exact SLT.out))).mono ?_
    rintro e wq2 ⟨rfl, hq2⟩
    have HSs10 := hide (HSs9.out.below hq2 HSs9.out.lt)
    have HSw7 := hide (HSw6.out.below hq2 HSw6.out.lt)
    have HSa2 := hide (HSa1.out.below hq2 HSa1.out.lt)
    have HSb2 := hide (HSb1.out.below hq2 HSb1.out.lt)
    have HGs12 := hide (HGs11.out.low hq2)
    have HGw8 := hide (HGw7.out.low hq2)
    have HGa2 := hide (HGa1.out.low hq2)
    have HGb2 := hide (HGb1.out.low hq2)
    have LO13 := hide (LO12.out.trans (hq2.mono LO12.out.size))
    clear HSs9 HSw6 HSa1 HSb1 HGs11 HGw7 HGa1 HGb1 LO12 hq2
    go_wp2_with (first | (refine wpList_load_scrG HSs10.out _ rfl (by rfl) rfl ?_) | (refine wpList_load_scrG HSw7.out _ rfl (by rfl) rfl ?_))
    refine (screens_is S _ _ _ _ _ (by omega) HGs12.out HGw8.out).mono ?_
    rintro e wq3 ⟨rfl, hq3⟩
    have HSs11 := hide (HSs10.out.below hq3 HSs10.out.lt)
    have HSw8 := hide (HSw7.out.below hq3 HSw7.out.lt)
    have HSa3 := hide (HSa2.out.below hq3 HSa2.out.lt)
    have HSb3 := hide (HSb2.out.below hq3 HSb2.out.lt)
    have HGs13 := hide (HGs12.out.low hq3)
    have HGw9 := hide (HGw8.out.low hq3)
    have HGa3 := hide (HGa2.out.low hq3)
    have HGb3 := hide (HGb2.out.low hq3)
    have LO14 := hide (LO13.out.trans (hq3.mono LO13.out.size))
    clear HSs10 HSw7 HSa2 HSb2 HGs12 HGw8 HGa2 HGb2 LO13 hq3
    go_wp2_with fail
    refine (cursorRuns_any _ (HSP.out.below LO14.out (by exact SLT.out))).mono ?_
    rintro e wq4 ⟨rfl, hq4⟩
    have HSs12 := hide (HSs11.out.below hq4 HSs11.out.lt)
    have HSw9 := hide (HSw8.out.below hq4 HSw8.out.lt)
    have HSa4 := hide (HSa3.out.below hq4 HSa3.out.lt)
    have HSb4 := hide (HSb3.out.below hq4 HSb3.out.lt)
    have HGs14 := hide (HGs13.out.low hq4)
    have HGw10 := hide (HGw9.out.low hq4)
    have HGa4 := hide (HGa3.out.low hq4)
    have HGb4 := hide (HGb3.out.low hq4)
    have LO15 := hide (LO14.out.trans (hq4.mono LO14.out.size))
    clear HSs11 HSw8 HSa3 HSb3 HGs13 HGw9 HGa3 HGb3 LO14 hq4
    go_wp2_with fail
    go_ret
    exact ⟨rfl, LO15.out⟩
end Go.Proofs.YtbhnipepbckalaaDoor
