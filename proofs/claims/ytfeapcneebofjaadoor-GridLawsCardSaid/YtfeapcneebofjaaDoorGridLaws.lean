/- GridLaws: what is put is there, all else but halves stays; wiped and put where they don't touch; greater and back again it is the same. -/
import Derived.Test.YtfeapcneebofjaaDoorGridRuns
import Derived.Test.YtfeapcneebofjaaDoorKeepPen
import Derived.Test.YtfeapcneebofjaaDoorGridVar
import Derived.Test.YtfeapcneebofjaaDoorRefWidth
import Derived.Test.YtfeapcneebofjaaDoorArgs
set_option maxRecDepth 100000
namespace Go.Proofs.YtfeapcneebofjaaDoor
open Go.RowKit
set_option linter.unusedVariables false
set_option maxHeartbeats 16000000 in
theorem gridLaws_core (a0 a1 a2 : Int) (A : Option Addr) (n cc : Nat) (l : List Int) (r c m x : Int) (w : World)
    (ha0 : -9223372036854775808 ≤ a0 ∧ a0 ≤ 9223372036854775807) (ha1 : -9223372036854775808 ≤ a1 ∧ a1 ≤ 9223372036854775807) (ha2 : -9223372036854775808 ≤ a2 ∧ a2 ≤ 9223372036854775807)
    (hA : Arg .i32 w A n cc l) (hr : -9223372036854775808 ≤ r ∧ r ≤ 9223372036854775807) (hc : -9223372036854775808 ≤ c ∧ c ≤ 9223372036854775807) (hm : -9223372036854775808 ≤ m ∧ m ≤ 9223372036854775807) (hx : -2147483648 ≤ x ∧ x ≤ 2147483647) (hs : Spans w) :
    Calls Tryd.prog 5 #[.agg #[.int .i64 a0, .int .i64 a1, .int .i64 a2], .slice A n cc, .int .i64 r, .int .i64 c, .int .i64 m, .int .i32 x] w fun e w' => e = .returned (.bool true) ∧ Below w.heap.size w w' := by
  have hP := C.kpen_right a0 a1 a2
  have K1 := hide (fun w' => keepPen_any a0 a1 a2 w' ha0.1 ha0.2 ha1.1 ha1.2 ha2.1 ha2.2)
  generalize C.kcol a0 = pa at hP K1
  generalize C.kcol a1 = pb at hP K1
  generalize a2 % 256 = pc at hP K1
  obtain ⟨row, hrow⟩ : ∃ k : Nat, 0 + r % (1 - 0 + 1) = k := ⟨(r % 2).toNat, by omega⟩
  obtain ⟨col, hcol⟩ : ∃ k : Nat, 0 + c % (7 - 0 + 1) = k := ⟨(c % 8).toNat, by omega⟩
  obtain ⟨mm, hmm⟩ : ∃ k : Nat, 0 + m % (8 - 0 + 1) = k := ⟨(m % 9).toNat, by omega⟩
  have KR := hide (fun w' => within_is r 0 1 row hrow w' hr.1 hr.2 (by omega) (by omega) (by omega))
  have KC := hide (fun w' => within_is c 0 7 col hcol w' hc.1 hc.2 (by omega) (by omega) (by omega))
  have KM := hide (fun w' => within_is m 0 8 mm hmm w' hm.1 hm.2 (by omega) (by omega) (by omega))
  have HK := hide (show row ≤ 1 ∧ col ≤ 7 ∧ mm ≤ 8 from by omega)
  have HX := hide hx
  have hP : PG.okPen (pa, pb, pc) := hP
  have HP := hide hP
  have SP := hide hs
  have HL := hide (show l.length = n ∧ n ≤ maxLen ∧ (∀ y ∈ l, (Lit.int .i32 y).wf = true) from ⟨hA.len, Nat.le_trans hA.le hA.cap, hA.wf⟩)
  have SA := hide hA.seen
  clear ha0 ha1 ha2 hr hc hm hx hrow hcol hmm hs hP hA
  go_enter Tryd.func5, Tryd.ntmps5
  go_upto_region 1 with fail
  have bX := Box.new w 34 #[.int .i64 a0, .int .i64 a1, .int .i64 a2]
  have bb : Below w.heap.size w (w.alloc (.cells #[.int .i64 a0, .int .i64 a1, .int .i64 a2] 34)) := (Below.refl _ _).alloc (Nat.le_refl _) _
  have hB0 : w.heap.size ≤ (w.alloc (.cells #[.int .i64 a0, .int .i64 a1, .int .i64 a2] 34)).heap.size := bb.size
  generalize w.alloc (.cells #[.int .i64 a0, .int .i64 a1, .int .i64 a2] 34) = wc at bX bb hB0 ⊢
  obtain ⟨gX, hgX⟩ : ∃ g, w.heap.size = g := ⟨_, rfl⟩
  have BX := hide bX
  have BB := hide bb
  have SP := hide (SP.out.keep bb)
  have SA := hide (SA.out.below bb)
  have HSP := hide (show 0 < wc.heap.size from SP.out.lt)
  have HB0 := hide hB0
  rw [hgX] at BX ⊢
  clear bX bb hgX hB0
  go_cut [13] (fun u wx => PBox (pa, pb, pc) u wx ∧ Below wc.heap.size wc wx)
  case first =>
    as_aux_lemma =>
      have h0 : wc.cell? ⟨gX, 0, none⟩ = some (.int .i64 a0) := BX.out.cell 0
      have h1 : wc.cell? ⟨gX, 1, none⟩ = some (.int .i64 a1) := BX.out.cell 1
      have h2 : wc.cell? ⟨gX, 2, none⟩ = some (.int .i64 a2) := BX.out.cell 2
      go_wp2_with (
        go_at_call 13
        go_must (refine (K1.out _).mono ?_)
        rintro e w2 ⟨rfl, b2⟩
        have b2 := hide b2
        clear h0 h1 h2)
      go_meet
      exact ⟨⟨_, rfl, Box.new _ _ _⟩, b2.out.alloc (by have := b2.out.size; omega) _⟩
  case rest =>
    obtain ⟨⟨gP, rfl, bP⟩, bc⟩ := hcut
    have BB := hide (BB.out.trans (bc.mono BB.out.size))
    have SP := hide (SP.out.keep bc)
    have SA := hide (SA.out.below (bc.mono HB0.out))
    have BP := hide (show Box wc gP 23 #[.int .i64 pa, .int .i64 pb, .int .i64 pc] from bP)
    have HB0 := hide (Nat.le_trans HB0.out bc.size)
    clear bc bP BX K1
    go_upto_region 2 with fail
    go_cut [14] (fun u wx => GVar wc.heap.size (PG.newG 2 8 (pa, pb, pc)) u wx ∧ Below wc.heap.size wc wx)
    case first =>
      as_aux_lemma =>
        have hp0 : wc.cell? ⟨gP, 0, none⟩ = some (.int .i64 pa) := BP.out.cell 0
        have hp1 : wc.cell? ⟨gP, 1, none⟩ = some (.int .i64 pb) := BP.out.cell 1
        have hp2 : wc.cell? ⟨gP, 2, none⟩ = some (.int .i64 pc) := BP.out.cell 2
        have WT := u_new 2 8 (pa, pb, pc) wc (by omega) (by omega) (by omega) (by omega)
        have WT := hide WT
        go_wp2_with (
          go_at_call 9
          go_must (refine WT.out.mono ?_)
          rintro e w2 ⟨v, rfl, ⟨s, rfl, ho⟩, b2⟩
          obtain ⟨sA, sc, rfl, _⟩ := own_form' ho
          have b2 := hide b2
          have ho := hide ho
          unfold gv
          clear hp0 hp1 hp2)
        go_meet
        exact ⟨⟨_, rfl, b2.out.size, _, Box.new _ _ _, _, rfl, own_low ho.out ((Below.refl _ _).alloc (Nat.le_refl _) _)⟩, b2.out.alloc (by have := b2.out.size; omega) _⟩
    case rest =>
    obtain ⟨⟨gG, rfl, hgG, hG⟩, bc⟩ := hcut
    have HPG := hide (show gP < gG from Nat.lt_of_lt_of_le BP.out.lt hgG)
    have HSG := hide (show 0 < gG from Nat.lt_of_lt_of_le SP.out.lt hgG)
    have HWG := hide (Nat.le_trans HB0.out hgG)
    have BB := hide (BB.out.trans (bc.mono BB.out.size))
    have SP := hide (SP.out.keep bc)
    have SA := hide (SA.out.below (bc.mono HB0.out))
    have BP := hide (BP.out.below bc BP.out.lt)
    have HB0 := hide (Nat.le_trans HB0.out bc.size)
    have VG := hide hG
    clear bc hG hgG
    go_upto_block 0 with fail
    go_cut [38] (fun u wx => (∃ Gx, PG.RightG Gx ∧ Gx.rows = 2 ∧ Gx.cols = 8 ∧ GBox wx Gx gG) ∧ Below gG wc wx)
    case first =>
      as_aux_lemma =>
        go_wp2_with fail
        go_loopw [38] (fun i wr => ∃ (k : Nat) (Gx : PG.Gr), k ≤ n ∧ i = .int .i64 k ∧ PG.RightG Gx ∧ Gx.rows = 2 ∧ Gx.cols = 8 ∧ Hid (GBox wr Gx gG) ∧ Hid (Below gG wc wr)) (fun i _ => n - (intOf i).toNat)
        case atStart => exact ⟨0, _, Nat.zero_le _, rfl, PG.right_newG HP.out (by omega) (by omega) (by omega) (by omega), rfl, rfl, VG, hide (Below.refl _ _)⟩
        case round =>
          obtain ⟨k, Gx, hkn, rfl, hR, hr2, hc8, VX, bx⟩ := hrel
          by_cases hlt : k < n
          · obtain ⟨ad, y, hA', hadB, hly, hcy⟩ := (SA.out.below (bx.out.mono HWG.out)).at_ hlt
            subst hA'
            have hy : ∃ y' ∈ l, y = .int .i32 y' := by
              rw [List.getElem?_map] at hly
              obtain ⟨y', h1, h2⟩ := Option.map_eq_some_iff.1 hly
              exact ⟨y', List.mem_of_getElem? h1, h2.symm⟩
            obtain ⟨y', hyl, rfl⟩ := hy
            have hyb := bounds_i32 (HL.out.2.2 y' hyl)
            have HYB := hide hyb
            clear hly hyl hyb hadB
            have HRX := hide (And.intro hR (And.intro hr2 hc8))
            clear hR hr2 hc8
            have hn0 := HL.out.2.1
            unfold maxLen at hn0
            by_cases h8 : k < 8
            · go_upto_region 7 with fail
              obtain ⟨AX, cX, hbx, -, -, -, hig⟩ := VX.out.open_ HRX.out.2.1 HRX.out.2.2
              have HBX := hide (show Box wr gG 26 #[.int .i64 2, .int .i64 8, .slice AX 16 cX] from hbx)
              have HIX := hide (show IsG wr Gx (.agg #[.int .i64 2, .int .i64 8, .slice AX 16 cX]) from hig)
              have hq2 : ((k : Int)).tmod 2 = ((k % 2 : Nat) : Int) := (Int.ofNat_tmod k 2).symm
              have hq3 : IntKind.i64.wrap ((k : Int) * 3) = (k : Int) * 3 := IntWalk.i64_in _ (by omega)
              have KK := hide (fun w' => within_is ((k : Int) * 3) 0 7 ((k * 3 % 8 : Nat) : Int) (by omega) w' (by omega) (by omega) (by omega) (by omega) (by omega))
              have BPX := hide (BP.out.below bx.out HPG.out)
              have SPX := hide (SP.out.below bx.out HSG.out)
              clear hbx hig
              have hne : some gP ∉ [some gG] := by have := HPG.out; simp; omega
              have hns : some 0 ∉ [some gG] := by have := HSG.out; simp; omega
              refine wp_region_rj (n := 177) [some gG] (fun _ => #[.int .i64 2, .int .i64 8, .slice AX 16 cX]) [(0, 0, 0, 0), (0, 0, 0, 0), (0, 0, 0, 0), (0, 0, 0, 0), (0, 0, 0, 0), (0, 0, 0, 0), (0, 0, 0, 0), (0, 0, 0, 0), (1, 0, 0, 0), (4, 0, 8, 26)] (fun j => [(.agg #[.int .i64 2, .int .i64 8, .slice AX 16 cX]), (.int .i64 k), (.int .i64 ((k % 2 : Nat) : Int)), (.int .i64 k), (.int .i64 ((k : Int) * 3)), (.int .i64 ((k * 3 % 8 : Nat) : Int)), (.int .i32 y'), (.agg #[.int .i64 pa, .int .i64 pb, .int .i64 pc]), undef, undef].getD j undef) (fun j => [PG.dflt, PG.dflt, PG.dflt, PG.dflt, PG.dflt, PG.dflt, PG.dflt, PG.dflt, (PG.putI Gx ((k % 2 : Nat) : Int) ((k * 3 % 8 : Nat) : Int) y' (pa, pb, pc)), PG.dflt].getD j PG.dflt) (fun _ => gG) (by kernel_rfl) (by kernel_rfl) (by kernel_rfl) rfl (by kernel_rfl) (fun j hk => ⟨by simp, rfl, by have hj := only4 (k := 9) (by kernel_rfl) j hk; subst hj; exact HBX.out⟩) (fun i j h h' e => absurd ((only4 (k := 9) (by kernel_rfl) i h).trans (only4 (k := 9) (by kernel_rfl) j h').symm) e) (fun hRS => cases10 ⟨?_, ?_, ?_, ?_, ?_, ?_, ?_, ?_, ?_, ?_⟩) ?_
              · intro L a w' hL hsame hsz hJ hdep hcl
                have e0 : a.eval (.tmp 14) = (.pointer (some ⟨gG, 0, none⟩)) := eval_base hsame (by kernel_rfl)
                have hb := hJ.old 9 rfl (late hcl hL (by kernel_rfl))
                have q0 : w'.cell? ⟨gG, 0, none⟩ = some (.int .i64 2) := hb.cell 0
                have q1 : w'.cell? ⟨gG, 1, none⟩ = some (.int .i64 8) := hb.cell 1
                have q2 : w'.cell? ⟨gG, 2, none⟩ = some (.slice AX 16 cX) := hb.cell 2
                refine Step.val _ rfl rfl (wanted_none rfl) (.agg #[.int .i64 2, .int .i64 8, .slice AX 16 cX]) w' (fun ρ hρ => ?_) (hJ.val hRS hcl hL rfl (Below.refl _ _) _ rfl)
                rw [hρ] at e0
                clear hb
                clear hJ hsame hdep hcl hρ hsz
                go_simp
              · intro L a w' hL hsame hsz hJ hdep hcl
                have e0 : a.eval (.tmp 15) = (.int .i64 k) := eval_base hsame (by kernel_rfl)
                refine Step.val _ rfl rfl (wanted_none rfl) (.int .i64 k) w' (fun ρ hρ => ?_) (hJ.val hRS hcl hL rfl (Below.refl _ _) _ rfl)
                rw [hρ] at e0
                clear hJ hsame hdep hcl hρ hsz
                go_simp
              · intro L a w' hL hsame hsz hJ hdep hcl
                have e0 : a.eval (.tmp 46) = (.int .i64 k) := eval_slot (j := 1) (by kernel_rfl) (hJ.valOf (by decide) (dep_of hdep 1 (by kernel_rfl)) rfl rfl)
                refine Step.val _ rfl rfl (wanted_none rfl) (.int .i64 ((k % 2 : Nat) : Int)) w' (fun ρ hρ => ?_) (hJ.val hRS hcl hL rfl (Below.refl _ _) _ rfl)
                rw [hρ] at e0
                have ec0 : ρ (.const (.int .i64 2)) = (.int .i64 2) := (hρ _).symm
                clear hJ hsame hdep hcl hρ hsz
                go_simp
              · intro L a w' hL hsame hsz hJ hdep hcl
                have e0 : a.eval (.tmp 15) = (.int .i64 k) := eval_base hsame (by kernel_rfl)
                refine Step.val _ rfl rfl (wanted_none rfl) (.int .i64 k) w' (fun ρ hρ => ?_) (hJ.val hRS hcl hL rfl (Below.refl _ _) _ rfl)
                rw [hρ] at e0
                clear hJ hsame hdep hcl hρ hsz
                go_simp
              · intro L a w' hL hsame hsz hJ hdep hcl
                have e0 : a.eval (.tmp 48) = (.int .i64 k) := eval_slot (j := 3) (by kernel_rfl) (hJ.valOf (by decide) (dep_of hdep 3 (by kernel_rfl)) rfl rfl)
                refine Step.val _ rfl rfl (wanted_none rfl) (.int .i64 ((k : Int) * 3)) w' (fun ρ hρ => ?_) (hJ.val hRS hcl hL rfl (Below.refl _ _) _ rfl)
                rw [hρ] at e0
                have ec0 : ρ (.const (.int .i64 3)) = (.int .i64 3) := (hρ _).symm
                clear hJ hsame hdep hcl hρ hsz
                go_simp
              · intro L a w' hL hsame hsz hJ hdep hcl
                have e0 : a.eval (.tmp 49) = (.int .i64 ((k : Int) * 3)) := eval_slot (j := 4) (by kernel_rfl) (hJ.valOf (by decide) (dep_of hdep 4 (by kernel_rfl)) rfl rfl)
                refine Step.call _ rfl rfl (wanted_none rfl) 12 #[.int .i64 ((k : Int) * 3), .int .i64 0, .int .i64 7] (fun ρ hρ => ?_) ?_
                · skip
                  rw [hρ] at e0
                  have ec0 : ρ (.const (.int .i64 0)) = (.int .i64 0) := (hρ _).symm
                  have ec1 : ρ (.const (.int .i64 7)) = (.int .i64 7) := (hρ _).symm
                  have ef : ρ (.func 12) = .func (.func 12) #[] #[] := (hρ _).symm
                  clear hJ hsame hdep hcl hρ hsz
                  go_simp
                · refine (KK.out w').mono ?_
                  rintro e w2 ⟨rfl, rfl⟩
                  exact ⟨_, rfl, hJ.val hRS hcl hL rfl (Below.refl _ _) _ rfl⟩
              · intro L a w' hL hsame hsz hJ hdep hcl
                have e0 : a.eval (.tmp 16) = (.int .i32 y') := eval_base hsame (by kernel_rfl)
                refine Step.val _ rfl rfl (wanted_none rfl) (.int .i32 y') w' (fun ρ hρ => ?_) (hJ.val hRS hcl hL rfl (Below.refl _ _) _ rfl)
                rw [hρ] at e0
                clear hJ hsame hdep hcl hρ hsz
                go_simp
              · intro L a w' hL hsame hsz hJ hdep hcl
                have e0 : a.eval (.tmp 13) = (.pointer (some ⟨gP, 0, none⟩)) := eval_base hsame (by kernel_rfl)
                have hb := hJ.keptBox BPX.out hne
                have q0 : w'.cell? ⟨gP, 0, none⟩ = some (.int .i64 pa) := hb.cell 0
                have q1 : w'.cell? ⟨gP, 1, none⟩ = some (.int .i64 pb) := hb.cell 1
                have q2 : w'.cell? ⟨gP, 2, none⟩ = some (.int .i64 pc) := hb.cell 2
                refine Step.val _ rfl rfl (wanted_none rfl) (.agg #[.int .i64 pa, .int .i64 pb, .int .i64 pc]) w' (fun ρ hρ => ?_) (hJ.val hRS hcl hL rfl (Below.refl _ _) _ rfl)
                rw [hρ] at e0
                clear hb
                clear hJ hsame hdep hcl hρ hsz
                go_simp
              · intro L a w' hL hsame hsz hJ hdep hcl
                have e0 : a.eval (.tmp 45) = (.agg #[.int .i64 2, .int .i64 8, .slice AX 16 cX]) := eval_slot (j := 0) (by kernel_rfl) (hJ.valOf (by decide) (dep_of hdep 0 (by kernel_rfl)) rfl rfl)
                have e1 : a.eval (.tmp 47) = (.int .i64 ((k % 2 : Nat) : Int)) := eval_slot (j := 2) (by kernel_rfl) (hJ.valOf (by decide) (dep_of hdep 2 (by kernel_rfl)) rfl rfl)
                have e2 : a.eval (.tmp 50) = (.int .i64 ((k * 3 % 8 : Nat) : Int)) := eval_slot (j := 5) (by kernel_rfl) (hJ.valOf (by decide) (dep_of hdep 5 (by kernel_rfl)) rfl rfl)
                have e3 : a.eval (.tmp 51) = (.int .i32 y') := eval_slot (j := 6) (by kernel_rfl) (hJ.valOf (by decide) (dep_of hdep 6 (by kernel_rfl)) rfl rfl)
                have e4 : a.eval (.tmp 52) = (.agg #[.int .i64 pa, .int .i64 pb, .int .i64 pc]) := eval_slot (j := 7) (by kernel_rfl) (hJ.valOf (by decide) (dep_of hdep 7 (by kernel_rfl)) rfl rfl)
                refine Step.call _ rfl rfl (wanted_none rfl) 8 #[.agg #[.int .i64 2, .int .i64 8, .slice AX 16 cX], .int .i64 ((k % 2 : Nat) : Int), .int .i64 ((k * 3 % 8 : Nat) : Int), .int .i32 y', .agg #[.int .i64 pa, .int .i64 pb, .int .i64 pc]] (fun ρ hρ => ?_) ?_
                · skip
                  rw [hρ] at e0 e1 e2 e3 e4
                  have ef : ρ (.func 8) = .func (.func 8) #[] #[] := (hρ _).symm
                  clear hJ hsame hdep hcl hρ hsz
                  go_simp
                · refine (u_put HRX.out.1 (HIX.out.keptS (norow HBX.out (by decide)) hJ.kept) ((k % 2 : Nat) : Int) ((k * 3 % 8 : Nat) : Int) y' (pa, pb, pc) (by omega) (by omega) HYB.out.1 HYB.out.2 (SPX.out.keptS hJ.kept hns)).mono ?_
                  rintro e w2 ⟨v, rfl, hg, bb⟩
                  exact ⟨v, rfl, hJ.grid hRS hcl hL rfl bb v hg⟩
              · intro L a w' hL hsame hsz hJ hdep hcl
                obtain ⟨sv, hsv, hso⟩ := hJ.gridOf (by decide) (dep_of hdep 8 (by kernel_rfl)) rfl
                obtain ⟨sA, sc, rfl, _⟩ := own_form' hso
                have es : a.eval (.tmp 53) = .agg #[.int .i64 ((PG.putI Gx ((k % 2 : Nat) : Int) ((k * 3 % 8 : Nat) : Int) y' (pa, pb, pc))).rows, .int .i64 ((PG.putI Gx ((k % 2 : Nat) : Int) ((k * 3 % 8 : Nat) : Int) y' (pa, pb, pc))).cols, .slice sA (((PG.putI Gx ((k % 2 : Nat) : Int) ((k * 3 % 8 : Nat) : Int) y' (pa, pb, pc))).rows * ((PG.putI Gx ((k % 2 : Nat) : Int) ((k * 3 % 8 : Nat) : Int) y' (pa, pb, pc))).cols) sc] := eval_slot (j := 8) (by kernel_rfl) hsv
                have hb := hJ.old 9 rfl hL
                obtain ⟨m0, m1, m2, f0, f1, f2⟩ := Box.three (a := (.int .i64 2)) (b := (.int .i64 8)) (c := (.slice AX 16 cX)) hb
                have ea : a.eval (.tmp 14) = .pointer (some ⟨gG, 0, none⟩) := eval_base hsame (by kernel_rfl)
                refine Step.skip _ rfl (wanted_none rfl) (set3 w' gG (.int .i64 ((PG.putI Gx ((k % 2 : Nat) : Int) ((k * 3 % 8 : Nat) : Int) y' (pa, pb, pc))).rows) (.int .i64 ((PG.putI Gx ((k % 2 : Nat) : Int) ((k * 3 % 8 : Nat) : Int) y' (pa, pb, pc))).cols) (.slice sA (((PG.putI Gx ((k % 2 : Nat) : Int) ((k * 3 % 8 : Nat) : Int) y' (pa, pb, pc))).rows * ((PG.putI Gx ((k % 2 : Nat) : Int) ((k * 3 % 8 : Nat) : Int) y' (pa, pb, pc))).cols) sc)) (fun ρ hρ => ?_) (hJ.set hRS hcl hL rfl (dep_of hdep 8 (by kernel_rfl)) hsv)
                rw [hρ] at es ea
                clear hJ hsame hdep hcl hρ hsz hb hso hsv
                unfold set3
                go_simp
              · intro L a w' hsame hsz hJ hall
                obtain ⟨u, hu, ha⟩ := act_puts hsame
                have h : (GBox w' (PG.putI Gx ((k % 2 : Nat) : Int) ((k * 3 % 8 : Nat) : Int) y' (pa, pb, pc)) gG) ∧ Below gG wr w' := by
                  (try simp only [hu])
                  exact (And.intro (hJ.var4 hall 9 (by decide) rfl rfl (by decide) rfl) (hJ.kept.toBelow (Nat.le_of_lt HBX.out.lt) (by simp)))
                have h := hide h
                clear hJ hall hsz hu hsame
                subst ha
                change Exit.inBlock _ _ Exit.normal (Act.put (Act.put (Act.put (Act.put (Act.put (Act.put (Act.put (Act.put (Act.put (Act.put (putAll _ u 0 _) (some 45) (u 0)) (some 46) (u 1)) (some 47) (u 2)) (some 48) (u 3)) (some 49) (u 4)) (some 50) (u 5)) (some 51) (u 6)) (some 52) (u 7)) (some 53) (u 8)) none (u 9)) _
                simp only [putAll]
                generalize u 0 = v0
                generalize u 1 = v1
                generalize u 2 = v2
                generalize u 3 = v3
                generalize u 4 = v4
                generalize u 5 = v5
                generalize u 6 = v6
                generalize u 7 = v7
                generalize u 8 = v8
                generalize u 9 = v9
                go_simp
                obtain ⟨hgx, bxx⟩ := h.out
                have VX := hide hgx
                have bx := hide (bx.out.trans bxx)
                clear hgx bxx h
                (try simp only [Exit.then, Exit.inBlock])
                go_wp2_with fail
                go_roundw
                case rel => exact ⟨k + 1, _, by omega, by go_num, PG.right_putI HRX.out.1 HP.out _ _ _, (PG.putI_size ..).1.trans HRX.out.2.1, (PG.putI_size ..).2.trans HRX.out.2.2, VX, bx⟩
                case measure => simp [intOf]; omega
            · go_wp2_with fail
              go_roundw
              case rel => exact ⟨k + 1, Gx, by omega, by go_num, HRX.out.1, HRX.out.2.1, HRX.out.2.2, VX, bx⟩
              case measure => simp [intOf]; omega
          · go_wp2_with fail
            go_meet
            exact ⟨⟨Gx, hR, hr2, hc8, VX.out⟩, bx.out⟩
    case rest =>
    obtain ⟨⟨Gx, hR, hr2, hc8, hgx⟩, bc⟩ := hcut
    have BB := hide (BB.out.trans (bc.mono HWG.out))
    have SP := hide (SP.out.below bc HSG.out)
    have BP := hide (BP.out.below bc HPG.out)
    have HG := hide (And.intro hR (And.intro hr2 hc8))
    obtain ⟨AG, cG, hbx, -, -, -, hig⟩ := hgx.open_ hr2 hc8
    have HBG := hide (show Box wc gG 26 #[.int .i64 2, .int .i64 8, .slice AG 16 cG] from hbx)
    have HIG := hide (show IsG wc Gx (.agg #[.int .i64 2, .int .i64 8, .slice AG 16 cG]) from hig)
    clear bc hR hr2 hc8 hgx hbx hig SA VG HL HPG HSG HWG
    obtain ⟨wv, hwv⟩ : ∃ v : Nat, C.width x = v := ⟨(C.width x).toNat, by have := PG.width_bd x; omega⟩
    have hw2 : wv ≤ 2 := by have := PG.width_bd x; omega
    have HWV := hide (And.intro hwv hw2)
    obtain ⟨H, hH⟩ : ∃ H, PG.putI Gx row col x (pa, pb, pc) = H := ⟨_, rfl⟩
    have hHR : PG.RightG H ∧ H.rows = 2 ∧ H.cols = 8 := by rw [← hH]; exact ⟨PG.right_putI HG.out.1 HP.out _ _ _, (PG.putI_size ..).1.trans HG.out.2.1, (PG.putI_size ..).2.trans HG.out.2.2⟩
    have HH := hide hHR
    have HE := hide hH
    clear hHR hwv hw2 hH
    obtain ⟨ans, han1, han7⟩ : ∃ f : Int → Int, f 1 = row ∧ f 7 = col := ⟨fun h => if h = 1 then row else col, by simp, by simp⟩
    have KK := hide (show ∀ (z hi : Int) (w' : World), ((z = r ∧ hi = 1) ∨ (z = c ∧ hi = 7)) → Calls Tryd.prog 12 #[.int .i64 z, .int .i64 0, .int .i64 hi] w' fun e w'' => e = .returned (.int .i64 (ans hi)) ∧ w' = w'' from by
      rintro z hi w' (⟨rfl, rfl⟩ | ⟨rfl, rfl⟩)
      · rw [han1]
        exact KR.out w'
      · rw [han7]
        exact KC.out w')
    have HAN := hide (And.intro han1 han7)
    clear han1 han7
    clear KR KC
    go_upto_region 9 with fail
    go_cut [17, 18] (fun u v wx => (u = .int .i64 row ∧ v = .int .i64 col) ∧ wx = wc)
    case first =>
      as_aux_lemma =>
        go_wp2_with (
          go_at_call 12
          go_must (refine (KK.out _ _ _ ?_).mono ?_)
          (first | exact .inl ⟨rfl, rfl⟩ | exact .inr ⟨rfl, rfl⟩)
          rintro e w' ⟨rfl, rfl⟩)
        go_meet
        exact ⟨⟨by rw [HAN.out.1], by rw [HAN.out.2]⟩, rfl⟩
    obtain ⟨⟨rfl, rfl⟩, rfl⟩ := hcut
    clear KK HAN
    go_upto_region 10 with fail
    go_cut [19] (fun u wx => GVar wc.heap.size H u wx ∧ Below wc.heap.size wc wx)
    case first =>
      as_aux_lemma =>
        have hp0 : wc.cell? ⟨gP, 0, none⟩ = some (.int .i64 pa) := BP.out.cell 0
        have hp1 : wc.cell? ⟨gP, 1, none⟩ = some (.int .i64 pb) := BP.out.cell 1
        have hp2 : wc.cell? ⟨gP, 2, none⟩ = some (.int .i64 pc) := BP.out.cell 2
        obtain ⟨m0, m1, m2, -, -, -⟩ := Box.three (a := .int .i64 2) (b := .int .i64 8) (c := .slice AG 16 cG) HBG.out
        have WT := u_put HG.out.1 HIG.out row col x (pa, pb, pc) (by have := HK.out; omega) (by have := HK.out; omega) HX.out.1 HX.out.2 SP.out
        rw [HE.out] at WT
        have WT := hide WT
        go_wp2_with (
          go_at_call 8
          go_must (refine WT.out.mono ?_)
          rintro e w2 ⟨v, rfl, ⟨s, rfl, ho⟩, b2⟩
          obtain ⟨sA, sc, rfl, _⟩ := own_form' ho
          have b2 := hide b2
          have ho := hide ho
          unfold gv
          clear m0 m1 m2 hp0 hp1 hp2)
        go_meet
        exact ⟨⟨_, rfl, b2.out.size, _, Box.new _ _ _, _, rfl, own_low ho.out ((Below.refl _ _).alloc (Nat.le_refl _) _)⟩, b2.out.alloc (by have := b2.out.size; omega) _⟩
    case rest =>
    obtain ⟨⟨gH, rfl, -, hgh⟩, bc⟩ := hcut
    have BB := hide (BB.out.trans (bc.mono BB.out.size))
    have SP := hide (SP.out.keep bc)
    have BP := hide (BP.out.below bc BP.out.lt)
    have HBG := hide (HBG.out.below bc HBG.out.lt)
    have HIG := hide (HIG.out.low bc)
    obtain ⟨AH, cH, hbx, -, -, -, hig⟩ := hgh.open_ HH.out.2.1 HH.out.2.2
    have HBH := hide (show Box wc gH 26 #[.int .i64 2, .int .i64 8, .slice AH 16 cH] from hbx)
    have HIH := hide (show IsG wc H (.agg #[.int .i64 2, .int .i64 8, .slice AH 16 cH]) from hig)
    clear bc hgh hbx hig
    go_upto_region 11 with fail
    go_cut [20] (fun u wx => u = .int .i64 wv ∧ Below wc.heap.size wc wx)
    case first =>
      as_aux_lemma =>
        have WT := refWidth_any x wc HX.out.1 HX.out.2
        rw [HWV.out.1] at WT
        have WT := hide WT
        go_wp2_with (
          go_at_call 24
          go_must (refine WT.out.mono ?_)
          rintro e w' ⟨rfl, b2⟩)
        go_meet
        exact ⟨rfl, b2⟩
    case rest =>
    obtain ⟨rfl, bc⟩ := hcut
    have BB := hide (BB.out.trans (bc.mono BB.out.size))
    have SP := hide (SP.out.keep bc)
    have BP := hide (BP.out.below bc BP.out.lt)
    have HBG := hide (HBG.out.below bc HBG.out.lt)
    have HIG := hide (HIG.out.low bc)
    have HBH := hide (HBH.out.below bc HBH.out.lt)
    have HIH := hide (HIH.out.low bc)
    clear bc
    obtain ⟨hk1, hk2, hk3⟩ := HK.out
    have hk4 := HWV.out.2
    have hs1 : wrap64 ((col : Int) + wv) = (col : Int) + wv := by unfold wrap64; omega
    have cs : (¬ (1 ≤ wv ∧ col + wv ≤ 8) ∧ (wv < 1 ∨ (1 ≤ wv ∧ 8 < col + wv))) ∨ (1 ≤ wv ∧ col + wv ≤ 8) := by omega
    rcases cs with ⟨hno, cs⟩ | ⟨hf1, hf2⟩
    · have hHG : H = Gx := by
        rw [← HE.out]
        exact putI_out (by rw [HWV.out.1]; have := HG.out.2.2; omega)
      have RN := hide (fun w' (b : Below wc.heap.size wc w') => gridRuns_any w' (SP.out.keep b))
      have SM := hide (u_same HG.out.1 HIG.out (hHG ▸ HIH.out) (PG.Alike.refl _))
      obtain ⟨m0, m1, m2, -, -, -⟩ := Box.three (a := .int .i64 2) (b := .int .i64 8) (c := .slice AG 16 cG) HBG.out
      obtain ⟨n0, n1, n2, -, -, -⟩ := Box.three (a := .int .i64 2) (b := .int .i64 8) (c := .slice AH 16 cH) HBH.out
      clear hHG
      rcases cs with a1 | ⟨a1, a2⟩
      all_goals
        go_wp2_with (
          first
            | (go_at_call 22
               go_must (refine SM.out.mono ?_)
               rintro e w2 ⟨rfl, b2⟩
               have b2 := hide b2
               clear m0 m1 m2 n0 n1 n2)
            | (go_at_call 3
               go_must (refine (RN.out _ b2.out).mono ?_)
               rintro e w3 ⟨rfl, b3⟩
               have b3 := hide (b2.out.trans (b3.mono b2.out.size))))
        go_ret
        exact ⟨rfl, BB.out.trans (b3.out.mono BB.out.size)⟩
    · have HF := hide (And.intro hf1 hf2)
      have hfar : ∀ i j : Nat, ¬ (i = row ∧ col ≤ j + 1 ∧ j ≤ col + wv) → Gx.f i j = H.f i j := fun i j h => by
        have e1 := putI_in (G := Gx) (x := x) (p := (pa, pb, pc)) (r := (row : Int)) (c := (col : Int)) rfl rfl
        rw [HE.out] at e1
        rw [e1]
        exact (PG.put_far (by rw [HWV.out.1]; exact h)).symm
      have HFAR := hide hfar
      clear hfar
      go_upto_block 2 with fail
      go_cut [81] (fun u wx => Below wc.heap.size wc wx)
      case first =>
        as_aux_lemma =>
          go_wp2_with fail
          go_loopw [81] (fun i wr => ∃ k : Nat, k ≤ 16 ∧ i = .int .i64 k ∧ Hid (Below wc.heap.size wc wr)) (fun i _ => 16 - (intOf i).toNat)
          case atStart => exact ⟨0, by omega, rfl, hide (Below.refl _ _)⟩
          case round =>
            obtain ⟨k, hk16, rfl, bx⟩ := hrel
            by_cases hlt : k < 16
            · have hqd : ((k : Int)).tdiv 8 = ((k / 8 : Nat) : Int) := (Int.ofNat_tdiv k 8).symm
              have hqm : ((k : Int)).tmod 8 = ((k % 8 : Nat) : Int) := (Int.ofNat_tmod k 8).symm
              have hqb : k / 8 ≤ 1 := by omega
              have HBG := hide (HBG.out.below bx.out HBG.out.lt)
              have HIG := hide (HIG.out.low bx.out)
              have HBH := hide (HBH.out.below bx.out HBH.out.lt)
              have HIH := hide (HIH.out.low bx.out)
              obtain ⟨F1, hF1⟩ : ∃ F, Gx.f (k / 8) (k % 8) = F := ⟨_, rfl⟩
              go_upto_region 17 with fail
              go_cut [22, 23] from 82 to 128 (fun u v wx => (CBox F1 u wx ∧ v = .bool true) ∧ Below wr.heap.size wr wx)
              case first =>
                as_aux_lemma =>
                  have AT := hide (u_atc HG.out.1 HIG.out (k / 8) (k % 8) (by rw [HG.out.2.1]; omega) (by rw [HG.out.2.2]; omega) hF1)
                  obtain ⟨m0, m1, m2, -, -, -⟩ := Box.three (a := .int .i64 2) (b := .int .i64 8) (c := .slice AG 16 cG) HBG.out
                  go_wp2_with (
                    go_at_call 20
                    go_must (refine AT.out.mono ?_)
                    rintro e w2 ⟨rfl, b2⟩
                    have b2 := hide b2
                    clear m0 m1 m2)
                  go_meet
                  exact ⟨⟨⟨_, rfl, Box.new _ _ _⟩, rfl⟩, b2.out.alloc (by have := b2.out.size; omega) _⟩
              case rest =>
              obtain ⟨⟨⟨g22, rfl, h22⟩, rfl⟩, bc⟩ := hcut
              have H22 := hide h22
              have HBH := hide (HBH.out.below bc HBH.out.lt)
              have HIH := hide (HIH.out.low bc)
              have bx := hide (bx.out.trans (bc.mono bx.out.size))
              clear bc h22
              obtain ⟨F2, hF2⟩ : ∃ F, H.f (k / 8) (k % 8) = F := ⟨_, rfl⟩
              go_upto_region 18 with fail
              go_cut [24, 25] from 82 to 128 (fun u v wx => (CBox F2 u wx ∧ v = .bool true) ∧ Below wc.heap.size wc wx)
              case first =>
                as_aux_lemma =>
                  have AT := hide (u_atc HH.out.1 HIH.out (k / 8) (k % 8) (by rw [HH.out.2.1]; omega) (by rw [HH.out.2.2]; omega) hF2)
                  obtain ⟨m0, m1, m2, -, -, -⟩ := Box.three (a := .int .i64 2) (b := .int .i64 8) (c := .slice AH 16 cH) HBH.out
                  go_wp2_with (
                    go_at_call 20
                    go_must (refine AT.out.mono ?_)
                    rintro e w2 ⟨rfl, b2⟩
                    have b2 := hide b2
                    clear m0 m1 m2)
                  go_meet
                  exact ⟨⟨⟨_, rfl, Box.new _ _ _⟩, rfl⟩, b2.out.alloc (by have := b2.out.size; omega) _⟩
              case rest =>
              obtain ⟨⟨⟨g24, rfl, h24⟩, rfl⟩, bc⟩ := hcut
              have H22 := hide (H22.out.below bc H22.out.lt)
              have H24 := hide h24
              have bx := hide (bx.out.trans (bc.mono bx.out.size))
              clear bc h24
              have hs1 : wrap64 ((col : Int) + wv) = (col : Int) + wv := by unfold wrap64; omega
              have hs2 : wrap64 ((col : Int) - 1) = (col : Int) - 1 := by unfold wrap64; omega
              have y0 : wc.cell? ⟨g22, 0, none⟩ = some (.int .i32 (PG.rn F1)) := H22.out.cell 0
              have y1 : wc.cell? ⟨g22, 1, none⟩ = some (.int .i64 (PG.kd F1)) := H22.out.cell 1
              have y2 : wc.cell? ⟨g22, 2, none⟩ = some (.int .i64 (PG.pn F1).1) := H22.out.cell 2
              have y3 : wc.cell? ⟨g22, 3, none⟩ = some (.int .i64 (PG.pn F1).2.1) := H22.out.cell 3
              have y4 : wc.cell? ⟨g22, 4, none⟩ = some (.int .i64 (PG.pn F1).2.2) := H22.out.cell 4
              have z0 : wc.cell? ⟨g24, 0, none⟩ = some (.int .i32 (PG.rn F2)) := H24.out.cell 0
              have z1 : wc.cell? ⟨g24, 1, none⟩ = some (.int .i64 (PG.kd F2)) := H24.out.cell 1
              have z2 : wc.cell? ⟨g24, 2, none⟩ = some (.int .i64 (PG.pn F2).1) := H24.out.cell 2
              have z3 : wc.cell? ⟨g24, 3, none⟩ = some (.int .i64 (PG.pn F2).2.1) := H24.out.cell 3
              have z4 : wc.cell? ⟨g24, 4, none⟩ = some (.int .i64 (PG.pn F2).2.2) := H24.out.cell 4
              obtain ⟨kq, hkq⟩ : ∃ q, k / 8 = q := ⟨_, rfl⟩
              obtain ⟨km, hkm⟩ : ∃ q, k % 8 = q := ⟨_, rfl⟩
              have hfe := HFAR.out (k / 8) (k % 8)
              rw [hF1, hF2, hkq, hkm] at hfe
              rw [hkq] at hqd hqb
              rw [hkm] at hqm
              have hkm8 : km ≤ 7 := by omega
              clear hF1 hF2 hkq hkm
              have cs : (¬ (kq = row ∧ col ≤ km + 1 ∧ km ≤ col + wv) ∧ (kq ≠ row ∨ (kq = row ∧ km + 1 < col) ∨ (kq = row ∧ col ≤ km + 1 ∧ col + wv < km))) ∨ (kq = row ∧ col ≤ km + 1 ∧ km ≤ col + wv) := by omega
              rcases cs with ⟨hn, cs⟩ | ⟨c1, c2, c3⟩
              · obtain rfl := hfe hn
                have hn := hide hn
                clear hfe
                rcases cs with c1 | ⟨c1, c2⟩ | ⟨c1, c2, c3⟩
                · have c1 : ((kq : Int) == (row : Int)) = false := by simp; omega
                  go_wp2_with fail
                  go_roundw
                  case rel => exact ⟨k + 1, by omega, by go_num, bx⟩
                  case measure => simp [intOf]; omega
                · have c1 : ((kq : Int) == (row : Int)) = true := by simp; omega
                  go_wp2_with fail
                  go_roundw
                  case rel => exact ⟨k + 1, by omega, by go_num, bx⟩
                  case measure => simp [intOf]; omega
                · have c1 : ((kq : Int) == (row : Int)) = true := by simp; omega
                  go_wp2_with fail
                  go_roundw
                  case rel => exact ⟨k + 1, by omega, by go_num, bx⟩
                  case measure => simp [intOf]; omega
              · have c1 : ((kq : Int) == (row : Int)) = true := by simp; omega
                clear hfe
                go_wp2_with fail
                go_roundw
                case rel => exact ⟨k + 1, by omega, by go_num, bx⟩
                case measure => simp [intOf]; omega
            · go_wp2_with fail
              go_meet
              exact bx.out
      case rest =>
      have bc := hcut
      have BB := hide (BB.out.trans (bc.mono BB.out.size))
      have SP := hide (SP.out.keep bc)
      have BP := hide (BP.out.below bc BP.out.lt)
      have HBG := hide (HBG.out.below bc HBG.out.lt)
      have HIG := hide (HIG.out.low bc)
      have HBH := hide (HBH.out.below bc HBH.out.lt)
      have HIH := hide (HIH.out.low bc)
      clear bc hcut HFAR hk1 hk2 hk3 hk4
      have hfat : PG.rn (H.f row col) = x := by
        have e1 := putI_in (G := Gx) (x := x) (p := (pa, pb, pc)) (r := (row : Int)) (c := (col : Int)) rfl rfl
        rw [HE.out] at e1
        have := HK.out
        rw [e1, PG.put_at (by rw [HWV.out.1, HG.out.2.1, HG.out.2.2]; omega)]
        rfl
      obtain ⟨hk1, hk2, hk3⟩ := HK.out
      obtain ⟨F3, hF3⟩ : ∃ F, H.f row col = F := ⟨_, rfl⟩
      go_upto_region 23 with fail
      go_cut [27, 28] (fun u v wx => (CBox F3 u wx ∧ v = .bool true) ∧ Below wc.heap.size wc wx)
      case first =>
        as_aux_lemma =>
          have AT := hide (u_atc HH.out.1 HIH.out (row) (col) (by rw [HH.out.2.1]; omega) (by rw [HH.out.2.2]; omega) hF3)
          obtain ⟨m0, m1, m2, -, -, -⟩ := Box.three (a := .int .i64 2) (b := .int .i64 8) (c := .slice AH 16 cH) HBH.out
          go_wp2_with (
            go_at_call 20
            go_must (refine AT.out.mono ?_)
            rintro e w2 ⟨rfl, b2⟩
            have b2 := hide b2
            clear m0 m1 m2)
          go_meet
          exact ⟨⟨⟨_, rfl, Box.new _ _ _⟩, rfl⟩, b2.out.alloc (by have := b2.out.size; omega) _⟩
      case rest =>
      obtain ⟨⟨⟨g27, rfl, h27⟩, rfl⟩, bc⟩ := hcut
      have BB := hide (BB.out.trans (bc.mono BB.out.size))
      have SP := hide (SP.out.keep bc)
      have BP := hide (BP.out.below bc BP.out.lt)
      have HBG := hide (HBG.out.below bc HBG.out.lt)
      have HIG := hide (HIG.out.low bc)
      have HBH := hide (HBH.out.below bc HBH.out.lt)
      have HIH := hide (HIH.out.low bc)
      rw [hF3] at hfat
      rw [hfat] at h27
      have B27 := hide (show Box wc g27 32 #[.int .i32 x, .int .i64 (PG.kd F3), .int .i64 (PG.pn F3).1, .int .i64 (PG.pn F3).2.1, .int .i64 (PG.pn F3).2.2] from h27)
      clear bc h27 hfat hF3
      obtain ⟨BK, hBK⟩ : ∃ g, PG.resizeG (PG.resizeG H 4 12) 2 8 = g := ⟨_, rfl⟩
      have hBKA : PG.Alike BK H := by
        have h := PG.resize_back HH.out.1 (R := 4) (K := 12) (by rw [HH.out.2.1]; omega) (by rw [HH.out.2.2]; omega)
        rw [HH.out.2.1, HH.out.2.2, hBK] at h
        exact h
      have hBKR : PG.RightG BK ∧ BK.rows = 2 ∧ BK.cols = 8 := by
        rw [← hBK]
        exact ⟨PG.right_resizeG (PG.right_resizeG HH.out.1 (by omega) (by omega) (by omega) (by omega)) (by omega) (by omega) (by omega) (by omega), rfl, rfl⟩
      have HBKA := hide (And.intro hBKA hBKR)
      have HBKE := hide hBK
      clear hBKA hBKR hBK
      go_upto_region 24 with fail
      go_cut [29] (fun u wx => GVar wc.heap.size BK u wx ∧ Below wc.heap.size wc wx)
      case first =>
        as_aux_lemma =>
          obtain ⟨gans, hg12, hg8⟩ : ∃ f : Int → PG.Gr, f 12 = PG.resizeG H 4 12 ∧ f 8 = BK := ⟨fun h => if h = 12 then PG.resizeG H 4 12 else BK, by simp, by simp⟩
          have RS := hide (show ∀ (v : Value) (R K : Int) (w' : World), ((IsG w' H v ∧ R = 4 ∧ K = 12) ∨ (R = 2 ∧ K = 8 ∧ IsG w' (gans 12) v)) → Calls Tryd.prog 18 #[v, .int .i64 R, .int .i64 K] w' (GotG w' (gans K)) from by
            rintro v R K w' (⟨hv, rfl, rfl⟩ | ⟨rfl, rfl, hv⟩)
            · rw [hg12]
              exact u_resize HH.out.1 hv 4 12 (by omega) (by omega) (by omega) (by omega)
            · rw [hg12] at hv
              have R2 := u_resize (PG.right_resizeG HH.out.1 (by omega) (by omega) (by omega) (by omega)) hv 2 8 (by omega) (by omega) (by omega) (by omega)
              rw [HBKE.out] at R2
              rw [hg8]
              exact R2)
          have HG8 := hide hg8
          have b2 := hide (Below.refl wc.heap.size wc)
          have hvv := hide HIH.out
          clear hg12 hg8
          obtain ⟨m0, m1, m2, -, -, -⟩ := Box.three (a := .int .i64 2) (b := .int .i64 8) (c := .slice AH 16 cH) HBH.out
          go_wp2_with (
            go_at_call 18
            go_must (refine (RS.out _ _ _ _ ?_).mono ?_)
            (first | exact .inl ⟨hvv.out, rfl, rfl⟩ | exact .inr ⟨rfl, rfl, hvv.out⟩)
            clear hvv
            rintro e w2 ⟨v, rfl, ⟨s, rfl, ho⟩, bb⟩
            obtain ⟨sA, sc, rfl, _⟩ := own_form' ho
            have hvv := hide (show IsG w2 _ _ from ⟨_, rfl, ho⟩)
            have b2 := hide (b2.out.trans (bb.mono b2.out.size))
            have ho := hide ho
            unfold gv at hvv ⊢
            clear bb)
          go_meet
          exact ⟨⟨_, rfl, b2.out.size, (by rw [← HG8.out]; exact ⟨_, Box.new _ _ _, _, rfl, own_low ho.out ((Below.refl _ _).alloc (Nat.le_refl _) _)⟩)⟩, b2.out.alloc (by have := b2.out.size; omega) _⟩
      case rest =>
      obtain ⟨⟨gB, rfl, -, hgb⟩, bc⟩ := hcut
      have BB := hide (BB.out.trans (bc.mono BB.out.size))
      have SP := hide (SP.out.keep bc)
      have BP := hide (BP.out.below bc BP.out.lt)
      have HBG := hide (HBG.out.below bc HBG.out.lt)
      have HIG := hide (HIG.out.low bc)
      have HBH := hide (HBH.out.below bc HBH.out.lt)
      have HIH := hide (HIH.out.low bc)
      have B27 := hide (B27.out.below bc B27.out.lt)
      obtain ⟨AB, cB, hbx, -, -, -, hig⟩ := hgb.open_ HBKA.out.2.2.1 HBKA.out.2.2.2
      have HBB := hide (show Box wc gB 26 #[.int .i64 2, .int .i64 8, .slice AB 16 cB] from hbx)
      have HIB := hide (show IsG wc BK (.agg #[.int .i64 2, .int .i64 8, .slice AB 16 cB]) from hig)
      clear bc hgb hbx hig
      go_upto_region 25 with fail
      go_cut [30] (fun u wx => u = .int .i64 mm ∧ wx = wc)
      case first =>
        as_aux_lemma =>
          go_wp2_with (
            go_at_call 12
            go_must (refine (KM.out _).mono ?_)
            rintro e w' ⟨rfl, rfl⟩)
          go_meet
          exact ⟨rfl, rfl⟩
      obtain ⟨rfl, rfl⟩ := hcut
      go_upto_region 26 with fail
      go_cut [31] (fun u31 wx => (GVar wc.heap.size (PG.wipeI (PG.wipeI H 0 0 8 (pa, pb, pc)) 1 0 8 (pa, pb, pc)) u31 wx) ∧ Below wc.heap.size wc wx)
      case first =>
        as_aux_lemma =>
          refine wp_region_rj (n := 177) [] (fun _ => #[]) [(0, 0, 0, 0), (0, 0, 0, 0), (1, 0, 0, 0), (0, 0, 0, 0), (1, 0, 0, 0), (2, 0, 0, 26), (3, 5, 4, 26)] (fun j => [(.agg #[.int .i64 2, .int .i64 8, .slice AH 16 cH]), (.agg #[.int .i64 pa, .int .i64 pb, .int .i64 pc]), undef, (.agg #[.int .i64 pa, .int .i64 pb, .int .i64 pc]), undef, undef, undef].getD j undef) (fun j => [PG.dflt, PG.dflt, (PG.wipeI H 0 0 8 (pa, pb, pc)), PG.dflt, (PG.wipeI (PG.wipeI H 0 0 8 (pa, pb, pc)) 1 0 8 (pa, pb, pc)), PG.dflt, PG.dflt].getD j PG.dflt) (fun _ => 0) (by kernel_rfl) (by kernel_rfl) (by kernel_rfl) rfl (by kernel_rfl) (no4 rfl) (fun i j h => by revert h; exact no4 (p := fun _ => _) rfl i) (fun hRS => cases7 ⟨?_, ?_, ?_, ?_, ?_, ?_, ?_⟩) ?_
          · intro L a w' hL hsame hsz hJ hdep hcl
            have e0 : a.eval (.tmp 19) = (.pointer (some ⟨gH, 0, none⟩)) := eval_base hsame (by kernel_rfl)
            have hb := hJ.keptBox HBH.out (by simp)
            have q0 : w'.cell? ⟨gH, 0, none⟩ = some (.int .i64 2) := hb.cell 0
            have q1 : w'.cell? ⟨gH, 1, none⟩ = some (.int .i64 8) := hb.cell 1
            have q2 : w'.cell? ⟨gH, 2, none⟩ = some (.slice AH 16 cH) := hb.cell 2
            refine Step.val _ rfl rfl (wanted_none rfl) (.agg #[.int .i64 2, .int .i64 8, .slice AH 16 cH]) w' (fun ρ hρ => ?_) (hJ.val hRS hcl hL rfl (Below.refl _ _) _ rfl)
            rw [hρ] at e0
            clear hb
            clear hJ hsame hdep hcl hρ hsz
            go_simp
          · intro L a w' hL hsame hsz hJ hdep hcl
            have e0 : a.eval (.tmp 13) = (.pointer (some ⟨gP, 0, none⟩)) := eval_base hsame (by kernel_rfl)
            have hb := hJ.keptBox BP.out (by simp)
            have q0 : w'.cell? ⟨gP, 0, none⟩ = some (.int .i64 pa) := hb.cell 0
            have q1 : w'.cell? ⟨gP, 1, none⟩ = some (.int .i64 pb) := hb.cell 1
            have q2 : w'.cell? ⟨gP, 2, none⟩ = some (.int .i64 pc) := hb.cell 2
            refine Step.val _ rfl rfl (wanted_none rfl) (.agg #[.int .i64 pa, .int .i64 pb, .int .i64 pc]) w' (fun ρ hρ => ?_) (hJ.val hRS hcl hL rfl (Below.refl _ _) _ rfl)
            rw [hρ] at e0
            clear hb
            clear hJ hsame hdep hcl hρ hsz
            go_simp
          · intro L a w' hL hsame hsz hJ hdep hcl
            have e0 : a.eval (.tmp 141) = (.agg #[.int .i64 2, .int .i64 8, .slice AH 16 cH]) := eval_slot (j := 0) (by kernel_rfl) (hJ.valOf (by decide) (dep_of hdep 0 (by kernel_rfl)) rfl rfl)
            have e4 : a.eval (.tmp 142) = (.agg #[.int .i64 pa, .int .i64 pb, .int .i64 pc]) := eval_slot (j := 1) (by kernel_rfl) (hJ.valOf (by decide) (dep_of hdep 1 (by kernel_rfl)) rfl rfl)
            refine Step.call _ rfl rfl (wanted_none rfl) 16 #[.agg #[.int .i64 2, .int .i64 8, .slice AH 16 cH], .int .i64 0, .int .i64 0, .int .i64 8, .agg #[.int .i64 pa, .int .i64 pb, .int .i64 pc]] (fun ρ hρ => ?_) ?_
            · skip
              rw [hρ] at e0 e4
              have ec0 : ρ (.const (.int .i64 0)) = (.int .i64 0) := (hρ _).symm
              have ec1 : ρ (.const (.int .i64 8)) = (.int .i64 8) := (hρ _).symm
              have ef : ρ (.func 16) = .func (.func 16) #[] #[] := (hρ _).symm
              clear hJ hsame hdep hcl hρ hsz
              go_simp
            · refine (u_wipe HH.out.1 (HIH.out.low (hJ.kept.toBelow (Nat.le_refl _) (by simp))) 0 0 8 (pa, pb, pc) (by omega) (by omega)).mono ?_
              rintro e w2 ⟨v, rfl, hg, bb⟩
              exact ⟨v, rfl, hJ.grid hRS hcl hL rfl bb v hg⟩
          · intro L a w' hL hsame hsz hJ hdep hcl
            have e0 : a.eval (.tmp 13) = (.pointer (some ⟨gP, 0, none⟩)) := eval_base hsame (by kernel_rfl)
            have hb := hJ.keptBox BP.out (by simp)
            have q0 : w'.cell? ⟨gP, 0, none⟩ = some (.int .i64 pa) := hb.cell 0
            have q1 : w'.cell? ⟨gP, 1, none⟩ = some (.int .i64 pb) := hb.cell 1
            have q2 : w'.cell? ⟨gP, 2, none⟩ = some (.int .i64 pc) := hb.cell 2
            refine Step.val _ rfl rfl (wanted_none rfl) (.agg #[.int .i64 pa, .int .i64 pb, .int .i64 pc]) w' (fun ρ hρ => ?_) (hJ.val hRS hcl hL rfl (Below.refl _ _) _ rfl)
            rw [hρ] at e0
            clear hb
            clear hJ hsame hdep hcl hρ hsz
            go_simp
          · intro L a w' hL hsame hsz hJ hdep hcl
            obtain ⟨v2, hv2, hG2⟩ := hJ.gridAt (j := 2) (by decide) (dep_of hdep 2 (by kernel_rfl)) rfl
            have hG2 : IsG w' (PG.wipeI H 0 0 8 (pa, pb, pc)) v2 := hG2
            have e0 : a.eval (.tmp 143) = v2 := eval_slot (j := 2) (by kernel_rfl) hv2
            have e4 : a.eval (.tmp 144) = (.agg #[.int .i64 pa, .int .i64 pb, .int .i64 pc]) := eval_slot (j := 3) (by kernel_rfl) (hJ.valOf (by decide) (dep_of hdep 3 (by kernel_rfl)) rfl rfl)
            refine Step.call _ rfl rfl (wanted_none rfl) 16 #[v2, .int .i64 1, .int .i64 0, .int .i64 8, .agg #[.int .i64 pa, .int .i64 pb, .int .i64 pc]] (fun ρ hρ => ?_) ?_
            · skip
              rw [hρ] at e0 e4
              have ec0 : ρ (.const (.int .i64 1)) = (.int .i64 1) := (hρ _).symm
              have ec1 : ρ (.const (.int .i64 0)) = (.int .i64 0) := (hρ _).symm
              have ec2 : ρ (.const (.int .i64 8)) = (.int .i64 8) := (hρ _).symm
              have ef : ρ (.func 16) = .func (.func 16) #[] #[] := (hρ _).symm
              clear hJ hsame hdep hcl hρ hsz
              go_simp
            · refine (u_wipe (PG.right_wipeI HH.out.1 HP.out _ _ _) hG2 1 0 8 (pa, pb, pc) (by omega) (by omega)).mono ?_
              rintro e w2 ⟨v, rfl, hg, bb⟩
              exact ⟨v, rfl, hJ.grid hRS hcl hL rfl bb v hg⟩
          · intro L a w' hL hsame hsz hJ hdep hcl
            refine Step.val _ rfl rfl (wanted_none rfl) (.pointer (some ⟨w'.heap.size, 0, none⟩)) (w'.alloc (.cells #[.int .i64 0, .int .i64 0, .slice none 0 0] 26)) (fun ρ hρ => ?_) (hJ.box hRS hcl hL rfl 26 rfl (.int .i64 0) (.int .i64 0) (.slice none 0 0))
            clear hJ hsame hdep hcl hρ hsz
            go_simp
          · intro L a w' hL hsame hsz hJ hdep hcl
            obtain ⟨sv, hsv, hso⟩ := hJ.gridOf (by decide) (dep_of hdep 4 (by kernel_rfl)) rfl
            obtain ⟨sA, sc, rfl, _⟩ := own_form' hso
            have es : a.eval (.tmp 145) = .agg #[.int .i64 ((PG.wipeI (PG.wipeI H 0 0 8 (pa, pb, pc)) 1 0 8 (pa, pb, pc))).rows, .int .i64 ((PG.wipeI (PG.wipeI H 0 0 8 (pa, pb, pc)) 1 0 8 (pa, pb, pc))).cols, .slice sA (((PG.wipeI (PG.wipeI H 0 0 8 (pa, pb, pc)) 1 0 8 (pa, pb, pc))).rows * ((PG.wipeI (PG.wipeI H 0 0 8 (pa, pb, pc)) 1 0 8 (pa, pb, pc))).cols) sc] := eval_slot (j := 4) (by kernel_rfl) hsv
            have la := dep_of hdep 5 (by kernel_rfl)
            obtain ⟨g, cs, hg, hg0, hb, hs3⟩ := hJ.boxOf (by decide) la rfl
            obtain ⟨c0, c1, c2, rfl⟩ := three_of hs3
            obtain ⟨m0, m1, m2, f0, f1, f2⟩ := hb.three
            have ea : a.eval (.tmp 31) = .pointer (some ⟨g, 0, none⟩) := eval_slot (j := 5) (by kernel_rfl) hg
            refine Step.skip _ rfl (wanted_none rfl) (set3 w' g (.int .i64 ((PG.wipeI (PG.wipeI H 0 0 8 (pa, pb, pc)) 1 0 8 (pa, pb, pc))).rows) (.int .i64 ((PG.wipeI (PG.wipeI H 0 0 8 (pa, pb, pc)) 1 0 8 (pa, pb, pc))).cols) (.slice sA (((PG.wipeI (PG.wipeI H 0 0 8 (pa, pb, pc)) 1 0 8 (pa, pb, pc))).rows * ((PG.wipeI (PG.wipeI H 0 0 8 (pa, pb, pc)) 1 0 8 (pa, pb, pc))).cols) sc)) (fun ρ hρ => ?_) (hJ.put hRS hcl hL rfl la (dep_of hdep 4 (by kernel_rfl)) hg hsv)
            rw [hρ] at es ea
            clear hJ hsame hdep hcl hρ hsz hg hb hso hsv
            unfold set3
            go_simp
          · intro L a w' hsame hsz hJ hall
            obtain ⟨u, hu, ha⟩ := act_puts hsame
            have h : (GVar wc.heap.size (PG.wipeI (PG.wipeI H 0 0 8 (pa, pb, pc)) 1 0 8 (pa, pb, pc)) (u 5) w') ∧ Below wc.heap.size wc w' := by
              (try simp only [hu])
              exact (And.intro (hJ.var hall 6 (by decide) rfl rfl (by decide) rfl (by decide) rfl) (hJ.kept.toBelow (Nat.le_refl _) (by simp)))
            have h := hide h
            clear hJ hall hsz hu hsame
            subst ha
            change Exit.then _ _ Exit.normal (Act.put (Act.put (Act.put (Act.put (Act.put (Act.put (Act.put (putAll _ u 0 _) (some 141) (u 0)) (some 142) (u 1)) (some 143) (u 2)) (some 144) (u 3)) (some 145) (u 4)) (some 31) (u 5)) none (u 6)) _
            simp only [putAll]
            generalize u 0 = v0
            generalize u 1 = v1
            generalize u 2 = v2
            generalize u 3 = v3
            generalize u 4 = v4
            generalize u 5 = v5 at h ⊢
            generalize u 6 = v6
            go_simp
            go_step
            go_meet
            exact h.out
      case rest =>
      obtain ⟨⟨gW, rfl, -, hgw⟩, bc⟩ := hcut
      have BB := hide (BB.out.trans (bc.mono BB.out.size))
      have SP := hide (SP.out.keep bc)
      have BP := hide (BP.out.below bc BP.out.lt)
      have HBG := hide (HBG.out.below bc HBG.out.lt)
      have HIG := hide (HIG.out.low bc)
      have HBH := hide (HBH.out.below bc HBH.out.lt)
      have HIH := hide (HIH.out.low bc)
      have B27 := hide (B27.out.below bc B27.out.lt)
      have HBB := hide (HBB.out.below bc HBB.out.lt)
      have HIB := hide (HIB.out.low bc)
      have hsz : (PG.wipeI (PG.wipeI H 0 0 8 (pa, pb, pc)) 1 0 8 (pa, pb, pc)).rows = 2 ∧ (PG.wipeI (PG.wipeI H 0 0 8 (pa, pb, pc)) 1 0 8 (pa, pb, pc)).cols = 8 := ⟨((PG.wipeI_size ..).1.trans (PG.wipeI_size ..).1).trans HH.out.2.1, ((PG.wipeI_size ..).2.trans (PG.wipeI_size ..).2).trans HH.out.2.2⟩
      have hWA : PG.Alike (PG.wipeI (PG.wipeI H 0 0 8 (pa, pb, pc)) 1 0 8 (pa, pb, pc)) (PG.newG 2 8 (pa, pb, pc)) := by
        have h := PG.wipe_both HH.out.2.1 (pa, pb, pc)
        rw [HH.out.2.2] at h
        have e1 : (PG.wipeI H 0 0 8 (pa, pb, pc)) = PG.wipeG H 0 0 8 (pa, pb, pc) := by
          unfold PG.wipeI
          rw [if_pos (by omega), HH.out.2.2]
          rfl
        have e2 : PG.wipeI (PG.wipeG H 0 0 8 (pa, pb, pc)) 1 0 8 (pa, pb, pc) = PG.wipeG (PG.wipeG H 0 0 8 (pa, pb, pc)) 1 0 8 (pa, pb, pc) := by
          unfold PG.wipeI
          rw [if_pos (by omega), (PG.wipe_size ..).2, HH.out.2.2]
          rfl
        rw [e1, e2]
        exact h
      have hWR : PG.RightG (PG.wipeI (PG.wipeI H 0 0 8 (pa, pb, pc)) 1 0 8 (pa, pb, pc)) := PG.right_wipeI (PG.right_wipeI HH.out.1 HP.out _ _ _) HP.out _ _ _
      have hNA : PG.Alike (PG.wipeI H row mm mm (pa, pb, pc)) H := by
        have h := PG.wipe_none HH.out.1 row mm (pa, pb, pc)
        have e1 : PG.wipeI H row mm mm (pa, pb, pc) = PG.wipeG H row mm mm (pa, pb, pc) := by
          unfold PG.wipeI
          rw [if_pos (by omega), HH.out.2.2]
          congr 1
          all_goals omega
        rw [e1]
        exact h
      obtain ⟨AW, cW, hbx, -, -, -, hig⟩ := hgw.open_ hsz.1 hsz.2
      generalize (PG.wipeI (PG.wipeI H 0 0 8 (pa, pb, pc)) 1 0 8 (pa, pb, pc)) = WG at hWA hWR hig
      have HBW := hide (show Box wc gW 26 #[.int .i64 2, .int .i64 8, .slice AW 16 cW] from hbx)
      have HIW := hide (show IsG wc WG (.agg #[.int .i64 2, .int .i64 8, .slice AW 16 cW]) from hig)
      have HWA := hide (And.intro hWA (And.intro hWR hNA))
      clear bc hgw hbx hig hsz hWA hWR hNA
      go_upto_region 27 with fail
      go_cut [12] (fun u12 wx => (u12 = .bool true) ∧ Below wc.heap.size wc wx)
      case first =>
        as_aux_lemma =>
          refine wp_region_rj (n := 177) [] (fun _ => #[]) [(0, 0, 0, 0), (0, 0, 0, 0), (0, 0, 0, 0), (0, 0, 0, 0), (0, 0, 0, 0), (0, 0, 0, 0), (0, 0, 0, 0), (0, 0, 0, 0), (0, 0, 0, 0), (0, 0, 0, 0), (0, 0, 0, 0), (0, 0, 0, 0), (0, 0, 0, 0), (0, 0, 0, 0), (0, 0, 0, 0), (1, 0, 0, 0), (0, 0, 0, 0), (0, 0, 0, 0), (0, 0, 0, 0), (0, 0, 0, 0), (0, 0, 0, 0), (0, 0, 0, 0), (0, 0, 0, 0), (0, 0, 0, 0), (1, 0, 0, 0), (0, 0, 0, 0), (0, 0, 0, 0), (0, 0, 0, 0), (0, 0, 0, 0), (0, 0, 0, 0), (0, 0, 0, 0), (0, 0, 0, 0)] (fun j => [(.bool true), (.bool true), (.pointer (some ⟨g27, 0, none⟩)), (.int .i32 x), (.int .i32 x), (.bool true), (.bool true), (.bool true), (.agg #[.int .i64 2, .int .i64 8, .slice AB 16 cB]), (.agg #[.int .i64 2, .int .i64 8, .slice AH 16 cH]), (.bool true), (.bool true), (.bool true), (.agg #[.int .i64 2, .int .i64 8, .slice AW 16 cW]), (.agg #[.int .i64 pa, .int .i64 pb, .int .i64 pc]), undef, (.bool true), (.bool true), (.bool true), (.agg #[.int .i64 2, .int .i64 8, .slice AH 16 cH]), (.int .i64 row), (.int .i64 mm), (.int .i64 mm), (.agg #[.int .i64 pa, .int .i64 pb, .int .i64 pc]), undef, (.agg #[.int .i64 2, .int .i64 8, .slice AH 16 cH]), (.bool true), (.bool true), (.bool true), (.bool true), (.bool true), (.bool true)].getD j undef) (fun j => [PG.dflt, PG.dflt, PG.dflt, PG.dflt, PG.dflt, PG.dflt, PG.dflt, PG.dflt, PG.dflt, PG.dflt, PG.dflt, PG.dflt, PG.dflt, PG.dflt, PG.dflt, (PG.newG 2 8 (pa, pb, pc)), PG.dflt, PG.dflt, PG.dflt, PG.dflt, PG.dflt, PG.dflt, PG.dflt, PG.dflt, (PG.wipeI H row mm mm (pa, pb, pc)), PG.dflt, PG.dflt, PG.dflt, PG.dflt, PG.dflt, PG.dflt, PG.dflt].getD j PG.dflt) (fun _ => 0) (by kernel_rfl) (by kernel_rfl) (by kernel_rfl) rfl (by kernel_rfl) (no4 rfl) (fun i j h => by revert h; exact no4 (p := fun _ => _) rfl i) (fun hRS => cases32 ⟨?_, ?_, ?_, ?_, ?_, ?_, ?_, ?_, ?_, ?_, ?_, ?_, ?_, ?_, ?_, ?_, ?_, ?_, ?_, ?_, ?_, ?_, ?_, ?_, ?_, ?_, ?_, ?_, ?_, ?_, ?_, ?_⟩) ?_
          · intro L a w' hL hsame hsz hJ hdep hcl
            have e0 : a.eval (.tmp 28) = (.bool true) := eval_base hsame (by kernel_rfl)
            refine Step.val _ rfl rfl (wanted_none rfl) (.bool true) w' (fun ρ hρ => ?_) (hJ.val hRS hcl hL rfl (Below.refl _ _) _ rfl)
            rw [hρ] at e0
            clear hJ hsame hdep hcl hρ hsz
            go_simp
          · intro L a w' hL hsame hsz hJ hdep hcl
            have e0 : a.eval (.tmp 146) = (.bool true) := eval_slot (j := 0) (by kernel_rfl) (hJ.valOf (by decide) (dep_of hdep 0 (by kernel_rfl)) rfl rfl)
            refine Step.val _ rfl rfl (wanted_none rfl) (.bool true) w' (fun ρ hρ => ?_) (hJ.val hRS hcl hL rfl (Below.refl _ _) _ rfl)
            rw [hρ] at e0
            clear hJ hsame hdep hcl hρ hsz
            go_simp
          · intro L a w' hL hsame hsz hJ hdep hcl
            have gd : valOf _ 1 a = .bool true := hJ.valOf (by decide) (dep_of hdep 1 (by kernel_rfl)) rfl rfl
            have e0 : a.eval (.tmp 27) = (.pointer (some ⟨g27, 0, none⟩)) := eval_base hsame (by kernel_rfl)
            refine Step.val _ rfl rfl (wanted_some (g := 1) (b := true) rfl gd) (.pointer (some ⟨g27, 0, none⟩)) w' (fun ρ hρ => ?_) (hJ.val hRS hcl hL rfl (Below.refl _ _) _ rfl)
            rw [hρ] at e0
            clear hJ hsame hdep hcl hρ hsz gd
            go_simp
          · intro L a w' hL hsame hsz hJ hdep hcl
            have gd : valOf _ 1 a = .bool true := hJ.valOf (by decide) (dep_of hdep 1 (by kernel_rfl)) rfl rfl
            have e0 : a.eval (.tmp 148) = (.pointer (some ⟨g27, 0, none⟩)) := eval_slot (j := 2) (by kernel_rfl) (hJ.valOf (by decide) (dep_of hdep 2 (by kernel_rfl)) rfl rfl)
            have hb := hJ.keptBox B27.out (by simp)
            have q0 : w'.cell? ⟨g27, 0, none⟩ = some (.int .i32 x) := hb.cell 0
            refine Step.val _ rfl rfl (wanted_some (g := 1) (b := true) rfl gd) (.int .i32 x) w' (fun ρ hρ => ?_) (hJ.val hRS hcl hL rfl (Below.refl _ _) _ rfl)
            rw [hρ] at e0
            clear hb
            clear hJ hsame hdep hcl hρ hsz gd
            go_simp
          · intro L a w' hL hsame hsz hJ hdep hcl
            have gd : valOf _ 1 a = .bool true := hJ.valOf (by decide) (dep_of hdep 1 (by kernel_rfl)) rfl rfl
            have e0 : a.eval (.tmp 5) = (.int .i32 x) := eval_base hsame (by kernel_rfl)
            refine Step.val _ rfl rfl (wanted_some (g := 1) (b := true) rfl gd) (.int .i32 x) w' (fun ρ hρ => ?_) (hJ.val hRS hcl hL rfl (Below.refl _ _) _ rfl)
            rw [hρ] at e0
            clear hJ hsame hdep hcl hρ hsz gd
            go_simp
          · intro L a w' hL hsame hsz hJ hdep hcl
            have gd : valOf _ 1 a = .bool true := hJ.valOf (by decide) (dep_of hdep 1 (by kernel_rfl)) rfl rfl
            have e0 : a.eval (.tmp 149) = (.int .i32 x) := eval_slot (j := 3) (by kernel_rfl) (hJ.valOf (by decide) (dep_of hdep 3 (by kernel_rfl)) rfl rfl)
            have e1 : a.eval (.tmp 150) = (.int .i32 x) := eval_slot (j := 4) (by kernel_rfl) (hJ.valOf (by decide) (dep_of hdep 4 (by kernel_rfl)) rfl rfl)
            refine Step.val _ rfl rfl (wanted_some (g := 1) (b := true) rfl gd) (.bool true) w' (fun ρ hρ => ?_) (hJ.val hRS hcl hL rfl (Below.refl _ _) _ rfl)
            rw [hρ] at e0 e1
            clear hJ hsame hdep hcl hρ hsz gd
            go_simp
          · intro L a w' hL hsame hsz hJ hdep hcl
            have e0 : a.eval (.tmp 147) = (.bool true) := eval_slot (j := 1) (by kernel_rfl) (hJ.valOf (by decide) (dep_of hdep 1 (by kernel_rfl)) rfl rfl)
            have e1 : a.eval (.tmp 151) = (.bool true) := eval_slot (j := 5) (by kernel_rfl) (hJ.valOf (by decide) (dep_of hdep 5 (by kernel_rfl)) rfl rfl)
            refine Step.val _ rfl rfl (wanted_none rfl) (.bool true) w' (fun ρ hρ => ?_) (hJ.val hRS hcl hL rfl (Below.refl _ _) _ rfl)
            rw [hρ] at e0 e1
            have ec0 : ρ (.const (.bool false)) = (.bool false) := (hρ _).symm
            clear hJ hsame hdep hcl hρ hsz
            go_simp
          · intro L a w' hL hsame hsz hJ hdep hcl
            have e0 : a.eval (.tmp 152) = (.bool true) := eval_slot (j := 6) (by kernel_rfl) (hJ.valOf (by decide) (dep_of hdep 6 (by kernel_rfl)) rfl rfl)
            refine Step.val _ rfl rfl (wanted_none rfl) (.bool true) w' (fun ρ hρ => ?_) (hJ.val hRS hcl hL rfl (Below.refl _ _) _ rfl)
            rw [hρ] at e0
            clear hJ hsame hdep hcl hρ hsz
            go_simp
          · intro L a w' hL hsame hsz hJ hdep hcl
            have gd : valOf _ 7 a = .bool true := hJ.valOf (by decide) (dep_of hdep 7 (by kernel_rfl)) rfl rfl
            have e0 : a.eval (.tmp 29) = (.pointer (some ⟨gB, 0, none⟩)) := eval_base hsame (by kernel_rfl)
            have hb := hJ.keptBox HBB.out (by simp)
            have q0 : w'.cell? ⟨gB, 0, none⟩ = some (.int .i64 2) := hb.cell 0
            have q1 : w'.cell? ⟨gB, 1, none⟩ = some (.int .i64 8) := hb.cell 1
            have q2 : w'.cell? ⟨gB, 2, none⟩ = some (.slice AB 16 cB) := hb.cell 2
            refine Step.val _ rfl rfl (wanted_some (g := 7) (b := true) rfl gd) (.agg #[.int .i64 2, .int .i64 8, .slice AB 16 cB]) w' (fun ρ hρ => ?_) (hJ.val hRS hcl hL rfl (Below.refl _ _) _ rfl)
            rw [hρ] at e0
            clear hb
            clear hJ hsame hdep hcl hρ hsz gd
            go_simp
          · intro L a w' hL hsame hsz hJ hdep hcl
            have gd : valOf _ 7 a = .bool true := hJ.valOf (by decide) (dep_of hdep 7 (by kernel_rfl)) rfl rfl
            have e0 : a.eval (.tmp 19) = (.pointer (some ⟨gH, 0, none⟩)) := eval_base hsame (by kernel_rfl)
            have hb := hJ.keptBox HBH.out (by simp)
            have q0 : w'.cell? ⟨gH, 0, none⟩ = some (.int .i64 2) := hb.cell 0
            have q1 : w'.cell? ⟨gH, 1, none⟩ = some (.int .i64 8) := hb.cell 1
            have q2 : w'.cell? ⟨gH, 2, none⟩ = some (.slice AH 16 cH) := hb.cell 2
            refine Step.val _ rfl rfl (wanted_some (g := 7) (b := true) rfl gd) (.agg #[.int .i64 2, .int .i64 8, .slice AH 16 cH]) w' (fun ρ hρ => ?_) (hJ.val hRS hcl hL rfl (Below.refl _ _) _ rfl)
            rw [hρ] at e0
            clear hb
            clear hJ hsame hdep hcl hρ hsz gd
            go_simp
          · intro L a w' hL hsame hsz hJ hdep hcl
            have gd : valOf _ 7 a = .bool true := hJ.valOf (by decide) (dep_of hdep 7 (by kernel_rfl)) rfl rfl
            have e0 : a.eval (.tmp 154) = (.agg #[.int .i64 2, .int .i64 8, .slice AB 16 cB]) := eval_slot (j := 8) (by kernel_rfl) (hJ.valOf (by decide) (dep_of hdep 8 (by kernel_rfl)) rfl rfl)
            have e1 : a.eval (.tmp 155) = (.agg #[.int .i64 2, .int .i64 8, .slice AH 16 cH]) := eval_slot (j := 9) (by kernel_rfl) (hJ.valOf (by decide) (dep_of hdep 9 (by kernel_rfl)) rfl rfl)
            refine Step.call _ rfl rfl (wanted_some (g := 7) (b := true) rfl gd) 22 #[.agg #[.int .i64 2, .int .i64 8, .slice AB 16 cB], .agg #[.int .i64 2, .int .i64 8, .slice AH 16 cH]] (fun ρ hρ => ?_) ?_
            · skip
              rw [hρ] at e0 e1
              have ef : ρ (.func 22) = .func (.func 22) #[] #[] := (hρ _).symm
              clear hJ hsame hdep hcl hρ hsz gd
              go_simp
            · refine (u_same HBKA.out.2.1 (HIB.out.low (hJ.kept.toBelow (Nat.le_refl _) (by simp))) (HIH.out.low (hJ.kept.toBelow (Nat.le_refl _) (by simp))) HBKA.out.1).mono ?_
              rintro e w2 ⟨rfl, bb⟩
              exact ⟨_, rfl, hJ.val hRS hcl hL rfl bb _ rfl⟩
          · intro L a w' hL hsame hsz hJ hdep hcl
            have e0 : a.eval (.tmp 153) = (.bool true) := eval_slot (j := 7) (by kernel_rfl) (hJ.valOf (by decide) (dep_of hdep 7 (by kernel_rfl)) rfl rfl)
            have e1 : a.eval (.tmp 156) = (.bool true) := eval_slot (j := 10) (by kernel_rfl) (hJ.valOf (by decide) (dep_of hdep 10 (by kernel_rfl)) rfl rfl)
            refine Step.val _ rfl rfl (wanted_none rfl) (.bool true) w' (fun ρ hρ => ?_) (hJ.val hRS hcl hL rfl (Below.refl _ _) _ rfl)
            rw [hρ] at e0 e1
            have ec0 : ρ (.const (.bool false)) = (.bool false) := (hρ _).symm
            clear hJ hsame hdep hcl hρ hsz
            go_simp
          · intro L a w' hL hsame hsz hJ hdep hcl
            have e0 : a.eval (.tmp 157) = (.bool true) := eval_slot (j := 11) (by kernel_rfl) (hJ.valOf (by decide) (dep_of hdep 11 (by kernel_rfl)) rfl rfl)
            refine Step.val _ rfl rfl (wanted_none rfl) (.bool true) w' (fun ρ hρ => ?_) (hJ.val hRS hcl hL rfl (Below.refl _ _) _ rfl)
            rw [hρ] at e0
            clear hJ hsame hdep hcl hρ hsz
            go_simp
          · intro L a w' hL hsame hsz hJ hdep hcl
            have gd : valOf _ 12 a = .bool true := hJ.valOf (by decide) (dep_of hdep 12 (by kernel_rfl)) rfl rfl
            have e0 : a.eval (.tmp 31) = (.pointer (some ⟨gW, 0, none⟩)) := eval_base hsame (by kernel_rfl)
            have hb := hJ.keptBox HBW.out (by simp)
            have q0 : w'.cell? ⟨gW, 0, none⟩ = some (.int .i64 2) := hb.cell 0
            have q1 : w'.cell? ⟨gW, 1, none⟩ = some (.int .i64 8) := hb.cell 1
            have q2 : w'.cell? ⟨gW, 2, none⟩ = some (.slice AW 16 cW) := hb.cell 2
            refine Step.val _ rfl rfl (wanted_some (g := 12) (b := true) rfl gd) (.agg #[.int .i64 2, .int .i64 8, .slice AW 16 cW]) w' (fun ρ hρ => ?_) (hJ.val hRS hcl hL rfl (Below.refl _ _) _ rfl)
            rw [hρ] at e0
            clear hb
            clear hJ hsame hdep hcl hρ hsz gd
            go_simp
          · intro L a w' hL hsame hsz hJ hdep hcl
            have gd : valOf _ 12 a = .bool true := hJ.valOf (by decide) (dep_of hdep 12 (by kernel_rfl)) rfl rfl
            have e0 : a.eval (.tmp 13) = (.pointer (some ⟨gP, 0, none⟩)) := eval_base hsame (by kernel_rfl)
            have hb := hJ.keptBox BP.out (by simp)
            have q0 : w'.cell? ⟨gP, 0, none⟩ = some (.int .i64 pa) := hb.cell 0
            have q1 : w'.cell? ⟨gP, 1, none⟩ = some (.int .i64 pb) := hb.cell 1
            have q2 : w'.cell? ⟨gP, 2, none⟩ = some (.int .i64 pc) := hb.cell 2
            refine Step.val _ rfl rfl (wanted_some (g := 12) (b := true) rfl gd) (.agg #[.int .i64 pa, .int .i64 pb, .int .i64 pc]) w' (fun ρ hρ => ?_) (hJ.val hRS hcl hL rfl (Below.refl _ _) _ rfl)
            rw [hρ] at e0
            clear hb
            clear hJ hsame hdep hcl hρ hsz gd
            go_simp
          · intro L a w' hL hsame hsz hJ hdep hcl
            have gd : valOf _ 12 a = .bool true := hJ.valOf (by decide) (dep_of hdep 12 (by kernel_rfl)) rfl rfl
            have e2 : a.eval (.tmp 160) = (.agg #[.int .i64 pa, .int .i64 pb, .int .i64 pc]) := eval_slot (j := 14) (by kernel_rfl) (hJ.valOf (by decide) (dep_of hdep 14 (by kernel_rfl)) rfl rfl)
            refine Step.call _ rfl rfl (wanted_some (g := 12) (b := true) rfl gd) 9 #[.int .i64 2, .int .i64 8, .agg #[.int .i64 pa, .int .i64 pb, .int .i64 pc]] (fun ρ hρ => ?_) ?_
            · skip
              rw [hρ] at e2
              have ec0 : ρ (.const (.int .i64 2)) = (.int .i64 2) := (hρ _).symm
              have ec1 : ρ (.const (.int .i64 8)) = (.int .i64 8) := (hρ _).symm
              have ef : ρ (.func 9) = .func (.func 9) #[] #[] := (hρ _).symm
              clear hJ hsame hdep hcl hρ hsz gd
              go_simp
            · refine (u_new 2 8 (pa, pb, pc) w' (by omega) (by omega) (by omega) (by omega)).mono ?_
              rintro e w2 ⟨v, rfl, hg, bb⟩
              exact ⟨v, rfl, hJ.grid hRS hcl hL rfl bb v hg⟩
          · intro L a w' hL hsame hsz hJ hdep hcl
            have gd : valOf _ 12 a = .bool true := hJ.valOf (by decide) (dep_of hdep 12 (by kernel_rfl)) rfl rfl
            have e0 : a.eval (.tmp 159) = (.agg #[.int .i64 2, .int .i64 8, .slice AW 16 cW]) := eval_slot (j := 13) (by kernel_rfl) (hJ.valOf (by decide) (dep_of hdep 13 (by kernel_rfl)) rfl rfl)
            obtain ⟨v15, hv15, hG15⟩ := hJ.gridAt (j := 15) (by decide) (dep_of hdep 15 (by kernel_rfl)) rfl
            have hG15 : IsG w' (PG.newG 2 8 (pa, pb, pc)) v15 := hG15
            have e1 : a.eval (.tmp 161) = v15 := eval_slot (j := 15) (by kernel_rfl) hv15
            refine Step.call _ rfl rfl (wanted_some (g := 12) (b := true) rfl gd) 22 #[.agg #[.int .i64 2, .int .i64 8, .slice AW 16 cW], v15] (fun ρ hρ => ?_) ?_
            · skip
              rw [hρ] at e0 e1
              have ef : ρ (.func 22) = .func (.func 22) #[] #[] := (hρ _).symm
              clear hJ hsame hdep hcl hρ hsz gd
              go_simp
            · refine (u_same HWA.out.2.1 (HIW.out.low (hJ.kept.toBelow (Nat.le_refl _) (by simp))) hG15 HWA.out.1).mono ?_
              rintro e w2 ⟨rfl, bb⟩
              exact ⟨_, rfl, hJ.val hRS hcl hL rfl bb _ rfl⟩
          · intro L a w' hL hsame hsz hJ hdep hcl
            have e0 : a.eval (.tmp 158) = (.bool true) := eval_slot (j := 12) (by kernel_rfl) (hJ.valOf (by decide) (dep_of hdep 12 (by kernel_rfl)) rfl rfl)
            have e1 : a.eval (.tmp 162) = (.bool true) := eval_slot (j := 16) (by kernel_rfl) (hJ.valOf (by decide) (dep_of hdep 16 (by kernel_rfl)) rfl rfl)
            refine Step.val _ rfl rfl (wanted_none rfl) (.bool true) w' (fun ρ hρ => ?_) (hJ.val hRS hcl hL rfl (Below.refl _ _) _ rfl)
            rw [hρ] at e0 e1
            have ec0 : ρ (.const (.bool false)) = (.bool false) := (hρ _).symm
            clear hJ hsame hdep hcl hρ hsz
            go_simp
          · intro L a w' hL hsame hsz hJ hdep hcl
            have e0 : a.eval (.tmp 163) = (.bool true) := eval_slot (j := 17) (by kernel_rfl) (hJ.valOf (by decide) (dep_of hdep 17 (by kernel_rfl)) rfl rfl)
            refine Step.val _ rfl rfl (wanted_none rfl) (.bool true) w' (fun ρ hρ => ?_) (hJ.val hRS hcl hL rfl (Below.refl _ _) _ rfl)
            rw [hρ] at e0
            clear hJ hsame hdep hcl hρ hsz
            go_simp
          · intro L a w' hL hsame hsz hJ hdep hcl
            have gd : valOf _ 18 a = .bool true := hJ.valOf (by decide) (dep_of hdep 18 (by kernel_rfl)) rfl rfl
            have e0 : a.eval (.tmp 19) = (.pointer (some ⟨gH, 0, none⟩)) := eval_base hsame (by kernel_rfl)
            have hb := hJ.keptBox HBH.out (by simp)
            have q0 : w'.cell? ⟨gH, 0, none⟩ = some (.int .i64 2) := hb.cell 0
            have q1 : w'.cell? ⟨gH, 1, none⟩ = some (.int .i64 8) := hb.cell 1
            have q2 : w'.cell? ⟨gH, 2, none⟩ = some (.slice AH 16 cH) := hb.cell 2
            refine Step.val _ rfl rfl (wanted_some (g := 18) (b := true) rfl gd) (.agg #[.int .i64 2, .int .i64 8, .slice AH 16 cH]) w' (fun ρ hρ => ?_) (hJ.val hRS hcl hL rfl (Below.refl _ _) _ rfl)
            rw [hρ] at e0
            clear hb
            clear hJ hsame hdep hcl hρ hsz gd
            go_simp
          · intro L a w' hL hsame hsz hJ hdep hcl
            have gd : valOf _ 18 a = .bool true := hJ.valOf (by decide) (dep_of hdep 18 (by kernel_rfl)) rfl rfl
            have e0 : a.eval (.tmp 17) = (.int .i64 row) := eval_base hsame (by kernel_rfl)
            refine Step.val _ rfl rfl (wanted_some (g := 18) (b := true) rfl gd) (.int .i64 row) w' (fun ρ hρ => ?_) (hJ.val hRS hcl hL rfl (Below.refl _ _) _ rfl)
            rw [hρ] at e0
            clear hJ hsame hdep hcl hρ hsz gd
            go_simp
          · intro L a w' hL hsame hsz hJ hdep hcl
            have gd : valOf _ 18 a = .bool true := hJ.valOf (by decide) (dep_of hdep 18 (by kernel_rfl)) rfl rfl
            have e0 : a.eval (.tmp 30) = (.int .i64 mm) := eval_base hsame (by kernel_rfl)
            refine Step.val _ rfl rfl (wanted_some (g := 18) (b := true) rfl gd) (.int .i64 mm) w' (fun ρ hρ => ?_) (hJ.val hRS hcl hL rfl (Below.refl _ _) _ rfl)
            rw [hρ] at e0
            clear hJ hsame hdep hcl hρ hsz gd
            go_simp
          · intro L a w' hL hsame hsz hJ hdep hcl
            have gd : valOf _ 18 a = .bool true := hJ.valOf (by decide) (dep_of hdep 18 (by kernel_rfl)) rfl rfl
            have e0 : a.eval (.tmp 30) = (.int .i64 mm) := eval_base hsame (by kernel_rfl)
            refine Step.val _ rfl rfl (wanted_some (g := 18) (b := true) rfl gd) (.int .i64 mm) w' (fun ρ hρ => ?_) (hJ.val hRS hcl hL rfl (Below.refl _ _) _ rfl)
            rw [hρ] at e0
            clear hJ hsame hdep hcl hρ hsz gd
            go_simp
          · intro L a w' hL hsame hsz hJ hdep hcl
            have gd : valOf _ 18 a = .bool true := hJ.valOf (by decide) (dep_of hdep 18 (by kernel_rfl)) rfl rfl
            have e0 : a.eval (.tmp 13) = (.pointer (some ⟨gP, 0, none⟩)) := eval_base hsame (by kernel_rfl)
            have hb := hJ.keptBox BP.out (by simp)
            have q0 : w'.cell? ⟨gP, 0, none⟩ = some (.int .i64 pa) := hb.cell 0
            have q1 : w'.cell? ⟨gP, 1, none⟩ = some (.int .i64 pb) := hb.cell 1
            have q2 : w'.cell? ⟨gP, 2, none⟩ = some (.int .i64 pc) := hb.cell 2
            refine Step.val _ rfl rfl (wanted_some (g := 18) (b := true) rfl gd) (.agg #[.int .i64 pa, .int .i64 pb, .int .i64 pc]) w' (fun ρ hρ => ?_) (hJ.val hRS hcl hL rfl (Below.refl _ _) _ rfl)
            rw [hρ] at e0
            clear hb
            clear hJ hsame hdep hcl hρ hsz gd
            go_simp
          · intro L a w' hL hsame hsz hJ hdep hcl
            have gd : valOf _ 18 a = .bool true := hJ.valOf (by decide) (dep_of hdep 18 (by kernel_rfl)) rfl rfl
            have e0 : a.eval (.tmp 165) = (.agg #[.int .i64 2, .int .i64 8, .slice AH 16 cH]) := eval_slot (j := 19) (by kernel_rfl) (hJ.valOf (by decide) (dep_of hdep 19 (by kernel_rfl)) rfl rfl)
            have e1 : a.eval (.tmp 166) = (.int .i64 row) := eval_slot (j := 20) (by kernel_rfl) (hJ.valOf (by decide) (dep_of hdep 20 (by kernel_rfl)) rfl rfl)
            have e2 : a.eval (.tmp 167) = (.int .i64 mm) := eval_slot (j := 21) (by kernel_rfl) (hJ.valOf (by decide) (dep_of hdep 21 (by kernel_rfl)) rfl rfl)
            have e3 : a.eval (.tmp 168) = (.int .i64 mm) := eval_slot (j := 22) (by kernel_rfl) (hJ.valOf (by decide) (dep_of hdep 22 (by kernel_rfl)) rfl rfl)
            have e4 : a.eval (.tmp 169) = (.agg #[.int .i64 pa, .int .i64 pb, .int .i64 pc]) := eval_slot (j := 23) (by kernel_rfl) (hJ.valOf (by decide) (dep_of hdep 23 (by kernel_rfl)) rfl rfl)
            refine Step.call _ rfl rfl (wanted_some (g := 18) (b := true) rfl gd) 16 #[.agg #[.int .i64 2, .int .i64 8, .slice AH 16 cH], .int .i64 row, .int .i64 mm, .int .i64 mm, .agg #[.int .i64 pa, .int .i64 pb, .int .i64 pc]] (fun ρ hρ => ?_) ?_
            · skip
              rw [hρ] at e0 e1 e2 e3 e4
              have ef : ρ (.func 16) = .func (.func 16) #[] #[] := (hρ _).symm
              clear hJ hsame hdep hcl hρ hsz gd
              go_simp
            · refine (u_wipe HH.out.1 (HIH.out.low (hJ.kept.toBelow (Nat.le_refl _) (by simp))) row mm mm (pa, pb, pc) (by omega) (by omega)).mono ?_
              rintro e w2 ⟨v, rfl, hg, bb⟩
              exact ⟨v, rfl, hJ.grid hRS hcl hL rfl bb v hg⟩
          · intro L a w' hL hsame hsz hJ hdep hcl
            have gd : valOf _ 18 a = .bool true := hJ.valOf (by decide) (dep_of hdep 18 (by kernel_rfl)) rfl rfl
            have e0 : a.eval (.tmp 19) = (.pointer (some ⟨gH, 0, none⟩)) := eval_base hsame (by kernel_rfl)
            have hb := hJ.keptBox HBH.out (by simp)
            have q0 : w'.cell? ⟨gH, 0, none⟩ = some (.int .i64 2) := hb.cell 0
            have q1 : w'.cell? ⟨gH, 1, none⟩ = some (.int .i64 8) := hb.cell 1
            have q2 : w'.cell? ⟨gH, 2, none⟩ = some (.slice AH 16 cH) := hb.cell 2
            refine Step.val _ rfl rfl (wanted_some (g := 18) (b := true) rfl gd) (.agg #[.int .i64 2, .int .i64 8, .slice AH 16 cH]) w' (fun ρ hρ => ?_) (hJ.val hRS hcl hL rfl (Below.refl _ _) _ rfl)
            rw [hρ] at e0
            clear hb
            clear hJ hsame hdep hcl hρ hsz gd
            go_simp
          · intro L a w' hL hsame hsz hJ hdep hcl
            have gd : valOf _ 18 a = .bool true := hJ.valOf (by decide) (dep_of hdep 18 (by kernel_rfl)) rfl rfl
            obtain ⟨v24, hv24, hG24⟩ := hJ.gridAt (j := 24) (by decide) (dep_of hdep 24 (by kernel_rfl)) rfl
            have hG24 : IsG w' (PG.wipeI H row mm mm (pa, pb, pc)) v24 := hG24
            have e0 : a.eval (.tmp 170) = v24 := eval_slot (j := 24) (by kernel_rfl) hv24
            have e1 : a.eval (.tmp 171) = (.agg #[.int .i64 2, .int .i64 8, .slice AH 16 cH]) := eval_slot (j := 25) (by kernel_rfl) (hJ.valOf (by decide) (dep_of hdep 25 (by kernel_rfl)) rfl rfl)
            refine Step.call _ rfl rfl (wanted_some (g := 18) (b := true) rfl gd) 22 #[v24, .agg #[.int .i64 2, .int .i64 8, .slice AH 16 cH]] (fun ρ hρ => ?_) ?_
            · skip
              rw [hρ] at e0 e1
              have ef : ρ (.func 22) = .func (.func 22) #[] #[] := (hρ _).symm
              clear hJ hsame hdep hcl hρ hsz gd
              go_simp
            · refine (u_same (PG.right_wipeI HH.out.1 HP.out _ _ _) hG24 (HIH.out.low (hJ.kept.toBelow (Nat.le_refl _) (by simp))) HWA.out.2.2).mono ?_
              rintro e w2 ⟨rfl, bb⟩
              exact ⟨_, rfl, hJ.val hRS hcl hL rfl bb _ rfl⟩
          · intro L a w' hL hsame hsz hJ hdep hcl
            have e0 : a.eval (.tmp 164) = (.bool true) := eval_slot (j := 18) (by kernel_rfl) (hJ.valOf (by decide) (dep_of hdep 18 (by kernel_rfl)) rfl rfl)
            have e1 : a.eval (.tmp 172) = (.bool true) := eval_slot (j := 26) (by kernel_rfl) (hJ.valOf (by decide) (dep_of hdep 26 (by kernel_rfl)) rfl rfl)
            refine Step.val _ rfl rfl (wanted_none rfl) (.bool true) w' (fun ρ hρ => ?_) (hJ.val hRS hcl hL rfl (Below.refl _ _) _ rfl)
            rw [hρ] at e0 e1
            have ec0 : ρ (.const (.bool false)) = (.bool false) := (hρ _).symm
            clear hJ hsame hdep hcl hρ hsz
            go_simp
          · intro L a w' hL hsame hsz hJ hdep hcl
            have e0 : a.eval (.tmp 173) = (.bool true) := eval_slot (j := 27) (by kernel_rfl) (hJ.valOf (by decide) (dep_of hdep 27 (by kernel_rfl)) rfl rfl)
            refine Step.val _ rfl rfl (wanted_none rfl) (.bool true) w' (fun ρ hρ => ?_) (hJ.val hRS hcl hL rfl (Below.refl _ _) _ rfl)
            rw [hρ] at e0
            clear hJ hsame hdep hcl hρ hsz
            go_simp
          · intro L a w' hL hsame hsz hJ hdep hcl
            have gd : valOf _ 28 a = .bool true := hJ.valOf (by decide) (dep_of hdep 28 (by kernel_rfl)) rfl rfl
            refine Step.call _ rfl rfl (wanted_some (g := 28) (b := true) rfl gd) 3 #[] (fun ρ hρ => ?_) ?_
            · skip
              have ef : ρ (.func 3) = .func (.func 3) #[] #[] := (hρ _).symm
              clear hJ hsame hdep hcl hρ hsz gd
              go_simp
            · refine (gridRuns_any w' (SP.out.keptS hJ.kept (by simp))).mono ?_
              rintro e w2 ⟨rfl, bb⟩
              exact ⟨_, rfl, hJ.val hRS hcl hL rfl bb _ rfl⟩
          · intro L a w' hL hsame hsz hJ hdep hcl
            have e0 : a.eval (.tmp 174) = (.bool true) := eval_slot (j := 28) (by kernel_rfl) (hJ.valOf (by decide) (dep_of hdep 28 (by kernel_rfl)) rfl rfl)
            have e1 : a.eval (.tmp 175) = (.bool true) := eval_slot (j := 29) (by kernel_rfl) (hJ.valOf (by decide) (dep_of hdep 29 (by kernel_rfl)) rfl rfl)
            refine Step.val _ rfl rfl (wanted_none rfl) (.bool true) w' (fun ρ hρ => ?_) (hJ.val hRS hcl hL rfl (Below.refl _ _) _ rfl)
            rw [hρ] at e0 e1
            have ec0 : ρ (.const (.bool false)) = (.bool false) := (hρ _).symm
            clear hJ hsame hdep hcl hρ hsz
            go_simp
          · intro L a w' hL hsame hsz hJ hdep hcl
            have e0 : a.eval (.tmp 176) = (.bool true) := eval_slot (j := 30) (by kernel_rfl) (hJ.valOf (by decide) (dep_of hdep 30 (by kernel_rfl)) rfl rfl)
            refine Step.val _ rfl rfl (wanted_none rfl) (.bool true) w' (fun ρ hρ => ?_) (hJ.val hRS hcl hL rfl (Below.refl _ _) _ rfl)
            rw [hρ] at e0
            clear hJ hsame hdep hcl hρ hsz
            go_simp
          · intro L a w' hsame hsz hJ hall
            obtain ⟨u, hu, ha⟩ := act_puts hsame
            have h : (u 31 = .bool true) ∧ Below wc.heap.size wc w' := by
              (try simp only [hu])
              exact (And.intro (hJ.valOf (j := 31) (by decide) (hall 31 (by decide)) rfl rfl) (hJ.kept.toBelow (Nat.le_refl _) (by simp)))
            have h := hide h
            clear hJ hall hsz hu hsame
            subst ha
            change Exit.then _ _ Exit.normal (Act.put (Act.put (Act.put (Act.put (Act.put (Act.put (Act.put (Act.put (Act.put (Act.put (Act.put (Act.put (Act.put (Act.put (Act.put (Act.put (Act.put (Act.put (Act.put (Act.put (Act.put (Act.put (Act.put (Act.put (Act.put (Act.put (Act.put (Act.put (Act.put (Act.put (Act.put (Act.put (putAll _ u 0 _) (some 146) (u 0)) (some 147) (u 1)) (some 148) (u 2)) (some 149) (u 3)) (some 150) (u 4)) (some 151) (u 5)) (some 152) (u 6)) (some 153) (u 7)) (some 154) (u 8)) (some 155) (u 9)) (some 156) (u 10)) (some 157) (u 11)) (some 158) (u 12)) (some 159) (u 13)) (some 160) (u 14)) (some 161) (u 15)) (some 162) (u 16)) (some 163) (u 17)) (some 164) (u 18)) (some 165) (u 19)) (some 166) (u 20)) (some 167) (u 21)) (some 168) (u 22)) (some 169) (u 23)) (some 170) (u 24)) (some 171) (u 25)) (some 172) (u 26)) (some 173) (u 27)) (some 174) (u 28)) (some 175) (u 29)) (some 176) (u 30)) (some 12) (u 31)) _
            simp only [putAll]
            generalize u 0 = v0
            generalize u 1 = v1
            generalize u 2 = v2
            generalize u 3 = v3
            generalize u 4 = v4
            generalize u 5 = v5
            generalize u 6 = v6
            generalize u 7 = v7
            generalize u 8 = v8
            generalize u 9 = v9
            generalize u 10 = v10
            generalize u 11 = v11
            generalize u 12 = v12
            generalize u 13 = v13
            generalize u 14 = v14
            generalize u 15 = v15
            generalize u 16 = v16
            generalize u 17 = v17
            generalize u 18 = v18
            generalize u 19 = v19
            generalize u 20 = v20
            generalize u 21 = v21
            generalize u 22 = v22
            generalize u 23 = v23
            generalize u 24 = v24
            generalize u 25 = v25
            generalize u 26 = v26
            generalize u 27 = v27
            generalize u 28 = v28
            generalize u 29 = v29
            generalize u 30 = v30
            generalize u 31 = v31 at h ⊢
            go_simp
            go_step
            go_meet
            exact h.out
      case rest =>
      obtain ⟨rfl, bc⟩ := hcut
      have BB := hide (BB.out.trans (bc.mono BB.out.size))
      have SP := hide (SP.out.keep bc)
      have BP := hide (BP.out.below bc BP.out.lt)
      have HBG := hide (HBG.out.below bc HBG.out.lt)
      have HIG := hide (HIG.out.low bc)
      have HBH := hide (HBH.out.below bc HBH.out.lt)
      have HIH := hide (HIH.out.low bc)
      have B27 := hide (B27.out.below bc B27.out.lt)
      have HBB := hide (HBB.out.below bc HBB.out.lt)
      have HIB := hide (HIB.out.low bc)
      have HBW := hide (HBW.out.below bc HBW.out.lt)
      have HIW := hide (HIW.out.low bc)
      go_wp2_with fail
      go_ret
      exact ⟨rfl, BB.out⟩
theorem gridLaws_any (a0 b0 c0 : Int) (A : Option Addr) (n cc : Nat) (l : List Int) (r c m x : Int) (w : World)
    (ha0 : (Lit.int .i64 a0).wf = true) (hb0 : (Lit.int .i64 b0).wf = true) (hc0 : (Lit.int .i64 c0).wf = true) (hA : Arg .i32 w A n cc l) (hr : (Lit.int .i64 r).wf = true) (hc : (Lit.int .i64 c).wf = true) (hm : (Lit.int .i64 m).wf = true) (hx : (Lit.int .i32 x).wf = true) (hs : Spans w) :
    Calls Tryd.prog 5 #[.agg #[.int .i64 a0, .int .i64 b0, .int .i64 c0], .slice A n cc, .int .i64 r, .int .i64 c, .int .i64 m, .int .i32 x] w fun e w' => e = .returned (.bool true) ∧ Below w.heap.size w w' :=
  gridLaws_core a0 b0 c0 A n cc l r c m x w (bounds_i64 ha0) (bounds_i64 hb0) (bounds_i64 hc0) hA (bounds_i64 hr) (bounds_i64 hc) (bounds_i64 hm) (bounds_i32 hx) hs
end Go.Proofs.YtfeapcneebofjaaDoor
