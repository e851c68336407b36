/- EditPlays: any calls over any cells: all cells, each time; the grid is right. -/
import Derived.Test.YtcbmjdacdjcggaaDoorEditPlaysP
import Derived.Test.YtcbmjdacdjcggaaDoorOpenAskE
set_option maxRecDepth 100000
namespace Go.Proofs.YtcbmjdacdjcggaaDoor
open Go.RowKit
set_option linter.unusedVariables false
theorem meas_plays {k n : Nat} (h : k < n) : n - (intOf (.int .i64 ((k : Int) + 1))).toNat < n - (intOf (.int .i64 (k : Int))).toNat := by
  show n - ((k : Int) + 1).toNat < n - (k : Int).toNat
  omega
theorem wrap_plays {c : Nat} (h : c < 20) : wrap64 ((c : Int) + 1) = (c : Int) + 1 := by unfold wrap64; omega
theorem within_exE (z : Int) {lo hi : Int} (h : lo ≤ hi) : ∃ v : Int, lo + z % (hi - lo + 1) = v ∧ lo ≤ v ∧ v ≤ hi := by
  have h1 := Int.emod_nonneg z (show hi - lo + 1 ≠ 0 by omega)
  have h2 := Int.emod_lt_of_pos z (show (0 : Int) < hi - lo + 1 by omega)
  exact ⟨_, rfl, by omega, by omega⟩
set_option maxHeartbeats 32000000 in
theorem editPlays_core (rw_ cl : Int) (Ap : Option Addr) (np cp : Nat) (lp : List Int) (At : Option Addr) (nt ct : Nat) (lt : List Int) (A : Option Addr) (n cc : Nat) (w : World)
    (hrw : -9223372036854775808 ≤ rw_ ∧ rw_ ≤ 9223372036854775807) (hcl : -9223372036854775808 ≤ cl ∧ cl ≤ 9223372036854775807) (hA : Arg .i64 w Ap np cp lp) (hB : Arg .i64 w At nt ct lt)
    (hQ : QArgsE w A n) (hn : n ≤ maxLen) (hs : Spans w) :
    Calls Tryd.prog 4 #[.agg #[.int .i64 rw_, .int .i64 cl, .slice Ap np cp, .slice At nt ct], .slice A n cc] w fun e w' => e = .returned (.bool true) ∧ Below w.heap.size w w' := by
  obtain ⟨R0, hR⟩ : ∃ R : Nat, 1 + rw_ % (5 - 1 + 1) = (R : Int) := ⟨(1 + rw_ % 5).toNat, by omega⟩
  obtain ⟨K0, hK⟩ : ∃ K : Nat, 1 + cl % (9 - 1 + 1) = (K : Int) := ⟨(1 + cl % 9).toNat, by omega⟩
  have hR1 : 1 ≤ R0 ∧ R0 ≤ 5 ∧ 1 ≤ K0 ∧ K0 ≤ 9 := by omega
  have hGG := keepG_right lp lt (R := R0) (K := K0) hR1.1 hR1.2.1 hR1.2.2.1 hR1.2.2.2
  have K1 := hide (fun (w' : World) (b : Below w.heap.size w w') => u_keepGrid rw_ cl R0 K0 np cp nt ct lp lt Ap At w w' b hR hK hrw hcl hA hB)
  have hsz : (PG.ofL R0 K0 (PG.keepCells lp lt R0 K0)).rows = R0 ∧ (PG.ofL R0 K0 (PG.keepCells lp lt R0 K0)).cols = K0 := ⟨rfl, rfl⟩
  generalize PG.ofL R0 K0 (PG.keepCells lp lt R0 K0) = G at hGG K1 hsz
  have HG := hide (show PG.RightG G ∧ G.rows = R0 ∧ G.cols = K0 ∧ R0 ≤ 5 ∧ K0 ≤ 9 from ⟨hGG, hsz.1, hsz.2, hR1.2.1, hR1.2.2.2⟩)
  have SP := hide hs
  have HQ := hide hQ
  have HN := hide hn
  clear hrw hcl hs hR hK hR1 hGG hsz hA hB hQ hn
  go_enter Tryd.func4, Tryd.ntmps4
  go_upto_region 1 with fail
  have bX := Box.new w 36 #[.int .i64 rw_, .int .i64 cl, .slice Ap np cp, .slice At nt ct]
  have bb : Below w.heap.size w (w.alloc (.cells #[.int .i64 rw_, .int .i64 cl, .slice Ap np cp, .slice At nt ct] 36)) := (Below.refl _ _).alloc (Nat.le_refl _) _
  generalize w.alloc (.cells #[.int .i64 rw_, .int .i64 cl, .slice Ap np cp, .slice At nt ct] 36) = wc at bX bb ⊢
  obtain ⟨gX, hgX⟩ : ∃ g, w.heap.size = g := ⟨_, rfl⟩
  have BX := hide bX
  have BB := hide bb
  replace SP := hide (SP.out.keep bb)
  replace HQ := hide (HQ.out.below (Nat.le_refl _) bb)
  rw [hgX] at BX ⊢
  clear bX bb hgX
  go_cut [5] from 19 to 20 (fun u wx => GVar wc.heap.size G u wx ∧ Below wc.heap.size wc wx)
  case first =>
    as_aux_lemma =>
      have m0 : wc.cell? ⟨gX, 0, none⟩ = some (.int .i64 rw_) := BX.out.cell 0
      have m1 : wc.cell? ⟨gX, 1, none⟩ = some (.int .i64 cl) := BX.out.cell 1
      have m2 : wc.cell? ⟨gX, 2, none⟩ = some (.slice Ap np cp) := BX.out.cell 2
      have m3 : wc.cell? ⟨gX, 3, none⟩ = some (.slice At nt ct) := BX.out.cell 3
      go_wp2_with (
        go_at_call 16
        go_must (refine (K1.out _ BB.out).mono ?_)
        rintro e w3 ⟨v, rfl, ⟨s, rfl, ho⟩, b3⟩
        obtain ⟨sA, sc, rfl, _⟩ := own_form' ho
        have b3 := hide b3
        have ho := hide ho
        clear m0 m1 m2 m3
        unfold gv)
      go_meet
      exact ⟨⟨_, rfl, b3.out.size, _, Box.new _ _ _, _, rfl, own_low ho.out ((Below.refl _ _).alloc (Nat.le_refl _) _)⟩, b3.out.alloc (by have := b3.out.size; omega) _⟩
  case rest =>
    as_aux_lemma =>
      obtain ⟨⟨gG, rfl, hgG, vG⟩, bc⟩ := hcut
      have HGG := hide hgG
      have VG := hide vG
      have BC := hide bc
      clear vG bc hgG BX K1
      rename World => w3
      go_upto_block 0 with fail
      go_cut [6] (fun u wx => Below wc.heap.size wc wx)
      case first =>
        as_aux_lemma =>
          go_wp2_with fail
          go_loopw [6] (fun i wr => ∃ (k : Nat) (Gx : PG.Gr), i = .int .i64 k ∧ Hid (PG.RightG Gx ∧ Gx.rows ≤ 5 ∧ Gx.cols ≤ 9) ∧ Hid (GBox wr Gx gG) ∧ Hid (Below wc.heap.size wc wr)) (fun i _ => n - (intOf i).toNat)
          case atStart => exact ⟨0, G, rfl, hide ⟨HG.out.1, by rw [HG.out.2.1]; exact HG.out.2.2.2.1, by rw [HG.out.2.2.1]; exact HG.out.2.2.2.2⟩, VG, BC⟩
          case round =>
            obtain ⟨k, Gx, rfl, HRX, VG, bx⟩ := hrel
            by_cases hlt : k < n ∧ k < 20
            · obtain ⟨hlt, h20⟩ := hlt
              have HKN := hide (And.intro hlt h20)
              obtain ⟨ad, kd, qr, qc, qm, y1, y2, y3, hA, hadB, c0, c1, c2, c3, c4, c5, c6, bk, br, bcc, bm, b1, b2, b3⟩ := (HQ.out.below (Nat.le_refl _) bx.out) k hlt
              subst hA
              have HB := hide (And.intro br (And.intro bcc (And.intro bm (And.intro b1 (And.intro b2 b3)))))
              have hnm := HN.out
              unfold maxLen at hnm
              clear bk br bcc bm b1 b2 b3 HG BC
              go_upto_region 5 with fail
              go_cut [7] from 21 to 34 (fun u wx => (∃ g, u = .pointer (some ⟨g, 0, none⟩) ∧ wr.heap.size ≤ g ∧ Box wx g 41 #[.int .i64 kd, .int .i64 qr, .int .i64 qc, .int .i64 qm, .int .i64 y1, .int .i64 y2, .int .i64 y3]) ∧ Below wr.heap.size wr wx)
              case first =>
                as_aux_lemma =>
                  clear VG HRX
                  go_wp2_with fail
                  go_meet
                  exact ⟨⟨_, rfl, Nat.le_refl _, Box.new _ _ _⟩, (Below.refl _ _).alloc (Nat.le_refl _) _⟩
              case rest =>
                as_aux_lemma =>
                  obtain ⟨⟨gQ, rfl, hgQ, hq⟩, bc⟩ := hcut
                  replace bx := hide (bx.out.trans (bc.mono bx.out.size))
                  have HNQ := hide (show gG ≠ gQ from by
                    obtain ⟨s, h1, -⟩ := VG.out
                    have := h1.lt
                    omega)
                  replace VG := hide (VG.out.low bc)
                  have BQ := hide hq
                  clear bc hq hgQ hlt h20 hnm c0 c1 c2 c3 c4 c5 c6 hadB
                  obtain ⟨R, hR⟩ : ∃ R, Gx.rows = R := ⟨_, rfl⟩
                  obtain ⟨K, hK⟩ : ∃ K, Gx.cols = K := ⟨_, rfl⟩
                  obtain ⟨AG, cG, hbG, -, -, -, hiG⟩ := VG.out.open_ hR hK
                  have BG := hide (show Box wc gG 27 #[.int .i64 R, .int .i64 K, .slice AG (R * K) cG] from hbG)
                  have IG := hide (show IsG wc Gx (.agg #[.int .i64 R, .int .i64 K, .slice AG (R * K) cG]) from hiG)
                  replace HRX := hide (show PG.RightG Gx ∧ Gx.rows = R ∧ Gx.cols = K ∧ R ≤ 5 ∧ K ≤ 9 ∧ 1 ≤ R ∧ 1 ≤ K from ⟨HRX.out.1, hR, hK, hR ▸ HRX.out.2.1, hK ▸ HRX.out.2.2, hR ▸ HRX.out.1.1, hK ▸ HRX.out.1.2.2.1⟩)
                  clear hbG hiG hR hK VG
                  go_upto_region 6 with fail
                  go_cut [8] from 35 to 35 (fun u wx => (∃ g, u = .pointer (some ⟨g, 0, none⟩) ∧ wc.heap.size ≤ g ∧ Box wx g 27 #[.int .i64 R, .int .i64 K, .slice AG (R * K) cG]) ∧ Below wc.heap.size wc wx)
                  case first =>
                    as_aux_lemma =>
                      obtain ⟨m0, m1, m2, -, -, -⟩ := Box.three (a := .int .i64 R) (b := .int .i64 K) (c := .slice AG (R * K) cG) BG.out
                      go_wp2_with fail
                      go_meet
                      exact ⟨⟨_, rfl, Nat.le_refl _, Box.new _ _ _⟩, (Below.refl _ _).alloc (Nat.le_refl _) _⟩
                  case rest =>
                    as_aux_lemma =>
                      obtain ⟨⟨gO, rfl, hgO, ho⟩, bc⟩ := hcut
                      have DIST := hide (show gG ≠ gO ∧ gQ ≠ gO ∧ gG ≠ gQ from ⟨by have := BG.out.lt; omega, by have := BQ.out.lt; omega, HNQ.out⟩)
                      have HGO := hide (show _ ≤ gO from Nat.le_trans bx.out.size hgO)
                      replace bx := hide (bx.out.trans (bc.mono bx.out.size))
                      replace BQ := hide (BQ.out.below bc BQ.out.lt)
                      replace BG := hide (BG.out.below bc BG.out.lt)
                      replace IG := hide (IG.out.low bc)
                      have BO := hide ho
                      have IO := IG
                      clear bc ho hgO HNQ
                      have hpq := C.kpen_right y1 y2 y3
                      have KP := hide (fun w' => keepPen_any y1 y2 y3 w' HB.out.2.2.2.1.1 HB.out.2.2.2.1.2 HB.out.2.2.2.2.1.1 HB.out.2.2.2.2.1.2 HB.out.2.2.2.2.2.1 HB.out.2.2.2.2.2.2)
                      generalize C.kcol y1 = pd at hpq KP
                      generalize C.kcol y2 = pe at hpq KP
                      generalize y3 % 256 = pf at hpq KP
                      have hpq : PG.okPen (pd, pe, pf) := hpq
                      have HPQ := hide hpq
                      clear hpq
                      go_upto_region 7 with fail
                      go_cut [9] from 36 to 38 (fun u wx => (∃ g, u = .pointer (some ⟨g, 0, none⟩) ∧ wc.heap.size ≤ g ∧ Box wx g 23 #[.int .i64 pd, .int .i64 pe, .int .i64 pf]) ∧ Below wc.heap.size wc wx)
                      case first =>
                        as_aux_lemma =>
                          have m4 : wc.cell? ⟨gQ, 4, none⟩ = some (.int .i64 y1) := BQ.out.cell 4
                          have m5 : wc.cell? ⟨gQ, 5, none⟩ = some (.int .i64 y2) := BQ.out.cell 5
                          have m6 : wc.cell? ⟨gQ, 6, none⟩ = some (.int .i64 y3) := BQ.out.cell 6
                          go_wp2_with (
                            go_at_call 17
                            go_must (refine (KP.out _).mono ?_)
                            rintro e w5 ⟨rfl, b5⟩
                            have b5 := hide b5
                            clear m4 m5 m6)
                          go_meet
                          exact ⟨⟨_, rfl, b5.out.size, Box.new _ _ _⟩, b5.out.alloc (by have := b5.out.size; omega) _⟩
                      case rest =>
                        as_aux_lemma =>
                          obtain ⟨⟨gP, rfl, hgP, hp⟩, bc⟩ := hcut
                          have DISP := hide (show gG ≠ gP ∧ gO ≠ gP ∧ gQ ≠ gP from ⟨by have := BG.out.lt; omega, by have := BO.out.lt; omega, by have := BQ.out.lt; omega⟩)
                          replace bx := hide (bx.out.trans (bc.mono bx.out.size))
                          replace BQ := hide (BQ.out.below bc BQ.out.lt)
                          replace BG := hide (BG.out.below bc BG.out.lt)
                          replace IG := hide (IG.out.low bc)
                          replace BO := hide (BO.out.below bc BO.out.lt)
                          replace IO := hide (IO.out.low bc)
                          have BP := hide hp
                          clear bc hp hgP KP
                          obtain ⟨rI, hrI, hr1, hr2⟩ := within_exE qr (lo := -1) (hi := (R : Int)) (by omega)
                          obtain ⟨cI, hcI, hc1, hc2⟩ := within_exE qc (lo := -1) (hi := (K : Int)) (by omega)
                          obtain ⟨nI, hnI, hn1, hn2⟩ := within_exE qm (lo := 0) (hi := 11) (by omega)
                          have KR := hide (fun w' => within_is qr (-1) R rI hrI w' HB.out.1.1 HB.out.1.2 (by omega) (by omega) (by have := HRX.out; omega))
                          have KC := hide (fun w' => within_is qc (-1) K cI hcI w' HB.out.2.1.1 HB.out.2.1.2 (by omega) (by omega) (by have := HRX.out; omega))
                          have KN := hide (fun w' => within_is qm 0 11 nI hnI w' HB.out.2.2.1.1 HB.out.2.2.1.2 (by omega) (by omega) (by omega))
                          have HRC := hide (show -1 ≤ rI ∧ rI ≤ R ∧ -1 ≤ cI ∧ cI ≤ K ∧ 0 ≤ nI ∧ nI ≤ 11 from ⟨hr1, hr2, hc1, hc2, hn1, hn2⟩)
                          clear hrI hr1 hr2 hcI hc1 hc2 hnI hn1 hn2
                          go_upto_region 8 with fail
                          go_cut [10, 11, 12] from 39 to 51 (fun u10 u11 u12 wx => (u10 = .int .i64 rI ∧ u11 = .int .i64 cI ∧ u12 = .int .i64 nI) ∧ Below wc.heap.size wc wx)
                          case first =>
                            as_aux_lemma =>
                              refine wp_region_rj (n := 273) [] (fun _ => #[]) [(0, 0, 0, 0), (0, 0, 0, 0), (0, 0, 0, 0), (0, 0, 0, 0), (0, 0, 0, 0), (0, 0, 0, 0), (0, 0, 0, 0), (0, 0, 0, 0), (0, 0, 0, 0), (0, 0, 0, 0), (0, 0, 0, 0), (0, 0, 0, 0), (0, 0, 0, 0), (0, 0, 0, 0), (0, 0, 0, 0), (0, 0, 0, 0)] (fun j => [(.pointer (some ⟨gQ, 1, none⟩)), (.int .i64 qr), (.pointer (some ⟨gG, 0, none⟩)), (.int .i64 R), (.int .i64 rI), (.pointer (some ⟨gQ, 2, none⟩)), (.int .i64 qc), (.pointer (some ⟨gG, 1, none⟩)), (.int .i64 K), (.int .i64 cI), (.pointer (some ⟨gQ, 3, none⟩)), (.int .i64 qm), (.int .i64 nI), (.int .i64 rI), (.int .i64 cI), (.int .i64 nI)].getD j undef) (fun j => [PG.dflt, PG.dflt, PG.dflt, PG.dflt, PG.dflt, PG.dflt, PG.dflt, PG.dflt, PG.dflt, PG.dflt, PG.dflt, PG.dflt, PG.dflt, PG.dflt, PG.dflt, PG.dflt].getD j PG.dflt) (fun _ => 0) (by kernel_rfl) (by kernel_rfl) (by kernel_rfl) rfl (by kernel_rfl) (no4 rfl) (fun i j h => by revert h; exact no4 (p := fun _ => _) rfl i) (fun hRS => cases16 ⟨?_, ?_, ?_, ?_, ?_, ?_, ?_, ?_, ?_, ?_, ?_, ?_, ?_, ?_, ?_, ?_⟩) ?_
                              · intro L a w' hL hsame hsz hJ hdep hcl
                                have e0 : a.eval (.tmp 7) = (.pointer (some ⟨gQ, 0, none⟩)) := eval_base hsame (by kernel_rfl)
                                refine Step.val _ rfl rfl (wanted_none rfl) (.pointer (some ⟨gQ, 1, none⟩)) w' (fun ρ hρ => ?_) (hJ.val hRS hcl hL rfl (Below.refl _ _) _ rfl)
                                rw [hρ] at e0
                                clear hJ hsame hdep hcl hρ hsz
                                go_simp
                              · intro L a w' hL hsame hsz hJ hdep hcl
                                have e0 : a.eval (.tmp 39) = (.pointer (some ⟨gQ, 1, none⟩)) := eval_slot (j := 0) (by kernel_rfl) (hJ.valOf (by decide) (dep_of hdep 0 (by kernel_rfl)) rfl rfl)
                                have hb := hJ.keptBox BQ.out (by simp)
                                have q0 : w'.cell? ⟨gQ, 1, none⟩ = some (.int .i64 qr) := hb.cell 1
                                refine Step.val _ rfl rfl (wanted_none rfl) (.int .i64 qr) w' (fun ρ hρ => ?_) (hJ.val hRS hcl hL rfl (Below.refl _ _) _ rfl)
                                rw [hρ] at e0
                                clear hb
                                clear hJ hsame hdep hcl hρ hsz
                                go_simp
                              · intro L a w' hL hsame hsz hJ hdep hcl
                                have e0 : a.eval (.tmp 5) = (.pointer (some ⟨gG, 0, none⟩)) := eval_base hsame (by kernel_rfl)
                                refine Step.val _ rfl rfl (wanted_none rfl) (.pointer (some ⟨gG, 0, none⟩)) w' (fun ρ hρ => ?_) (hJ.val hRS hcl hL rfl (Below.refl _ _) _ rfl)
                                rw [hρ] at e0
                                clear hJ hsame hdep hcl hρ hsz
                                go_simp
                              · intro L a w' hL hsame hsz hJ hdep hcl
                                have e0 : a.eval (.tmp 41) = (.pointer (some ⟨gG, 0, none⟩)) := eval_slot (j := 2) (by kernel_rfl) (hJ.valOf (by decide) (dep_of hdep 2 (by kernel_rfl)) rfl rfl)
                                have hb := hJ.keptBox BG.out (by simp)
                                have q0 : w'.cell? ⟨gG, 0, none⟩ = some (.int .i64 R) := hb.cell 0
                                refine Step.val _ rfl rfl (wanted_none rfl) (.int .i64 R) w' (fun ρ hρ => ?_) (hJ.val hRS hcl hL rfl (Below.refl _ _) _ rfl)
                                rw [hρ] at e0
                                clear hb
                                clear hJ hsame hdep hcl hρ hsz
                                go_simp
                              · intro L a w' hL hsame hsz hJ hdep hcl
                                have e0 : a.eval (.tmp 40) = (.int .i64 qr) := eval_slot (j := 1) (by kernel_rfl) (hJ.valOf (by decide) (dep_of hdep 1 (by kernel_rfl)) rfl rfl)
                                have e2 : a.eval (.tmp 42) = (.int .i64 R) := eval_slot (j := 3) (by kernel_rfl) (hJ.valOf (by decide) (dep_of hdep 3 (by kernel_rfl)) rfl rfl)
                                refine Step.call _ rfl rfl (wanted_none rfl) 18 #[.int .i64 qr, .int .i64 (-1), .int .i64 R] (fun ρ hρ => ?_) ?_
                                · skip
                                  rw [hρ] at e0 e2
                                  have ec0 : ρ (.const (.int .i64 (-1))) = (.int .i64 (-1)) := (hρ _).symm
                                  have ef : ρ (.func 18) = .func (.func 18) #[] #[] := (hρ _).symm
                                  clear hJ hsame hdep hcl hρ hsz
                                  go_simp
                                · refine (KR.out w').mono ?_
                                  rintro e w2 ⟨rfl, rfl⟩
                                  exact ⟨_, rfl, hJ.val hRS hcl hL rfl (Below.refl _ _) _ rfl⟩
                              · intro L a w' hL hsame hsz hJ hdep hcl
                                have e0 : a.eval (.tmp 7) = (.pointer (some ⟨gQ, 0, none⟩)) := eval_base hsame (by kernel_rfl)
                                refine Step.val _ rfl rfl (wanted_none rfl) (.pointer (some ⟨gQ, 2, none⟩)) w' (fun ρ hρ => ?_) (hJ.val hRS hcl hL rfl (Below.refl _ _) _ rfl)
                                rw [hρ] at e0
                                clear hJ hsame hdep hcl hρ hsz
                                go_simp
                              · intro L a w' hL hsame hsz hJ hdep hcl
                                have e0 : a.eval (.tmp 44) = (.pointer (some ⟨gQ, 2, none⟩)) := eval_slot (j := 5) (by kernel_rfl) (hJ.valOf (by decide) (dep_of hdep 5 (by kernel_rfl)) rfl rfl)
                                have hb := hJ.keptBox BQ.out (by simp)
                                have q0 : w'.cell? ⟨gQ, 2, none⟩ = some (.int .i64 qc) := hb.cell 2
                                refine Step.val _ rfl rfl (wanted_none rfl) (.int .i64 qc) w' (fun ρ hρ => ?_) (hJ.val hRS hcl hL rfl (Below.refl _ _) _ rfl)
                                rw [hρ] at e0
                                clear hb
                                clear hJ hsame hdep hcl hρ hsz
                                go_simp
                              · intro L a w' hL hsame hsz hJ hdep hcl
                                have e0 : a.eval (.tmp 5) = (.pointer (some ⟨gG, 0, none⟩)) := eval_base hsame (by kernel_rfl)
                                refine Step.val _ rfl rfl (wanted_none rfl) (.pointer (some ⟨gG, 1, none⟩)) w' (fun ρ hρ => ?_) (hJ.val hRS hcl hL rfl (Below.refl _ _) _ rfl)
                                rw [hρ] at e0
                                clear hJ hsame hdep hcl hρ hsz
                                go_simp
                              · intro L a w' hL hsame hsz hJ hdep hcl
                                have e0 : a.eval (.tmp 46) = (.pointer (some ⟨gG, 1, none⟩)) := eval_slot (j := 7) (by kernel_rfl) (hJ.valOf (by decide) (dep_of hdep 7 (by kernel_rfl)) rfl rfl)
                                have hb := hJ.keptBox BG.out (by simp)
                                have q0 : w'.cell? ⟨gG, 1, none⟩ = some (.int .i64 K) := hb.cell 1
                                refine Step.val _ rfl rfl (wanted_none rfl) (.int .i64 K) w' (fun ρ hρ => ?_) (hJ.val hRS hcl hL rfl (Below.refl _ _) _ rfl)
                                rw [hρ] at e0
                                clear hb
                                clear hJ hsame hdep hcl hρ hsz
                                go_simp
                              · intro L a w' hL hsame hsz hJ hdep hcl
                                have e0 : a.eval (.tmp 45) = (.int .i64 qc) := eval_slot (j := 6) (by kernel_rfl) (hJ.valOf (by decide) (dep_of hdep 6 (by kernel_rfl)) rfl rfl)
                                have e2 : a.eval (.tmp 47) = (.int .i64 K) := eval_slot (j := 8) (by kernel_rfl) (hJ.valOf (by decide) (dep_of hdep 8 (by kernel_rfl)) rfl rfl)
                                refine Step.call _ rfl rfl (wanted_none rfl) 18 #[.int .i64 qc, .int .i64 (-1), .int .i64 K] (fun ρ hρ => ?_) ?_
                                · skip
                                  rw [hρ] at e0 e2
                                  have ec0 : ρ (.const (.int .i64 (-1))) = (.int .i64 (-1)) := (hρ _).symm
                                  have ef : ρ (.func 18) = .func (.func 18) #[] #[] := (hρ _).symm
                                  clear hJ hsame hdep hcl hρ hsz
                                  go_simp
                                · refine (KC.out w').mono ?_
                                  rintro e w2 ⟨rfl, rfl⟩
                                  exact ⟨_, rfl, hJ.val hRS hcl hL rfl (Below.refl _ _) _ rfl⟩
                              · intro L a w' hL hsame hsz hJ hdep hcl
                                have e0 : a.eval (.tmp 7) = (.pointer (some ⟨gQ, 0, none⟩)) := eval_base hsame (by kernel_rfl)
                                refine Step.val _ rfl rfl (wanted_none rfl) (.pointer (some ⟨gQ, 3, none⟩)) w' (fun ρ hρ => ?_) (hJ.val hRS hcl hL rfl (Below.refl _ _) _ rfl)
                                rw [hρ] at e0
                                clear hJ hsame hdep hcl hρ hsz
                                go_simp
                              · intro L a w' hL hsame hsz hJ hdep hcl
                                have e0 : a.eval (.tmp 49) = (.pointer (some ⟨gQ, 3, none⟩)) := eval_slot (j := 10) (by kernel_rfl) (hJ.valOf (by decide) (dep_of hdep 10 (by kernel_rfl)) rfl rfl)
                                have hb := hJ.keptBox BQ.out (by simp)
                                have q0 : w'.cell? ⟨gQ, 3, none⟩ = some (.int .i64 qm) := hb.cell 3
                                refine Step.val _ rfl rfl (wanted_none rfl) (.int .i64 qm) w' (fun ρ hρ => ?_) (hJ.val hRS hcl hL rfl (Below.refl _ _) _ rfl)
                                rw [hρ] at e0
                                clear hb
                                clear hJ hsame hdep hcl hρ hsz
                                go_simp
                              · intro L a w' hL hsame hsz hJ hdep hcl
                                have e0 : a.eval (.tmp 50) = (.int .i64 qm) := eval_slot (j := 11) (by kernel_rfl) (hJ.valOf (by decide) (dep_of hdep 11 (by kernel_rfl)) rfl rfl)
                                refine Step.call _ rfl rfl (wanted_none rfl) 18 #[.int .i64 qm, .int .i64 0, .int .i64 11] (fun ρ hρ => ?_) ?_
                                · skip
                                  rw [hρ] at e0
                                  have ec0 : ρ (.const (.int .i64 0)) = (.int .i64 0) := (hρ _).symm
                                  have ec1 : ρ (.const (.int .i64 11)) = (.int .i64 11) := (hρ _).symm
                                  have ef : ρ (.func 18) = .func (.func 18) #[] #[] := (hρ _).symm
                                  clear hJ hsame hdep hcl hρ hsz
                                  go_simp
                                · refine (KN.out w').mono ?_
                                  rintro e w2 ⟨rfl, rfl⟩
                                  exact ⟨_, rfl, hJ.val hRS hcl hL rfl (Below.refl _ _) _ rfl⟩
                              · intro L a w' hL hsame hsz hJ hdep hcl
                                have e0 : a.eval (.tmp 43) = (.int .i64 rI) := eval_slot (j := 4) (by kernel_rfl) (hJ.valOf (by decide) (dep_of hdep 4 (by kernel_rfl)) rfl rfl)
                                refine Step.val _ rfl rfl (wanted_none rfl) (.int .i64 rI) w' (fun ρ hρ => ?_) (hJ.val hRS hcl hL rfl (Below.refl _ _) _ rfl)
                                rw [hρ] at e0
                                clear hJ hsame hdep hcl hρ hsz
                                go_simp
                              · intro L a w' hL hsame hsz hJ hdep hcl
                                have e0 : a.eval (.tmp 48) = (.int .i64 cI) := eval_slot (j := 9) (by kernel_rfl) (hJ.valOf (by decide) (dep_of hdep 9 (by kernel_rfl)) rfl rfl)
                                refine Step.val _ rfl rfl (wanted_none rfl) (.int .i64 cI) w' (fun ρ hρ => ?_) (hJ.val hRS hcl hL rfl (Below.refl _ _) _ rfl)
                                rw [hρ] at e0
                                clear hJ hsame hdep hcl hρ hsz
                                go_simp
                              · intro L a w' hL hsame hsz hJ hdep hcl
                                have e0 : a.eval (.tmp 51) = (.int .i64 nI) := eval_slot (j := 12) (by kernel_rfl) (hJ.valOf (by decide) (dep_of hdep 12 (by kernel_rfl)) rfl rfl)
                                refine Step.val _ rfl rfl (wanted_none rfl) (.int .i64 nI) w' (fun ρ hρ => ?_) (hJ.val hRS hcl hL rfl (Below.refl _ _) _ rfl)
                                rw [hρ] at e0
                                clear hJ hsame hdep hcl hρ hsz
                                go_simp
                              · intro L a w' hsame hsz hJ hall
                                obtain ⟨u, hu, ha⟩ := act_puts hsame
                                have h : (u 13 = .int .i64 rI ∧ u 14 = .int .i64 cI ∧ u 15 = .int .i64 nI) ∧ Below wc.heap.size wc w' := by
                                  (try simp only [hu])
                                  exact (And.intro (And.intro (hJ.valOf (j := 13) (by decide) (hall 13 (by decide)) rfl rfl) (And.intro (hJ.valOf (j := 14) (by decide) (hall 14 (by decide)) rfl rfl) (hJ.valOf (j := 15) (by decide) (hall 15 (by decide)) rfl rfl))) (hJ.kept.toBelow (Nat.le_refl _) (by simp)))
                                have h := hide h
                                clear hJ hall hsz hu hsame
                                subst ha
                                change Exit.then _ _ Exit.normal (Act.put (Act.put (Act.put (Act.put (Act.put (Act.put (Act.put (Act.put (Act.put (Act.put (Act.put (Act.put (Act.put (Act.put (Act.put (Act.put (putAll _ u 0 _) (some 39) (u 0)) (some 40) (u 1)) (some 41) (u 2)) (some 42) (u 3)) (some 43) (u 4)) (some 44) (u 5)) (some 45) (u 6)) (some 46) (u 7)) (some 47) (u 8)) (some 48) (u 9)) (some 49) (u 10)) (some 50) (u 11)) (some 51) (u 12)) (some 10) (u 13)) (some 11) (u 14)) (some 12) (u 15)) _
                                simp only [putAll]
                                generalize u 0 = v0
                                generalize u 1 = v1
                                generalize u 2 = v2
                                generalize u 3 = v3
                                generalize u 4 = v4
                                generalize u 5 = v5
                                generalize u 6 = v6
                                generalize u 7 = v7
                                generalize u 8 = v8
                                generalize u 9 = v9
                                generalize u 10 = v10
                                generalize u 11 = v11
                                generalize u 12 = v12
                                generalize u 13 = v13 at h ⊢
                                generalize u 14 = v14 at h ⊢
                                generalize u 15 = v15 at h ⊢
                                go_simp
                                go_step
                                go_meet
                                exact h.out
                          case rest =>
                            as_aux_lemma =>
                              obtain ⟨⟨rfl, rfl, rfl⟩, bc⟩ := hcut
                              replace bx := hide (bx.out.trans (bc.mono bx.out.size))
                              replace BQ := hide (BQ.out.below bc BQ.out.lt)
                              replace BG := hide (BG.out.below bc BG.out.lt)
                              replace IG := hide (IG.out.low bc)
                              replace BO := hide (BO.out.below bc BO.out.lt)
                              replace IO := hide (IO.out.low bc)
                              replace BP := hide (BP.out.below bc BP.out.lt)
                              clear bc KR KC KN
                              obtain ⟨at_, hat⟩ : ∃ b : Bool, (b = true ∧ 0 ≤ rI ∧ rI < R ∧ 0 ≤ cI ∧ cI < K) ∨ (b = false ∧ ¬ (0 ≤ rI ∧ rI < R ∧ 0 ≤ cI ∧ cI < K)) := by
                                by_cases h : 0 ≤ rI ∧ rI < R ∧ 0 ≤ cI ∧ cI < K
                                · exact ⟨true, .inl ⟨rfl, h⟩⟩
                                · exact ⟨false, .inr ⟨rfl, h⟩⟩
                              have HAT := hide hat
                              clear hat
                              go_upto_region 9 with fail
                              go_cut [13] from 52 to 69 (fun u wx => u = .bool at_ ∧ wx = wc)
                              case first =>
                                as_aux_lemma =>
                                  have m0 : wc.cell? ⟨gG, 0, none⟩ = some (.int .i64 R) := BG.out.cell 0
                                  have m1 : wc.cell? ⟨gG, 1, none⟩ = some (.int .i64 K) := BG.out.cell 1
                                  rcases HAT.out with ⟨rfl, e1, e2, e3, e4⟩ | ⟨rfl, hno⟩
                                  · go_wp2_with fail
                                    go_meet
                                    exact ⟨by first | rfl | (simp; omega), rfl⟩
                                  · have hno : rI < 0 ∨ (0 ≤ rI ∧ (R : Int) ≤ rI) ∨ (0 ≤ rI ∧ rI < R ∧ cI < 0) ∨ (0 ≤ rI ∧ rI < R ∧ 0 ≤ cI ∧ (K : Int) ≤ cI) := by omega
                                    rcases hno with e1 | ⟨e1, e2⟩ | ⟨e1, e2, e3⟩ | ⟨e1, e2, e3, e4⟩
                                    all_goals
                                      go_wp2_with fail
                                      go_meet
                                      exact ⟨by first | rfl | (simp; omega), rfl⟩
                              obtain ⟨rfl, rfl⟩ := hcut
                              have hnsp : some 0 ∉ [some gG, some gO] := by
                                have h1 := HGG.out
                                have h2 := HGO.out
                                have h3 := SP.out.lt
                                have h4 := BB.out.size
                                simp
                                omega
                              have HNS := hide hnsp
                              have NR := hide (norow2 BG.out BO.out (by decide) (by decide))
                              have HnBQ := hide (show some gQ ∉ [some gG, some gO] by have := DIST.out; simp; omega)
                              have HnBP := hide (show some gP ∉ [some gG, some gO] by have := DISP.out; simp; omega)
                              have SPX := hide (SP.out.below bx.out SP.out.lt)
                              clear hnsp
                              obtain ⟨eI, heI, he0, he3⟩ : ∃ e : Int, nI % 4 = e ∧ 0 ≤ e ∧ e ≤ 3 := ⟨_, rfl, by omega, by omega⟩
                              have HEI := hide (show nI % 4 = eI ∧ 0 ≤ eI ∧ eI ≤ 3 from ⟨heI, he0, he3⟩)
                              clear heI he0 he3
                              have mk0 : wc.cell? ⟨gQ, 0, none⟩ = some (.int .i64 kd) := BQ.out.cell 0
                              go_upto_block 2 with fail
                              clear mk0
                              rename World => w5
                              have hcv : ((kd == 1) = true ∧ kd = 1) ∨ ((kd == 1) = false ∧ (kd == 2) = true ∧ kd = 2) ∨ ((kd == 1) = false ∧ (kd == 2) = false ∧ (kd == 3) = true ∧ kd = 3) ∨ ((kd == 1) = false ∧ (kd == 2) = false ∧ (kd == 3) = false ∧ (kd == 4) = true ∧ kd = 4) ∨ ((kd == 1) = false ∧ (kd == 2) = false ∧ (kd == 3) = false ∧ (kd == 4) = false ∧ (kd == 5) = true ∧ kd = 5) ∨ ((kd == 1) = false ∧ (kd == 2) = false ∧ (kd == 3) = false ∧ (kd == 4) = false ∧ (kd == 5) = false ∧ (kd == 6) = true ∧ kd = 6) ∨ ((kd == 1) = false ∧ (kd == 2) = false ∧ (kd == 3) = false ∧ (kd == 4) = false ∧ (kd == 5) = false ∧ (kd == 6) = false) := by
                                simp only [beq_iff_eq, beq_eq_false_iff_ne]
                                omega
                              have HCV := hide hcv
                              clear hcv
                              go_cut [14, 15, 16, 17, 18] from 72 to 246 (fun _ _ _ _ _ wx => (∃ G', PG.RightG G' ∧ G'.rows = R ∧ G'.cols = K ∧ GBox wx G' gG ∧ GBox wx G' gO) ∧ Kept [some gG, some gO] w5 wx)
                              case first =>
                                as_aux_lemma =>
                                  rcases HCV.out with ⟨k1, rfl⟩ | ⟨k1, k2, rfl⟩ | ⟨k1, k2, k3, rfl⟩ | ⟨k1, k2, k3, k4, rfl⟩ | ⟨k1, k2, k3, k4, k5, rfl⟩ | ⟨k1, k2, k3, k4, k5, k6, rfl⟩ | ⟨k1, k2, k3, k4, k5, k6⟩
                                  · as_aux_lemma =>
                                    go_upto_region 12 with fail
                                    refine wp_region_rj (n := 273) [some gG, some gO] (fun j => if j = 12 then #[.int .i64 R, .int .i64 K, .slice AG (R * K) cG] else #[.int .i64 R, .int .i64 K, .slice AG (R * K) cG]) [(0, 0, 0, 0), (0, 0, 0, 0), (0, 0, 0, 0), (0, 0, 0, 0), (0, 0, 0, 0), (1, 0, 0, 0), (0, 0, 0, 0), (0, 0, 0, 0), (0, 0, 0, 0), (0, 0, 0, 0), (0, 0, 0, 0), (1, 0, 0, 0), (4, 0, 5, 27), (4, 0, 11, 27)] (fun j => [(.agg #[.int .i64 R, .int .i64 K, .slice AG (R * K) cG]), (.int .i64 rI), (.int .i64 cI), (.int .i64 nI), (.agg #[.int .i64 pd, .int .i64 pe, .int .i64 pf]), undef, (.agg #[.int .i64 R, .int .i64 K, .slice AG (R * K) cG]), (.int .i64 rI), (.int .i64 cI), (.int .i64 nI), (.agg #[.int .i64 pd, .int .i64 pe, .int .i64 pf]), undef, undef, undef].getD j undef) (fun j => [PG.dflt, PG.dflt, PG.dflt, PG.dflt, PG.dflt, (PG.shiftI Gx rI cI nI (pd, pe, pf)), PG.dflt, PG.dflt, PG.dflt, PG.dflt, PG.dflt, (PG.shiftI Gx rI cI nI (pd, pe, pf)), PG.dflt, PG.dflt].getD j PG.dflt) (fun j => if j = 12 then gG else gO) (by kernel_rfl) (by kernel_rfl) (by kernel_rfl) rfl (by kernel_rfl) (fun j hk => by have hj := onlyL (ks := [12, 13]) (by kernel_rfl) j hk; simp only [List.mem_cons, List.not_mem_nil, or_false] at hj; rcases hj with rfl | rfl; exact ⟨by simp, rfl, BG.out⟩; exact ⟨by simp, rfl, BO.out⟩) (fun i j h h' e => by have hi := onlyL (ks := [12, 13]) (by kernel_rfl) i h; have hj := onlyL (ks := [12, 13]) (by kernel_rfl) j h'; simp only [List.mem_cons, List.not_mem_nil, or_false] at hi hj; have hd := DIST.out; rcases hi with rfl | rfl <;> rcases hj with rfl | rfl <;> first | exact absurd rfl e | (simp; omega)) (fun hRS => cases14 ⟨?_, ?_, ?_, ?_, ?_, ?_, ?_, ?_, ?_, ?_, ?_, ?_, ?_, ?_⟩) ?_
                                    · intro L a w' hL hsame hsz hJ hdep hcl
                                      have e0 : a.eval (.tmp 5) = (.pointer (some ⟨gG, 0, none⟩)) := eval_base hsame (by kernel_rfl)
                                      have hb := (show Box w' gG 27 #[.int .i64 R, .int .i64 K, .slice AG (R * K) cG] from hJ.old 12 rfl (late hcl hL (by kernel_rfl)))
                                      have q0 : w'.cell? ⟨gG, 0, none⟩ = some (.int .i64 R) := hb.cell 0
                                      have q1 : w'.cell? ⟨gG, 1, none⟩ = some (.int .i64 K) := hb.cell 1
                                      have q2 : w'.cell? ⟨gG, 2, none⟩ = some (.slice AG (R * K) cG) := hb.cell 2
                                      refine Step.val _ rfl rfl (wanted_none rfl) (.agg #[.int .i64 R, .int .i64 K, .slice AG (R * K) cG]) w' (fun ρ hρ => ?_) (hJ.val hRS hcl hL rfl (Below.refl _ _) _ rfl)
                                      rw [hρ] at e0
                                      clear hb
                                      clear hJ hsame hdep hcl hρ hsz
                                      go_simp
                                    · intro L a w' hL hsame hsz hJ hdep hcl
                                      have e0 : a.eval (.tmp 10) = (.int .i64 rI) := eval_base hsame (by kernel_rfl)
                                      refine Step.val _ rfl rfl (wanted_none rfl) (.int .i64 rI) w' (fun ρ hρ => ?_) (hJ.val hRS hcl hL rfl (Below.refl _ _) _ rfl)
                                      rw [hρ] at e0
                                      clear hJ hsame hdep hcl hρ hsz
                                      go_simp
                                    · intro L a w' hL hsame hsz hJ hdep hcl
                                      have e0 : a.eval (.tmp 11) = (.int .i64 cI) := eval_base hsame (by kernel_rfl)
                                      refine Step.val _ rfl rfl (wanted_none rfl) (.int .i64 cI) w' (fun ρ hρ => ?_) (hJ.val hRS hcl hL rfl (Below.refl _ _) _ rfl)
                                      rw [hρ] at e0
                                      clear hJ hsame hdep hcl hρ hsz
                                      go_simp
                                    · intro L a w' hL hsame hsz hJ hdep hcl
                                      have e0 : a.eval (.tmp 12) = (.int .i64 nI) := eval_base hsame (by kernel_rfl)
                                      refine Step.val _ rfl rfl (wanted_none rfl) (.int .i64 nI) w' (fun ρ hρ => ?_) (hJ.val hRS hcl hL rfl (Below.refl _ _) _ rfl)
                                      rw [hρ] at e0
                                      clear hJ hsame hdep hcl hρ hsz
                                      go_simp
                                    · intro L a w' hL hsame hsz hJ hdep hcl
                                      have e0 : a.eval (.tmp 9) = (.pointer (some ⟨gP, 0, none⟩)) := eval_base hsame (by kernel_rfl)
                                      have hb := hJ.keptBox BP.out HnBP.out
                                      have q0 : w'.cell? ⟨gP, 0, none⟩ = some (.int .i64 pd) := hb.cell 0
                                      have q1 : w'.cell? ⟨gP, 1, none⟩ = some (.int .i64 pe) := hb.cell 1
                                      have q2 : w'.cell? ⟨gP, 2, none⟩ = some (.int .i64 pf) := hb.cell 2
                                      refine Step.val _ rfl rfl (wanted_none rfl) (.agg #[.int .i64 pd, .int .i64 pe, .int .i64 pf]) w' (fun ρ hρ => ?_) (hJ.val hRS hcl hL rfl (Below.refl _ _) _ rfl)
                                      rw [hρ] at e0
                                      clear hb
                                      clear hJ hsame hdep hcl hρ hsz
                                      go_simp
                                    · intro L a w' hL hsame hsz hJ hdep hcl
                                      have e0 : a.eval (.tmp 74) = (.agg #[.int .i64 R, .int .i64 K, .slice AG (R * K) cG]) := eval_slot (j := 0) (by kernel_rfl) (hJ.valOf (by decide) (dep_of hdep 0 (by kernel_rfl)) rfl rfl)
                                      have e1 : a.eval (.tmp 75) = (.int .i64 rI) := eval_slot (j := 1) (by kernel_rfl) (hJ.valOf (by decide) (dep_of hdep 1 (by kernel_rfl)) rfl rfl)
                                      have e2 : a.eval (.tmp 76) = (.int .i64 cI) := eval_slot (j := 2) (by kernel_rfl) (hJ.valOf (by decide) (dep_of hdep 2 (by kernel_rfl)) rfl rfl)
                                      have e3 : a.eval (.tmp 77) = (.int .i64 nI) := eval_slot (j := 3) (by kernel_rfl) (hJ.valOf (by decide) (dep_of hdep 3 (by kernel_rfl)) rfl rfl)
                                      have e4 : a.eval (.tmp 78) = (.agg #[.int .i64 pd, .int .i64 pe, .int .i64 pf]) := eval_slot (j := 4) (by kernel_rfl) (hJ.valOf (by decide) (dep_of hdep 4 (by kernel_rfl)) rfl rfl)
                                      refine Step.call _ rfl rfl (wanted_none rfl) 13 #[.agg #[.int .i64 R, .int .i64 K, .slice AG (R * K) cG], .int .i64 rI, .int .i64 cI, .int .i64 nI, .agg #[.int .i64 pd, .int .i64 pe, .int .i64 pf]] (fun ρ hρ => ?_) ?_
                                      · skip
                                        rw [hρ] at e0 e1 e2 e3 e4
                                        have ef : ρ (.func 13) = .func (.func 13) #[] #[] := (hρ _).symm
                                        clear hJ hsame hdep hcl hρ hsz
                                        go_simp
                                      · refine (u_insert HRX.out.1 (IG.out.keptS NR.out hJ.kept) rI cI nI (pd, pe, pf) HPQ.out (by have := HRC.out; have := HRX.out; omega) (by have := HRC.out; have := HRX.out; omega) (by have := HRC.out; have := HRX.out; omega)).mono ?_
                                        rintro e w2 ⟨v, rfl, hg, bb⟩
                                        exact ⟨v, rfl, hJ.grid hRS hcl hL rfl bb v hg⟩
                                    · intro L a w' hL hsame hsz hJ hdep hcl
                                      have e0 : a.eval (.tmp 8) = (.pointer (some ⟨gO, 0, none⟩)) := eval_base hsame (by kernel_rfl)
                                      have hb := (show Box w' gO 27 #[.int .i64 R, .int .i64 K, .slice AG (R * K) cG] from hJ.old 13 rfl (late hcl hL (by kernel_rfl)))
                                      have q0 : w'.cell? ⟨gO, 0, none⟩ = some (.int .i64 R) := hb.cell 0
                                      have q1 : w'.cell? ⟨gO, 1, none⟩ = some (.int .i64 K) := hb.cell 1
                                      have q2 : w'.cell? ⟨gO, 2, none⟩ = some (.slice AG (R * K) cG) := hb.cell 2
                                      refine Step.val _ rfl rfl (wanted_none rfl) (.agg #[.int .i64 R, .int .i64 K, .slice AG (R * K) cG]) w' (fun ρ hρ => ?_) (hJ.val hRS hcl hL rfl (Below.refl _ _) _ rfl)
                                      rw [hρ] at e0
                                      clear hb
                                      clear hJ hsame hdep hcl hρ hsz
                                      go_simp
                                    · intro L a w' hL hsame hsz hJ hdep hcl
                                      have e0 : a.eval (.tmp 10) = (.int .i64 rI) := eval_base hsame (by kernel_rfl)
                                      refine Step.val _ rfl rfl (wanted_none rfl) (.int .i64 rI) w' (fun ρ hρ => ?_) (hJ.val hRS hcl hL rfl (Below.refl _ _) _ rfl)
                                      rw [hρ] at e0
                                      clear hJ hsame hdep hcl hρ hsz
                                      go_simp
                                    · intro L a w' hL hsame hsz hJ hdep hcl
                                      have e0 : a.eval (.tmp 11) = (.int .i64 cI) := eval_base hsame (by kernel_rfl)
                                      refine Step.val _ rfl rfl (wanted_none rfl) (.int .i64 cI) w' (fun ρ hρ => ?_) (hJ.val hRS hcl hL rfl (Below.refl _ _) _ rfl)
                                      rw [hρ] at e0
                                      clear hJ hsame hdep hcl hρ hsz
                                      go_simp
                                    · intro L a w' hL hsame hsz hJ hdep hcl
                                      have e0 : a.eval (.tmp 12) = (.int .i64 nI) := eval_base hsame (by kernel_rfl)
                                      refine Step.val _ rfl rfl (wanted_none rfl) (.int .i64 nI) w' (fun ρ hρ => ?_) (hJ.val hRS hcl hL rfl (Below.refl _ _) _ rfl)
                                      rw [hρ] at e0
                                      clear hJ hsame hdep hcl hρ hsz
                                      go_simp
                                    · intro L a w' hL hsame hsz hJ hdep hcl
                                      have e0 : a.eval (.tmp 9) = (.pointer (some ⟨gP, 0, none⟩)) := eval_base hsame (by kernel_rfl)
                                      have hb := hJ.keptBox BP.out HnBP.out
                                      have q0 : w'.cell? ⟨gP, 0, none⟩ = some (.int .i64 pd) := hb.cell 0
                                      have q1 : w'.cell? ⟨gP, 1, none⟩ = some (.int .i64 pe) := hb.cell 1
                                      have q2 : w'.cell? ⟨gP, 2, none⟩ = some (.int .i64 pf) := hb.cell 2
                                      refine Step.val _ rfl rfl (wanted_none rfl) (.agg #[.int .i64 pd, .int .i64 pe, .int .i64 pf]) w' (fun ρ hρ => ?_) (hJ.val hRS hcl hL rfl (Below.refl _ _) _ rfl)
                                      rw [hρ] at e0
                                      clear hb
                                      clear hJ hsame hdep hcl hρ hsz
                                      go_simp
                                    · intro L a w' hL hsame hsz hJ hdep hcl
                                      have e0 : a.eval (.tmp 80) = (.agg #[.int .i64 R, .int .i64 K, .slice AG (R * K) cG]) := eval_slot (j := 6) (by kernel_rfl) (hJ.valOf (by decide) (dep_of hdep 6 (by kernel_rfl)) rfl rfl)
                                      have e1 : a.eval (.tmp 81) = (.int .i64 rI) := eval_slot (j := 7) (by kernel_rfl) (hJ.valOf (by decide) (dep_of hdep 7 (by kernel_rfl)) rfl rfl)
                                      have e2 : a.eval (.tmp 82) = (.int .i64 cI) := eval_slot (j := 8) (by kernel_rfl) (hJ.valOf (by decide) (dep_of hdep 8 (by kernel_rfl)) rfl rfl)
                                      have e3 : a.eval (.tmp 83) = (.int .i64 nI) := eval_slot (j := 9) (by kernel_rfl) (hJ.valOf (by decide) (dep_of hdep 9 (by kernel_rfl)) rfl rfl)
                                      have e4 : a.eval (.tmp 84) = (.agg #[.int .i64 pd, .int .i64 pe, .int .i64 pf]) := eval_slot (j := 10) (by kernel_rfl) (hJ.valOf (by decide) (dep_of hdep 10 (by kernel_rfl)) rfl rfl)
                                      refine Step.call _ rfl rfl (wanted_none rfl) 19 #[.agg #[.int .i64 R, .int .i64 K, .slice AG (R * K) cG], .int .i64 rI, .int .i64 cI, .int .i64 nI, .agg #[.int .i64 pd, .int .i64 pe, .int .i64 pf]] (fun ρ hρ => ?_) ?_
                                      · skip
                                        rw [hρ] at e0 e1 e2 e3 e4
                                        have ef : ρ (.func 19) = .func (.func 19) #[] #[] := (hρ _).symm
                                        clear hJ hsame hdep hcl hρ hsz
                                        go_simp
                                      · refine (r_shift HRX.out.1 (IO.out.keptS NR.out hJ.kept) rI cI nI (pd, pe, pf) (by have := HRC.out; have := HRX.out; omega)).mono ?_
                                        rintro e w2 ⟨v, rfl, hg, bb⟩
                                        exact ⟨v, rfl, hJ.grid hRS hcl hL rfl bb v hg⟩
                                    · intro L a w' hL hsame hsz hJ hdep hcl
                                      obtain ⟨sv, hsv, hso⟩ := hJ.gridOf (by decide) (dep_of hdep 5 (by kernel_rfl)) rfl
                                      obtain ⟨sA, sc, rfl, _⟩ := own_form' hso
                                      have es : a.eval (.tmp 79) = .agg #[.int .i64 ((PG.shiftI Gx rI cI nI (pd, pe, pf))).rows, .int .i64 ((PG.shiftI Gx rI cI nI (pd, pe, pf))).cols, .slice sA (((PG.shiftI Gx rI cI nI (pd, pe, pf))).rows * ((PG.shiftI Gx rI cI nI (pd, pe, pf))).cols) sc] := eval_slot (j := 5) (by kernel_rfl) hsv
                                      have hb : Box w' gG 27 #[.int .i64 R, .int .i64 K, .slice AG (R * K) cG] := hJ.old 12 rfl hL
                                      obtain ⟨m0, m1, m2, f0, f1, f2⟩ := Box.three (a := (.int .i64 R)) (b := (.int .i64 K)) (c := (.slice AG (R * K) cG)) hb
                                      have ea : a.eval (.tmp 5) = .pointer (some ⟨gG, 0, none⟩) := eval_base hsame (by kernel_rfl)
                                      refine Step.skip _ rfl (wanted_none rfl) (set3 w' gG (.int .i64 ((PG.shiftI Gx rI cI nI (pd, pe, pf))).rows) (.int .i64 ((PG.shiftI Gx rI cI nI (pd, pe, pf))).cols) (.slice sA (((PG.shiftI Gx rI cI nI (pd, pe, pf))).rows * ((PG.shiftI Gx rI cI nI (pd, pe, pf))).cols) sc)) (fun ρ hρ => ?_) (hJ.set hRS hcl hL rfl (dep_of hdep 5 (by kernel_rfl)) hsv)
                                      rw [hρ] at es ea
                                      clear hJ hsame hdep hcl hρ hsz hb hso hsv
                                      unfold set3
                                      go_simp
                                    · intro L a w' hL hsame hsz hJ hdep hcl
                                      obtain ⟨sv, hsv, hso⟩ := hJ.gridOf (by decide) (dep_of hdep 11 (by kernel_rfl)) rfl
                                      obtain ⟨sA, sc, rfl, _⟩ := own_form' hso
                                      have es : a.eval (.tmp 85) = .agg #[.int .i64 ((PG.shiftI Gx rI cI nI (pd, pe, pf))).rows, .int .i64 ((PG.shiftI Gx rI cI nI (pd, pe, pf))).cols, .slice sA (((PG.shiftI Gx rI cI nI (pd, pe, pf))).rows * ((PG.shiftI Gx rI cI nI (pd, pe, pf))).cols) sc] := eval_slot (j := 11) (by kernel_rfl) hsv
                                      have hb : Box w' gO 27 #[.int .i64 R, .int .i64 K, .slice AG (R * K) cG] := hJ.old 13 rfl hL
                                      obtain ⟨m0, m1, m2, f0, f1, f2⟩ := Box.three (a := (.int .i64 R)) (b := (.int .i64 K)) (c := (.slice AG (R * K) cG)) hb
                                      have ea : a.eval (.tmp 8) = .pointer (some ⟨gO, 0, none⟩) := eval_base hsame (by kernel_rfl)
                                      refine Step.skip _ rfl (wanted_none rfl) (set3 w' gO (.int .i64 ((PG.shiftI Gx rI cI nI (pd, pe, pf))).rows) (.int .i64 ((PG.shiftI Gx rI cI nI (pd, pe, pf))).cols) (.slice sA (((PG.shiftI Gx rI cI nI (pd, pe, pf))).rows * ((PG.shiftI Gx rI cI nI (pd, pe, pf))).cols) sc)) (fun ρ hρ => ?_) (hJ.set hRS hcl hL rfl (dep_of hdep 11 (by kernel_rfl)) hsv)
                                      rw [hρ] at es ea
                                      clear hJ hsame hdep hcl hρ hsz hb hso hsv
                                      unfold set3
                                      go_simp
                                    · intro L a w' hsame hsz hJ hall
                                      obtain ⟨u, hu, ha⟩ := act_puts hsame
                                      have h : ((GBox w' (PG.shiftI Gx rI cI nI (pd, pe, pf)) gG ∧ GBox w' (PG.shiftI Gx rI cI nI (pd, pe, pf)) gO)) ∧ Kept [some gG, some gO] w5 w' := by
                                        (try simp only [hu])
                                        exact (And.intro (And.intro (hJ.var4 hall 12 (by decide) rfl rfl (by decide) rfl) (hJ.var4 hall 13 (by decide) rfl rfl (by decide) rfl)) hJ.kept)
                                      have h := hide h
                                      clear hJ hall hsz hu hsame
                                      subst ha
                                      change Exit.inBlock _ _ Exit.normal (Act.put (Act.put (Act.put (Act.put (Act.put (Act.put (Act.put (Act.put (Act.put (Act.put (Act.put (Act.put (Act.put (Act.put (putAll _ u 0 _) (some 74) (u 0)) (some 75) (u 1)) (some 76) (u 2)) (some 77) (u 3)) (some 78) (u 4)) (some 79) (u 5)) (some 80) (u 6)) (some 81) (u 7)) (some 82) (u 8)) (some 83) (u 9)) (some 84) (u 10)) (some 85) (u 11)) none (u 12)) none (u 13)) _
                                      simp only [putAll]
                                      generalize u 0 = v0
                                      generalize u 1 = v1
                                      generalize u 2 = v2
                                      generalize u 3 = v3
                                      generalize u 4 = v4
                                      generalize u 5 = v5
                                      generalize u 6 = v6
                                      generalize u 7 = v7
                                      generalize u 8 = v8
                                      generalize u 9 = v9
                                      generalize u 10 = v10
                                      generalize u 11 = v11
                                      generalize u 12 = v12
                                      generalize u 13 = v13
                                      go_simp
                                      obtain ⟨⟨hx1, hx2⟩, hx3⟩ := h.out
                                      clear h
                                      (try simp only [Exit.then, Exit.inBlock])
                                      go_wp2_with fail
                                      go_meet
                                      exact ⟨⟨_, (PG.right_shiftI HRX.out.1 HPQ.out _ _ _), ((PG.shiftI_size ..).1.trans HRX.out.2.1), ((PG.shiftI_size ..).2.trans HRX.out.2.2.1), hx1, hx2⟩, hx3⟩
                                  · as_aux_lemma =>
                                    have wn : IntKind.i64.wrap (-nI) = -nI := IntWalk.i64_in _ (by have := HRC.out; omega)
                                    go_upto_region 14 with fail
                                    refine wp_region_rj (n := 273) [some gG, some gO] (fun j => if j = 13 then #[.int .i64 R, .int .i64 K, .slice AG (R * K) cG] else #[.int .i64 R, .int .i64 K, .slice AG (R * K) cG]) [(0, 0, 0, 0), (0, 0, 0, 0), (0, 0, 0, 0), (0, 0, 0, 0), (0, 0, 0, 0), (1, 0, 0, 0), (0, 0, 0, 0), (0, 0, 0, 0), (0, 0, 0, 0), (0, 0, 0, 0), (0, 0, 0, 0), (0, 0, 0, 0), (1, 0, 0, 0), (4, 0, 5, 27), (4, 0, 12, 27)] (fun j => [(.agg #[.int .i64 R, .int .i64 K, .slice AG (R * K) cG]), (.int .i64 rI), (.int .i64 cI), (.int .i64 nI), (.agg #[.int .i64 pd, .int .i64 pe, .int .i64 pf]), undef, (.agg #[.int .i64 R, .int .i64 K, .slice AG (R * K) cG]), (.int .i64 rI), (.int .i64 cI), (.int .i64 nI), (.int .i64 (-nI)), (.agg #[.int .i64 pd, .int .i64 pe, .int .i64 pf]), undef, undef, undef].getD j undef) (fun j => [PG.dflt, PG.dflt, PG.dflt, PG.dflt, PG.dflt, (PG.shiftI Gx rI cI (-nI) (pd, pe, pf)), PG.dflt, PG.dflt, PG.dflt, PG.dflt, PG.dflt, PG.dflt, (PG.shiftI Gx rI cI (-nI) (pd, pe, pf)), PG.dflt, PG.dflt].getD j PG.dflt) (fun j => if j = 13 then gG else gO) (by kernel_rfl) (by kernel_rfl) (by kernel_rfl) rfl (by kernel_rfl) (fun j hk => by have hj := onlyL (ks := [13, 14]) (by kernel_rfl) j hk; simp only [List.mem_cons, List.not_mem_nil, or_false] at hj; rcases hj with rfl | rfl; exact ⟨by simp, rfl, BG.out⟩; exact ⟨by simp, rfl, BO.out⟩) (fun i j h h' e => by have hi := onlyL (ks := [13, 14]) (by kernel_rfl) i h; have hj := onlyL (ks := [13, 14]) (by kernel_rfl) j h'; simp only [List.mem_cons, List.not_mem_nil, or_false] at hi hj; have hd := DIST.out; rcases hi with rfl | rfl <;> rcases hj with rfl | rfl <;> first | exact absurd rfl e | (simp; omega)) (fun hRS => cases15 ⟨?_, ?_, ?_, ?_, ?_, ?_, ?_, ?_, ?_, ?_, ?_, ?_, ?_, ?_, ?_⟩) ?_
                                    · intro L a w' hL hsame hsz hJ hdep hcl
                                      have e0 : a.eval (.tmp 5) = (.pointer (some ⟨gG, 0, none⟩)) := eval_base hsame (by kernel_rfl)
                                      have hb := (show Box w' gG 27 #[.int .i64 R, .int .i64 K, .slice AG (R * K) cG] from hJ.old 13 rfl (late hcl hL (by kernel_rfl)))
                                      have q0 : w'.cell? ⟨gG, 0, none⟩ = some (.int .i64 R) := hb.cell 0
                                      have q1 : w'.cell? ⟨gG, 1, none⟩ = some (.int .i64 K) := hb.cell 1
                                      have q2 : w'.cell? ⟨gG, 2, none⟩ = some (.slice AG (R * K) cG) := hb.cell 2
                                      refine Step.val _ rfl rfl (wanted_none rfl) (.agg #[.int .i64 R, .int .i64 K, .slice AG (R * K) cG]) w' (fun ρ hρ => ?_) (hJ.val hRS hcl hL rfl (Below.refl _ _) _ rfl)
                                      rw [hρ] at e0
                                      clear hb
                                      clear hJ hsame hdep hcl hρ hsz
                                      go_simp
                                    · intro L a w' hL hsame hsz hJ hdep hcl
                                      have e0 : a.eval (.tmp 10) = (.int .i64 rI) := eval_base hsame (by kernel_rfl)
                                      refine Step.val _ rfl rfl (wanted_none rfl) (.int .i64 rI) w' (fun ρ hρ => ?_) (hJ.val hRS hcl hL rfl (Below.refl _ _) _ rfl)
                                      rw [hρ] at e0
                                      clear hJ hsame hdep hcl hρ hsz
                                      go_simp
                                    · intro L a w' hL hsame hsz hJ hdep hcl
                                      have e0 : a.eval (.tmp 11) = (.int .i64 cI) := eval_base hsame (by kernel_rfl)
                                      refine Step.val _ rfl rfl (wanted_none rfl) (.int .i64 cI) w' (fun ρ hρ => ?_) (hJ.val hRS hcl hL rfl (Below.refl _ _) _ rfl)
                                      rw [hρ] at e0
                                      clear hJ hsame hdep hcl hρ hsz
                                      go_simp
                                    · intro L a w' hL hsame hsz hJ hdep hcl
                                      have e0 : a.eval (.tmp 12) = (.int .i64 nI) := eval_base hsame (by kernel_rfl)
                                      refine Step.val _ rfl rfl (wanted_none rfl) (.int .i64 nI) w' (fun ρ hρ => ?_) (hJ.val hRS hcl hL rfl (Below.refl _ _) _ rfl)
                                      rw [hρ] at e0
                                      clear hJ hsame hdep hcl hρ hsz
                                      go_simp
                                    · intro L a w' hL hsame hsz hJ hdep hcl
                                      have e0 : a.eval (.tmp 9) = (.pointer (some ⟨gP, 0, none⟩)) := eval_base hsame (by kernel_rfl)
                                      have hb := hJ.keptBox BP.out HnBP.out
                                      have q0 : w'.cell? ⟨gP, 0, none⟩ = some (.int .i64 pd) := hb.cell 0
                                      have q1 : w'.cell? ⟨gP, 1, none⟩ = some (.int .i64 pe) := hb.cell 1
                                      have q2 : w'.cell? ⟨gP, 2, none⟩ = some (.int .i64 pf) := hb.cell 2
                                      refine Step.val _ rfl rfl (wanted_none rfl) (.agg #[.int .i64 pd, .int .i64 pe, .int .i64 pf]) w' (fun ρ hρ => ?_) (hJ.val hRS hcl hL rfl (Below.refl _ _) _ rfl)
                                      rw [hρ] at e0
                                      clear hb
                                      clear hJ hsame hdep hcl hρ hsz
                                      go_simp
                                    · intro L a w' hL hsame hsz hJ hdep hcl
                                      have e0 : a.eval (.tmp 88) = (.agg #[.int .i64 R, .int .i64 K, .slice AG (R * K) cG]) := eval_slot (j := 0) (by kernel_rfl) (hJ.valOf (by decide) (dep_of hdep 0 (by kernel_rfl)) rfl rfl)
                                      have e1 : a.eval (.tmp 89) = (.int .i64 rI) := eval_slot (j := 1) (by kernel_rfl) (hJ.valOf (by decide) (dep_of hdep 1 (by kernel_rfl)) rfl rfl)
                                      have e2 : a.eval (.tmp 90) = (.int .i64 cI) := eval_slot (j := 2) (by kernel_rfl) (hJ.valOf (by decide) (dep_of hdep 2 (by kernel_rfl)) rfl rfl)
                                      have e3 : a.eval (.tmp 91) = (.int .i64 nI) := eval_slot (j := 3) (by kernel_rfl) (hJ.valOf (by decide) (dep_of hdep 3 (by kernel_rfl)) rfl rfl)
                                      have e4 : a.eval (.tmp 92) = (.agg #[.int .i64 pd, .int .i64 pe, .int .i64 pf]) := eval_slot (j := 4) (by kernel_rfl) (hJ.valOf (by decide) (dep_of hdep 4 (by kernel_rfl)) rfl rfl)
                                      refine Step.call _ rfl rfl (wanted_none rfl) 15 #[.agg #[.int .i64 R, .int .i64 K, .slice AG (R * K) cG], .int .i64 rI, .int .i64 cI, .int .i64 nI, .agg #[.int .i64 pd, .int .i64 pe, .int .i64 pf]] (fun ρ hρ => ?_) ?_
                                      · skip
                                        rw [hρ] at e0 e1 e2 e3 e4
                                        have ef : ρ (.func 15) = .func (.func 15) #[] #[] := (hρ _).symm
                                        clear hJ hsame hdep hcl hρ hsz
                                        go_simp
                                      · refine (u_delete HRX.out.1 (IG.out.keptS NR.out hJ.kept) rI cI nI (pd, pe, pf) HPQ.out (by have := HRC.out; have := HRX.out; omega) (by have := HRC.out; have := HRX.out; omega) (by have := HRC.out; have := HRX.out; omega)).mono ?_
                                        rintro e w2 ⟨v, rfl, hg, bb⟩
                                        exact ⟨v, rfl, hJ.grid hRS hcl hL rfl bb v hg⟩
                                    · intro L a w' hL hsame hsz hJ hdep hcl
                                      have e0 : a.eval (.tmp 8) = (.pointer (some ⟨gO, 0, none⟩)) := eval_base hsame (by kernel_rfl)
                                      have hb := (show Box w' gO 27 #[.int .i64 R, .int .i64 K, .slice AG (R * K) cG] from hJ.old 14 rfl (late hcl hL (by kernel_rfl)))
                                      have q0 : w'.cell? ⟨gO, 0, none⟩ = some (.int .i64 R) := hb.cell 0
                                      have q1 : w'.cell? ⟨gO, 1, none⟩ = some (.int .i64 K) := hb.cell 1
                                      have q2 : w'.cell? ⟨gO, 2, none⟩ = some (.slice AG (R * K) cG) := hb.cell 2
                                      refine Step.val _ rfl rfl (wanted_none rfl) (.agg #[.int .i64 R, .int .i64 K, .slice AG (R * K) cG]) w' (fun ρ hρ => ?_) (hJ.val hRS hcl hL rfl (Below.refl _ _) _ rfl)
                                      rw [hρ] at e0
                                      clear hb
                                      clear hJ hsame hdep hcl hρ hsz
                                      go_simp
                                    · intro L a w' hL hsame hsz hJ hdep hcl
                                      have e0 : a.eval (.tmp 10) = (.int .i64 rI) := eval_base hsame (by kernel_rfl)
                                      refine Step.val _ rfl rfl (wanted_none rfl) (.int .i64 rI) w' (fun ρ hρ => ?_) (hJ.val hRS hcl hL rfl (Below.refl _ _) _ rfl)
                                      rw [hρ] at e0
                                      clear hJ hsame hdep hcl hρ hsz
                                      go_simp
                                    · intro L a w' hL hsame hsz hJ hdep hcl
                                      have e0 : a.eval (.tmp 11) = (.int .i64 cI) := eval_base hsame (by kernel_rfl)
                                      refine Step.val _ rfl rfl (wanted_none rfl) (.int .i64 cI) w' (fun ρ hρ => ?_) (hJ.val hRS hcl hL rfl (Below.refl _ _) _ rfl)
                                      rw [hρ] at e0
                                      clear hJ hsame hdep hcl hρ hsz
                                      go_simp
                                    · intro L a w' hL hsame hsz hJ hdep hcl
                                      have e0 : a.eval (.tmp 12) = (.int .i64 nI) := eval_base hsame (by kernel_rfl)
                                      refine Step.val _ rfl rfl (wanted_none rfl) (.int .i64 nI) w' (fun ρ hρ => ?_) (hJ.val hRS hcl hL rfl (Below.refl _ _) _ rfl)
                                      rw [hρ] at e0
                                      clear hJ hsame hdep hcl hρ hsz
                                      go_simp
                                    · intro L a w' hL hsame hsz hJ hdep hcl
                                      have e0 : a.eval (.tmp 97) = (.int .i64 nI) := eval_slot (j := 9) (by kernel_rfl) (hJ.valOf (by decide) (dep_of hdep 9 (by kernel_rfl)) rfl rfl)
                                      refine Step.val _ rfl rfl (wanted_none rfl) (.int .i64 (-nI)) w' (fun ρ hρ => ?_) (hJ.val hRS hcl hL rfl (Below.refl _ _) _ rfl)
                                      rw [hρ] at e0
                                      clear hJ hsame hdep hcl hρ hsz
                                      go_simp
                                    · intro L a w' hL hsame hsz hJ hdep hcl
                                      have e0 : a.eval (.tmp 9) = (.pointer (some ⟨gP, 0, none⟩)) := eval_base hsame (by kernel_rfl)
                                      have hb := hJ.keptBox BP.out HnBP.out
                                      have q0 : w'.cell? ⟨gP, 0, none⟩ = some (.int .i64 pd) := hb.cell 0
                                      have q1 : w'.cell? ⟨gP, 1, none⟩ = some (.int .i64 pe) := hb.cell 1
                                      have q2 : w'.cell? ⟨gP, 2, none⟩ = some (.int .i64 pf) := hb.cell 2
                                      refine Step.val _ rfl rfl (wanted_none rfl) (.agg #[.int .i64 pd, .int .i64 pe, .int .i64 pf]) w' (fun ρ hρ => ?_) (hJ.val hRS hcl hL rfl (Below.refl _ _) _ rfl)
                                      rw [hρ] at e0
                                      clear hb
                                      clear hJ hsame hdep hcl hρ hsz
                                      go_simp
                                    · intro L a w' hL hsame hsz hJ hdep hcl
                                      have e0 : a.eval (.tmp 94) = (.agg #[.int .i64 R, .int .i64 K, .slice AG (R * K) cG]) := eval_slot (j := 6) (by kernel_rfl) (hJ.valOf (by decide) (dep_of hdep 6 (by kernel_rfl)) rfl rfl)
                                      have e1 : a.eval (.tmp 95) = (.int .i64 rI) := eval_slot (j := 7) (by kernel_rfl) (hJ.valOf (by decide) (dep_of hdep 7 (by kernel_rfl)) rfl rfl)
                                      have e2 : a.eval (.tmp 96) = (.int .i64 cI) := eval_slot (j := 8) (by kernel_rfl) (hJ.valOf (by decide) (dep_of hdep 8 (by kernel_rfl)) rfl rfl)
                                      have e3 : a.eval (.tmp 98) = (.int .i64 (-nI)) := eval_slot (j := 10) (by kernel_rfl) (hJ.valOf (by decide) (dep_of hdep 10 (by kernel_rfl)) rfl rfl)
                                      have e4 : a.eval (.tmp 99) = (.agg #[.int .i64 pd, .int .i64 pe, .int .i64 pf]) := eval_slot (j := 11) (by kernel_rfl) (hJ.valOf (by decide) (dep_of hdep 11 (by kernel_rfl)) rfl rfl)
                                      refine Step.call _ rfl rfl (wanted_none rfl) 19 #[.agg #[.int .i64 R, .int .i64 K, .slice AG (R * K) cG], .int .i64 rI, .int .i64 cI, .int .i64 (-nI), .agg #[.int .i64 pd, .int .i64 pe, .int .i64 pf]] (fun ρ hρ => ?_) ?_
                                      · skip
                                        rw [hρ] at e0 e1 e2 e3 e4
                                        have ef : ρ (.func 19) = .func (.func 19) #[] #[] := (hρ _).symm
                                        clear hJ hsame hdep hcl hρ hsz
                                        go_simp
                                      · refine (r_shift HRX.out.1 (IO.out.keptS NR.out hJ.kept) rI cI (-nI) (pd, pe, pf) (by have := HRC.out; have := HRX.out; omega)).mono ?_
                                        rintro e w2 ⟨v, rfl, hg, bb⟩
                                        exact ⟨v, rfl, hJ.grid hRS hcl hL rfl bb v hg⟩
                                    · intro L a w' hL hsame hsz hJ hdep hcl
                                      obtain ⟨sv, hsv, hso⟩ := hJ.gridOf (by decide) (dep_of hdep 5 (by kernel_rfl)) rfl
                                      obtain ⟨sA, sc, rfl, _⟩ := own_form' hso
                                      have es : a.eval (.tmp 93) = .agg #[.int .i64 ((PG.shiftI Gx rI cI (-nI) (pd, pe, pf))).rows, .int .i64 ((PG.shiftI Gx rI cI (-nI) (pd, pe, pf))).cols, .slice sA (((PG.shiftI Gx rI cI (-nI) (pd, pe, pf))).rows * ((PG.shiftI Gx rI cI (-nI) (pd, pe, pf))).cols) sc] := eval_slot (j := 5) (by kernel_rfl) hsv
                                      have hb : Box w' gG 27 #[.int .i64 R, .int .i64 K, .slice AG (R * K) cG] := hJ.old 13 rfl hL
                                      obtain ⟨m0, m1, m2, f0, f1, f2⟩ := Box.three (a := (.int .i64 R)) (b := (.int .i64 K)) (c := (.slice AG (R * K) cG)) hb
                                      have ea : a.eval (.tmp 5) = .pointer (some ⟨gG, 0, none⟩) := eval_base hsame (by kernel_rfl)
                                      refine Step.skip _ rfl (wanted_none rfl) (set3 w' gG (.int .i64 ((PG.shiftI Gx rI cI (-nI) (pd, pe, pf))).rows) (.int .i64 ((PG.shiftI Gx rI cI (-nI) (pd, pe, pf))).cols) (.slice sA (((PG.shiftI Gx rI cI (-nI) (pd, pe, pf))).rows * ((PG.shiftI Gx rI cI (-nI) (pd, pe, pf))).cols) sc)) (fun ρ hρ => ?_) (hJ.set hRS hcl hL rfl (dep_of hdep 5 (by kernel_rfl)) hsv)
                                      rw [hρ] at es ea
                                      clear hJ hsame hdep hcl hρ hsz hb hso hsv
                                      unfold set3
                                      go_simp
                                    · intro L a w' hL hsame hsz hJ hdep hcl
                                      obtain ⟨sv, hsv, hso⟩ := hJ.gridOf (by decide) (dep_of hdep 12 (by kernel_rfl)) rfl
                                      obtain ⟨sA, sc, rfl, _⟩ := own_form' hso
                                      have es : a.eval (.tmp 100) = .agg #[.int .i64 ((PG.shiftI Gx rI cI (-nI) (pd, pe, pf))).rows, .int .i64 ((PG.shiftI Gx rI cI (-nI) (pd, pe, pf))).cols, .slice sA (((PG.shiftI Gx rI cI (-nI) (pd, pe, pf))).rows * ((PG.shiftI Gx rI cI (-nI) (pd, pe, pf))).cols) sc] := eval_slot (j := 12) (by kernel_rfl) hsv
                                      have hb : Box w' gO 27 #[.int .i64 R, .int .i64 K, .slice AG (R * K) cG] := hJ.old 14 rfl hL
                                      obtain ⟨m0, m1, m2, f0, f1, f2⟩ := Box.three (a := (.int .i64 R)) (b := (.int .i64 K)) (c := (.slice AG (R * K) cG)) hb
                                      have ea : a.eval (.tmp 8) = .pointer (some ⟨gO, 0, none⟩) := eval_base hsame (by kernel_rfl)
                                      refine Step.skip _ rfl (wanted_none rfl) (set3 w' gO (.int .i64 ((PG.shiftI Gx rI cI (-nI) (pd, pe, pf))).rows) (.int .i64 ((PG.shiftI Gx rI cI (-nI) (pd, pe, pf))).cols) (.slice sA (((PG.shiftI Gx rI cI (-nI) (pd, pe, pf))).rows * ((PG.shiftI Gx rI cI (-nI) (pd, pe, pf))).cols) sc)) (fun ρ hρ => ?_) (hJ.set hRS hcl hL rfl (dep_of hdep 12 (by kernel_rfl)) hsv)
                                      rw [hρ] at es ea
                                      clear hJ hsame hdep hcl hρ hsz hb hso hsv
                                      unfold set3
                                      go_simp
                                    · intro L a w' hsame hsz hJ hall
                                      obtain ⟨u, hu, ha⟩ := act_puts hsame
                                      have h : ((GBox w' (PG.shiftI Gx rI cI (-nI) (pd, pe, pf)) gG ∧ GBox w' (PG.shiftI Gx rI cI (-nI) (pd, pe, pf)) gO)) ∧ Kept [some gG, some gO] w5 w' := by
                                        (try simp only [hu])
                                        exact (And.intro (And.intro (hJ.var4 hall 13 (by decide) rfl rfl (by decide) rfl) (hJ.var4 hall 14 (by decide) rfl rfl (by decide) rfl)) hJ.kept)
                                      have h := hide h
                                      clear hJ hall hsz hu hsame
                                      subst ha
                                      change Exit.inBlock _ _ Exit.normal (Act.put (Act.put (Act.put (Act.put (Act.put (Act.put (Act.put (Act.put (Act.put (Act.put (Act.put (Act.put (Act.put (Act.put (Act.put (putAll _ u 0 _) (some 88) (u 0)) (some 89) (u 1)) (some 90) (u 2)) (some 91) (u 3)) (some 92) (u 4)) (some 93) (u 5)) (some 94) (u 6)) (some 95) (u 7)) (some 96) (u 8)) (some 97) (u 9)) (some 98) (u 10)) (some 99) (u 11)) (some 100) (u 12)) none (u 13)) none (u 14)) _
                                      simp only [putAll]
                                      generalize u 0 = v0
                                      generalize u 1 = v1
                                      generalize u 2 = v2
                                      generalize u 3 = v3
                                      generalize u 4 = v4
                                      generalize u 5 = v5
                                      generalize u 6 = v6
                                      generalize u 7 = v7
                                      generalize u 8 = v8
                                      generalize u 9 = v9
                                      generalize u 10 = v10
                                      generalize u 11 = v11
                                      generalize u 12 = v12
                                      generalize u 13 = v13
                                      generalize u 14 = v14
                                      go_simp
                                      obtain ⟨⟨hx1, hx2⟩, hx3⟩ := h.out
                                      clear h
                                      (try simp only [Exit.then, Exit.inBlock])
                                      go_wp2_with fail
                                      go_meet
                                      exact ⟨⟨_, (PG.right_shiftI HRX.out.1 HPQ.out _ _ _), ((PG.shiftI_size ..).1.trans HRX.out.2.1), ((PG.shiftI_size ..).2.trans HRX.out.2.2.1), hx1, hx2⟩, hx3⟩
                                  · as_aux_lemma =>
                                    obtain ⟨bI, hbI, hb1, hb2⟩ := within_exE qc (lo := -1) (hi := (R : Int)) (by omega)
                                    have KB := hide (fun w' => within_is qc (-1) R bI hbI w' HB.out.2.1.1 HB.out.2.1.2 (by omega) (by omega) (by have := HRX.out; omega))
                                    have HBI := hide (show -1 ≤ bI ∧ bI ≤ R from ⟨hb1, hb2⟩)
                                    clear hbI hb1 hb2
                                    go_upto_region 16 with fail
                                    go_cut [14] from 103 to 107 (fun u wx => u = .int .i64 bI ∧ w5 = wx)
                                    case first =>
                                      as_aux_lemma =>
                                        have m1 : w5.cell? ⟨gG, 0, none⟩ = some (.int .i64 R) := BG.out.cell 0
                                        have m3 : w5.cell? ⟨gQ, 2, none⟩ = some (.int .i64 qc) := BQ.out.cell 2
                                        go_wp2_with (
                                          go_at_call 18
                                          go_must (refine (KB.out _).mono ?_)
                                          rintro e w' ⟨rfl, rfl⟩)
                                        go_meet
                                        exact ⟨rfl, rfl⟩
                                    obtain ⟨rfl, rfl⟩ := hcut
                                    clear KB
                                    go_upto_region 17 with fail
                                    refine wp_region_rj (n := 273) [some gG, some gO] (fun j => if j = 12 then #[.int .i64 R, .int .i64 K, .slice AG (R * K) cG] else #[.int .i64 R, .int .i64 K, .slice AG (R * K) cG]) [(0, 0, 0, 0), (0, 0, 0, 0), (0, 0, 0, 0), (0, 0, 0, 0), (0, 0, 0, 0), (1, 0, 0, 0), (0, 0, 0, 0), (0, 0, 0, 0), (0, 0, 0, 0), (0, 0, 0, 0), (0, 0, 0, 0), (1, 0, 0, 0), (4, 0, 5, 27), (4, 0, 11, 27)] (fun j => [(.agg #[.int .i64 R, .int .i64 K, .slice AG (R * K) cG]), (.int .i64 rI), (.int .i64 bI), (.int .i64 nI), (.agg #[.int .i64 pd, .int .i64 pe, .int .i64 pf]), undef, (.agg #[.int .i64 R, .int .i64 K, .slice AG (R * K) cG]), (.int .i64 rI), (.int .i64 bI), (.int .i64 nI), (.agg #[.int .i64 pd, .int .i64 pe, .int .i64 pf]), undef, undef, undef].getD j undef) (fun j => [PG.dflt, PG.dflt, PG.dflt, PG.dflt, PG.dflt, (PG.scrollI Gx rI bI nI (pd, pe, pf)), PG.dflt, PG.dflt, PG.dflt, PG.dflt, PG.dflt, (PG.scrollI Gx rI bI nI (pd, pe, pf)), PG.dflt, PG.dflt].getD j PG.dflt) (fun j => if j = 12 then gG else gO) (by kernel_rfl) (by kernel_rfl) (by kernel_rfl) rfl (by kernel_rfl) (fun j hk => by have hj := onlyL (ks := [12, 13]) (by kernel_rfl) j hk; simp only [List.mem_cons, List.not_mem_nil, or_false] at hj; rcases hj with rfl | rfl; exact ⟨by simp, rfl, BG.out⟩; exact ⟨by simp, rfl, BO.out⟩) (fun i j h h' e => by have hi := onlyL (ks := [12, 13]) (by kernel_rfl) i h; have hj := onlyL (ks := [12, 13]) (by kernel_rfl) j h'; simp only [List.mem_cons, List.not_mem_nil, or_false] at hi hj; have hd := DIST.out; rcases hi with rfl | rfl <;> rcases hj with rfl | rfl <;> first | exact absurd rfl e | (simp; omega)) (fun hRS => cases14 ⟨?_, ?_, ?_, ?_, ?_, ?_, ?_, ?_, ?_, ?_, ?_, ?_, ?_, ?_⟩) ?_
                                    · intro L a w' hL hsame hsz hJ hdep hcl
                                      have e0 : a.eval (.tmp 5) = (.pointer (some ⟨gG, 0, none⟩)) := eval_base hsame (by kernel_rfl)
                                      have hb := (show Box w' gG 27 #[.int .i64 R, .int .i64 K, .slice AG (R * K) cG] from hJ.old 12 rfl (late hcl hL (by kernel_rfl)))
                                      have q0 : w'.cell? ⟨gG, 0, none⟩ = some (.int .i64 R) := hb.cell 0
                                      have q1 : w'.cell? ⟨gG, 1, none⟩ = some (.int .i64 K) := hb.cell 1
                                      have q2 : w'.cell? ⟨gG, 2, none⟩ = some (.slice AG (R * K) cG) := hb.cell 2
                                      refine Step.val _ rfl rfl (wanted_none rfl) (.agg #[.int .i64 R, .int .i64 K, .slice AG (R * K) cG]) w' (fun ρ hρ => ?_) (hJ.val hRS hcl hL rfl (Below.refl _ _) _ rfl)
                                      rw [hρ] at e0
                                      clear hb
                                      clear hJ hsame hdep hcl hρ hsz
                                      go_simp
                                    · intro L a w' hL hsame hsz hJ hdep hcl
                                      have e0 : a.eval (.tmp 10) = (.int .i64 rI) := eval_base hsame (by kernel_rfl)
                                      refine Step.val _ rfl rfl (wanted_none rfl) (.int .i64 rI) w' (fun ρ hρ => ?_) (hJ.val hRS hcl hL rfl (Below.refl _ _) _ rfl)
                                      rw [hρ] at e0
                                      clear hJ hsame hdep hcl hρ hsz
                                      go_simp
                                    · intro L a w' hL hsame hsz hJ hdep hcl
                                      have e0 : a.eval (.tmp 14) = (.int .i64 bI) := eval_base hsame (by kernel_rfl)
                                      refine Step.val _ rfl rfl (wanted_none rfl) (.int .i64 bI) w' (fun ρ hρ => ?_) (hJ.val hRS hcl hL rfl (Below.refl _ _) _ rfl)
                                      rw [hρ] at e0
                                      clear hJ hsame hdep hcl hρ hsz
                                      go_simp
                                    · intro L a w' hL hsame hsz hJ hdep hcl
                                      have e0 : a.eval (.tmp 12) = (.int .i64 nI) := eval_base hsame (by kernel_rfl)
                                      refine Step.val _ rfl rfl (wanted_none rfl) (.int .i64 nI) w' (fun ρ hρ => ?_) (hJ.val hRS hcl hL rfl (Below.refl _ _) _ rfl)
                                      rw [hρ] at e0
                                      clear hJ hsame hdep hcl hρ hsz
                                      go_simp
                                    · intro L a w' hL hsame hsz hJ hdep hcl
                                      have e0 : a.eval (.tmp 9) = (.pointer (some ⟨gP, 0, none⟩)) := eval_base hsame (by kernel_rfl)
                                      have hb := hJ.keptBox BP.out HnBP.out
                                      have q0 : w'.cell? ⟨gP, 0, none⟩ = some (.int .i64 pd) := hb.cell 0
                                      have q1 : w'.cell? ⟨gP, 1, none⟩ = some (.int .i64 pe) := hb.cell 1
                                      have q2 : w'.cell? ⟨gP, 2, none⟩ = some (.int .i64 pf) := hb.cell 2
                                      refine Step.val _ rfl rfl (wanted_none rfl) (.agg #[.int .i64 pd, .int .i64 pe, .int .i64 pf]) w' (fun ρ hρ => ?_) (hJ.val hRS hcl hL rfl (Below.refl _ _) _ rfl)
                                      rw [hρ] at e0
                                      clear hb
                                      clear hJ hsame hdep hcl hρ hsz
                                      go_simp
                                    · intro L a w' hL hsame hsz hJ hdep hcl
                                      have e0 : a.eval (.tmp 108) = (.agg #[.int .i64 R, .int .i64 K, .slice AG (R * K) cG]) := eval_slot (j := 0) (by kernel_rfl) (hJ.valOf (by decide) (dep_of hdep 0 (by kernel_rfl)) rfl rfl)
                                      have e1 : a.eval (.tmp 109) = (.int .i64 rI) := eval_slot (j := 1) (by kernel_rfl) (hJ.valOf (by decide) (dep_of hdep 1 (by kernel_rfl)) rfl rfl)
                                      have e2 : a.eval (.tmp 110) = (.int .i64 bI) := eval_slot (j := 2) (by kernel_rfl) (hJ.valOf (by decide) (dep_of hdep 2 (by kernel_rfl)) rfl rfl)
                                      have e3 : a.eval (.tmp 111) = (.int .i64 nI) := eval_slot (j := 3) (by kernel_rfl) (hJ.valOf (by decide) (dep_of hdep 3 (by kernel_rfl)) rfl rfl)
                                      have e4 : a.eval (.tmp 112) = (.agg #[.int .i64 pd, .int .i64 pe, .int .i64 pf]) := eval_slot (j := 4) (by kernel_rfl) (hJ.valOf (by decide) (dep_of hdep 4 (by kernel_rfl)) rfl rfl)
                                      refine Step.call _ rfl rfl (wanted_none rfl) 11 #[.agg #[.int .i64 R, .int .i64 K, .slice AG (R * K) cG], .int .i64 rI, .int .i64 bI, .int .i64 nI, .agg #[.int .i64 pd, .int .i64 pe, .int .i64 pf]] (fun ρ hρ => ?_) ?_
                                      · skip
                                        rw [hρ] at e0 e1 e2 e3 e4
                                        have ef : ρ (.func 11) = .func (.func 11) #[] #[] := (hρ _).symm
                                        clear hJ hsame hdep hcl hρ hsz
                                        go_simp
                                      · refine (u_up HRX.out.1 (IG.out.keptS NR.out hJ.kept) rI bI nI (pd, pe, pf) HPQ.out (by have := HRC.out; have := HRX.out; omega) (by have := HBI.out; have := HRX.out; omega) (by have := HRC.out; have := HRX.out; omega)).mono ?_
                                        rintro e w2 ⟨v, rfl, hg, bb⟩
                                        exact ⟨v, rfl, hJ.grid hRS hcl hL rfl bb v hg⟩
                                    · intro L a w' hL hsame hsz hJ hdep hcl
                                      have e0 : a.eval (.tmp 8) = (.pointer (some ⟨gO, 0, none⟩)) := eval_base hsame (by kernel_rfl)
                                      have hb := (show Box w' gO 27 #[.int .i64 R, .int .i64 K, .slice AG (R * K) cG] from hJ.old 13 rfl (late hcl hL (by kernel_rfl)))
                                      have q0 : w'.cell? ⟨gO, 0, none⟩ = some (.int .i64 R) := hb.cell 0
                                      have q1 : w'.cell? ⟨gO, 1, none⟩ = some (.int .i64 K) := hb.cell 1
                                      have q2 : w'.cell? ⟨gO, 2, none⟩ = some (.slice AG (R * K) cG) := hb.cell 2
                                      refine Step.val _ rfl rfl (wanted_none rfl) (.agg #[.int .i64 R, .int .i64 K, .slice AG (R * K) cG]) w' (fun ρ hρ => ?_) (hJ.val hRS hcl hL rfl (Below.refl _ _) _ rfl)
                                      rw [hρ] at e0
                                      clear hb
                                      clear hJ hsame hdep hcl hρ hsz
                                      go_simp
                                    · intro L a w' hL hsame hsz hJ hdep hcl
                                      have e0 : a.eval (.tmp 10) = (.int .i64 rI) := eval_base hsame (by kernel_rfl)
                                      refine Step.val _ rfl rfl (wanted_none rfl) (.int .i64 rI) w' (fun ρ hρ => ?_) (hJ.val hRS hcl hL rfl (Below.refl _ _) _ rfl)
                                      rw [hρ] at e0
                                      clear hJ hsame hdep hcl hρ hsz
                                      go_simp
                                    · intro L a w' hL hsame hsz hJ hdep hcl
                                      have e0 : a.eval (.tmp 14) = (.int .i64 bI) := eval_base hsame (by kernel_rfl)
                                      refine Step.val _ rfl rfl (wanted_none rfl) (.int .i64 bI) w' (fun ρ hρ => ?_) (hJ.val hRS hcl hL rfl (Below.refl _ _) _ rfl)
                                      rw [hρ] at e0
                                      clear hJ hsame hdep hcl hρ hsz
                                      go_simp
                                    · intro L a w' hL hsame hsz hJ hdep hcl
                                      have e0 : a.eval (.tmp 12) = (.int .i64 nI) := eval_base hsame (by kernel_rfl)
                                      refine Step.val _ rfl rfl (wanted_none rfl) (.int .i64 nI) w' (fun ρ hρ => ?_) (hJ.val hRS hcl hL rfl (Below.refl _ _) _ rfl)
                                      rw [hρ] at e0
                                      clear hJ hsame hdep hcl hρ hsz
                                      go_simp
                                    · intro L a w' hL hsame hsz hJ hdep hcl
                                      have e0 : a.eval (.tmp 9) = (.pointer (some ⟨gP, 0, none⟩)) := eval_base hsame (by kernel_rfl)
                                      have hb := hJ.keptBox BP.out HnBP.out
                                      have q0 : w'.cell? ⟨gP, 0, none⟩ = some (.int .i64 pd) := hb.cell 0
                                      have q1 : w'.cell? ⟨gP, 1, none⟩ = some (.int .i64 pe) := hb.cell 1
                                      have q2 : w'.cell? ⟨gP, 2, none⟩ = some (.int .i64 pf) := hb.cell 2
                                      refine Step.val _ rfl rfl (wanted_none rfl) (.agg #[.int .i64 pd, .int .i64 pe, .int .i64 pf]) w' (fun ρ hρ => ?_) (hJ.val hRS hcl hL rfl (Below.refl _ _) _ rfl)
                                      rw [hρ] at e0
                                      clear hb
                                      clear hJ hsame hdep hcl hρ hsz
                                      go_simp
                                    · intro L a w' hL hsame hsz hJ hdep hcl
                                      have e0 : a.eval (.tmp 114) = (.agg #[.int .i64 R, .int .i64 K, .slice AG (R * K) cG]) := eval_slot (j := 6) (by kernel_rfl) (hJ.valOf (by decide) (dep_of hdep 6 (by kernel_rfl)) rfl rfl)
                                      have e1 : a.eval (.tmp 115) = (.int .i64 rI) := eval_slot (j := 7) (by kernel_rfl) (hJ.valOf (by decide) (dep_of hdep 7 (by kernel_rfl)) rfl rfl)
                                      have e2 : a.eval (.tmp 116) = (.int .i64 bI) := eval_slot (j := 8) (by kernel_rfl) (hJ.valOf (by decide) (dep_of hdep 8 (by kernel_rfl)) rfl rfl)
                                      have e3 : a.eval (.tmp 117) = (.int .i64 nI) := eval_slot (j := 9) (by kernel_rfl) (hJ.valOf (by decide) (dep_of hdep 9 (by kernel_rfl)) rfl rfl)
                                      have e4 : a.eval (.tmp 118) = (.agg #[.int .i64 pd, .int .i64 pe, .int .i64 pf]) := eval_slot (j := 10) (by kernel_rfl) (hJ.valOf (by decide) (dep_of hdep 10 (by kernel_rfl)) rfl rfl)
                                      refine Step.call _ rfl rfl (wanted_none rfl) 20 #[.agg #[.int .i64 R, .int .i64 K, .slice AG (R * K) cG], .int .i64 rI, .int .i64 bI, .int .i64 nI, .agg #[.int .i64 pd, .int .i64 pe, .int .i64 pf]] (fun ρ hρ => ?_) ?_
                                      · skip
                                        rw [hρ] at e0 e1 e2 e3 e4
                                        have ef : ρ (.func 20) = .func (.func 20) #[] #[] := (hρ _).symm
                                        clear hJ hsame hdep hcl hρ hsz
                                        go_simp
                                      · refine (r_scroll HRX.out.1 (IO.out.keptS NR.out hJ.kept) rI bI nI (pd, pe, pf) (by have := HRC.out; have := HRX.out; omega)).mono ?_
                                        rintro e w2 ⟨v, rfl, hg, bb⟩
                                        exact ⟨v, rfl, hJ.grid hRS hcl hL rfl bb v hg⟩
                                    · intro L a w' hL hsame hsz hJ hdep hcl
                                      obtain ⟨sv, hsv, hso⟩ := hJ.gridOf (by decide) (dep_of hdep 5 (by kernel_rfl)) rfl
                                      obtain ⟨sA, sc, rfl, _⟩ := own_form' hso
                                      have es : a.eval (.tmp 113) = .agg #[.int .i64 ((PG.scrollI Gx rI bI nI (pd, pe, pf))).rows, .int .i64 ((PG.scrollI Gx rI bI nI (pd, pe, pf))).cols, .slice sA (((PG.scrollI Gx rI bI nI (pd, pe, pf))).rows * ((PG.scrollI Gx rI bI nI (pd, pe, pf))).cols) sc] := eval_slot (j := 5) (by kernel_rfl) hsv
                                      have hb : Box w' gG 27 #[.int .i64 R, .int .i64 K, .slice AG (R * K) cG] := hJ.old 12 rfl hL
                                      obtain ⟨m0, m1, m2, f0, f1, f2⟩ := Box.three (a := (.int .i64 R)) (b := (.int .i64 K)) (c := (.slice AG (R * K) cG)) hb
                                      have ea : a.eval (.tmp 5) = .pointer (some ⟨gG, 0, none⟩) := eval_base hsame (by kernel_rfl)
                                      refine Step.skip _ rfl (wanted_none rfl) (set3 w' gG (.int .i64 ((PG.scrollI Gx rI bI nI (pd, pe, pf))).rows) (.int .i64 ((PG.scrollI Gx rI bI nI (pd, pe, pf))).cols) (.slice sA (((PG.scrollI Gx rI bI nI (pd, pe, pf))).rows * ((PG.scrollI Gx rI bI nI (pd, pe, pf))).cols) sc)) (fun ρ hρ => ?_) (hJ.set hRS hcl hL rfl (dep_of hdep 5 (by kernel_rfl)) hsv)
                                      rw [hρ] at es ea
                                      clear hJ hsame hdep hcl hρ hsz hb hso hsv
                                      unfold set3
                                      go_simp
                                    · intro L a w' hL hsame hsz hJ hdep hcl
                                      obtain ⟨sv, hsv, hso⟩ := hJ.gridOf (by decide) (dep_of hdep 11 (by kernel_rfl)) rfl
                                      obtain ⟨sA, sc, rfl, _⟩ := own_form' hso
                                      have es : a.eval (.tmp 119) = .agg #[.int .i64 ((PG.scrollI Gx rI bI nI (pd, pe, pf))).rows, .int .i64 ((PG.scrollI Gx rI bI nI (pd, pe, pf))).cols, .slice sA (((PG.scrollI Gx rI bI nI (pd, pe, pf))).rows * ((PG.scrollI Gx rI bI nI (pd, pe, pf))).cols) sc] := eval_slot (j := 11) (by kernel_rfl) hsv
                                      have hb : Box w' gO 27 #[.int .i64 R, .int .i64 K, .slice AG (R * K) cG] := hJ.old 13 rfl hL
                                      obtain ⟨m0, m1, m2, f0, f1, f2⟩ := Box.three (a := (.int .i64 R)) (b := (.int .i64 K)) (c := (.slice AG (R * K) cG)) hb
                                      have ea : a.eval (.tmp 8) = .pointer (some ⟨gO, 0, none⟩) := eval_base hsame (by kernel_rfl)
                                      refine Step.skip _ rfl (wanted_none rfl) (set3 w' gO (.int .i64 ((PG.scrollI Gx rI bI nI (pd, pe, pf))).rows) (.int .i64 ((PG.scrollI Gx rI bI nI (pd, pe, pf))).cols) (.slice sA (((PG.scrollI Gx rI bI nI (pd, pe, pf))).rows * ((PG.scrollI Gx rI bI nI (pd, pe, pf))).cols) sc)) (fun ρ hρ => ?_) (hJ.set hRS hcl hL rfl (dep_of hdep 11 (by kernel_rfl)) hsv)
                                      rw [hρ] at es ea
                                      clear hJ hsame hdep hcl hρ hsz hb hso hsv
                                      unfold set3
                                      go_simp
                                    · intro L a w' hsame hsz hJ hall
                                      obtain ⟨u, hu, ha⟩ := act_puts hsame
                                      have h : ((GBox w' (PG.scrollI Gx rI bI nI (pd, pe, pf)) gG ∧ GBox w' (PG.scrollI Gx rI bI nI (pd, pe, pf)) gO)) ∧ Kept [some gG, some gO] w5 w' := by
                                        (try simp only [hu])
                                        exact (And.intro (And.intro (hJ.var4 hall 12 (by decide) rfl rfl (by decide) rfl) (hJ.var4 hall 13 (by decide) rfl rfl (by decide) rfl)) hJ.kept)
                                      have h := hide h
                                      clear hJ hall hsz hu hsame
                                      subst ha
                                      change Exit.inBlock _ _ Exit.normal (Act.put (Act.put (Act.put (Act.put (Act.put (Act.put (Act.put (Act.put (Act.put (Act.put (Act.put (Act.put (Act.put (Act.put (putAll _ u 0 _) (some 108) (u 0)) (some 109) (u 1)) (some 110) (u 2)) (some 111) (u 3)) (some 112) (u 4)) (some 113) (u 5)) (some 114) (u 6)) (some 115) (u 7)) (some 116) (u 8)) (some 117) (u 9)) (some 118) (u 10)) (some 119) (u 11)) none (u 12)) none (u 13)) _
                                      simp only [putAll]
                                      generalize u 0 = v0
                                      generalize u 1 = v1
                                      generalize u 2 = v2
                                      generalize u 3 = v3
                                      generalize u 4 = v4
                                      generalize u 5 = v5
                                      generalize u 6 = v6
                                      generalize u 7 = v7
                                      generalize u 8 = v8
                                      generalize u 9 = v9
                                      generalize u 10 = v10
                                      generalize u 11 = v11
                                      generalize u 12 = v12
                                      generalize u 13 = v13
                                      go_simp
                                      obtain ⟨⟨hx1, hx2⟩, hx3⟩ := h.out
                                      clear h
                                      (try simp only [Exit.then, Exit.inBlock])
                                      go_wp2_with fail
                                      go_meet
                                      exact ⟨⟨_, (PG.right_scrollI HRX.out.1 HPQ.out _ _ _), ((PG.scrollI_size ..).1.trans HRX.out.2.1), ((PG.scrollI_size ..).2.trans HRX.out.2.2.1), hx1, hx2⟩, hx3⟩
                                  · as_aux_lemma =>
                                    obtain ⟨bI, hbI, hb1, hb2⟩ := within_exE qc (lo := -1) (hi := (R : Int)) (by omega)
                                    have KB := hide (fun w' => within_is qc (-1) R bI hbI w' HB.out.2.1.1 HB.out.2.1.2 (by omega) (by omega) (by have := HRX.out; omega))
                                    have HBI := hide (show -1 ≤ bI ∧ bI ≤ R from ⟨hb1, hb2⟩)
                                    clear hbI hb1 hb2
                                    go_upto_region 19 with fail
                                    go_cut [15] from 122 to 126 (fun u wx => u = .int .i64 bI ∧ w5 = wx)
                                    case first =>
                                      as_aux_lemma =>
                                        have m1 : w5.cell? ⟨gG, 0, none⟩ = some (.int .i64 R) := BG.out.cell 0
                                        have m3 : w5.cell? ⟨gQ, 2, none⟩ = some (.int .i64 qc) := BQ.out.cell 2
                                        go_wp2_with (
                                          go_at_call 18
                                          go_must (refine (KB.out _).mono ?_)
                                          rintro e w' ⟨rfl, rfl⟩)
                                        go_meet
                                        exact ⟨rfl, rfl⟩
                                    obtain ⟨rfl, rfl⟩ := hcut
                                    clear KB
                                    have wn : IntKind.i64.wrap (-nI) = -nI := IntWalk.i64_in _ (by have := HRC.out; omega)
                                    go_upto_region 20 with fail
                                    refine wp_region_rj (n := 273) [some gG, some gO] (fun j => if j = 13 then #[.int .i64 R, .int .i64 K, .slice AG (R * K) cG] else #[.int .i64 R, .int .i64 K, .slice AG (R * K) cG]) [(0, 0, 0, 0), (0, 0, 0, 0), (0, 0, 0, 0), (0, 0, 0, 0), (0, 0, 0, 0), (1, 0, 0, 0), (0, 0, 0, 0), (0, 0, 0, 0), (0, 0, 0, 0), (0, 0, 0, 0), (0, 0, 0, 0), (0, 0, 0, 0), (1, 0, 0, 0), (4, 0, 5, 27), (4, 0, 12, 27)] (fun j => [(.agg #[.int .i64 R, .int .i64 K, .slice AG (R * K) cG]), (.int .i64 rI), (.int .i64 bI), (.int .i64 nI), (.agg #[.int .i64 pd, .int .i64 pe, .int .i64 pf]), undef, (.agg #[.int .i64 R, .int .i64 K, .slice AG (R * K) cG]), (.int .i64 rI), (.int .i64 bI), (.int .i64 nI), (.int .i64 (-nI)), (.agg #[.int .i64 pd, .int .i64 pe, .int .i64 pf]), undef, undef, undef].getD j undef) (fun j => [PG.dflt, PG.dflt, PG.dflt, PG.dflt, PG.dflt, (PG.scrollI Gx rI bI (-nI) (pd, pe, pf)), PG.dflt, PG.dflt, PG.dflt, PG.dflt, PG.dflt, PG.dflt, (PG.scrollI Gx rI bI (-nI) (pd, pe, pf)), PG.dflt, PG.dflt].getD j PG.dflt) (fun j => if j = 13 then gG else gO) (by kernel_rfl) (by kernel_rfl) (by kernel_rfl) rfl (by kernel_rfl) (fun j hk => by have hj := onlyL (ks := [13, 14]) (by kernel_rfl) j hk; simp only [List.mem_cons, List.not_mem_nil, or_false] at hj; rcases hj with rfl | rfl; exact ⟨by simp, rfl, BG.out⟩; exact ⟨by simp, rfl, BO.out⟩) (fun i j h h' e => by have hi := onlyL (ks := [13, 14]) (by kernel_rfl) i h; have hj := onlyL (ks := [13, 14]) (by kernel_rfl) j h'; simp only [List.mem_cons, List.not_mem_nil, or_false] at hi hj; have hd := DIST.out; rcases hi with rfl | rfl <;> rcases hj with rfl | rfl <;> first | exact absurd rfl e | (simp; omega)) (fun hRS => cases15 ⟨?_, ?_, ?_, ?_, ?_, ?_, ?_, ?_, ?_, ?_, ?_, ?_, ?_, ?_, ?_⟩) ?_
                                    · intro L a w' hL hsame hsz hJ hdep hcl
                                      have e0 : a.eval (.tmp 5) = (.pointer (some ⟨gG, 0, none⟩)) := eval_base hsame (by kernel_rfl)
                                      have hb := (show Box w' gG 27 #[.int .i64 R, .int .i64 K, .slice AG (R * K) cG] from hJ.old 13 rfl (late hcl hL (by kernel_rfl)))
                                      have q0 : w'.cell? ⟨gG, 0, none⟩ = some (.int .i64 R) := hb.cell 0
                                      have q1 : w'.cell? ⟨gG, 1, none⟩ = some (.int .i64 K) := hb.cell 1
                                      have q2 : w'.cell? ⟨gG, 2, none⟩ = some (.slice AG (R * K) cG) := hb.cell 2
                                      refine Step.val _ rfl rfl (wanted_none rfl) (.agg #[.int .i64 R, .int .i64 K, .slice AG (R * K) cG]) w' (fun ρ hρ => ?_) (hJ.val hRS hcl hL rfl (Below.refl _ _) _ rfl)
                                      rw [hρ] at e0
                                      clear hb
                                      clear hJ hsame hdep hcl hρ hsz
                                      go_simp
                                    · intro L a w' hL hsame hsz hJ hdep hcl
                                      have e0 : a.eval (.tmp 10) = (.int .i64 rI) := eval_base hsame (by kernel_rfl)
                                      refine Step.val _ rfl rfl (wanted_none rfl) (.int .i64 rI) w' (fun ρ hρ => ?_) (hJ.val hRS hcl hL rfl (Below.refl _ _) _ rfl)
                                      rw [hρ] at e0
                                      clear hJ hsame hdep hcl hρ hsz
                                      go_simp
                                    · intro L a w' hL hsame hsz hJ hdep hcl
                                      have e0 : a.eval (.tmp 15) = (.int .i64 bI) := eval_base hsame (by kernel_rfl)
                                      refine Step.val _ rfl rfl (wanted_none rfl) (.int .i64 bI) w' (fun ρ hρ => ?_) (hJ.val hRS hcl hL rfl (Below.refl _ _) _ rfl)
                                      rw [hρ] at e0
                                      clear hJ hsame hdep hcl hρ hsz
                                      go_simp
                                    · intro L a w' hL hsame hsz hJ hdep hcl
                                      have e0 : a.eval (.tmp 12) = (.int .i64 nI) := eval_base hsame (by kernel_rfl)
                                      refine Step.val _ rfl rfl (wanted_none rfl) (.int .i64 nI) w' (fun ρ hρ => ?_) (hJ.val hRS hcl hL rfl (Below.refl _ _) _ rfl)
                                      rw [hρ] at e0
                                      clear hJ hsame hdep hcl hρ hsz
                                      go_simp
                                    · intro L a w' hL hsame hsz hJ hdep hcl
                                      have e0 : a.eval (.tmp 9) = (.pointer (some ⟨gP, 0, none⟩)) := eval_base hsame (by kernel_rfl)
                                      have hb := hJ.keptBox BP.out HnBP.out
                                      have q0 : w'.cell? ⟨gP, 0, none⟩ = some (.int .i64 pd) := hb.cell 0
                                      have q1 : w'.cell? ⟨gP, 1, none⟩ = some (.int .i64 pe) := hb.cell 1
                                      have q2 : w'.cell? ⟨gP, 2, none⟩ = some (.int .i64 pf) := hb.cell 2
                                      refine Step.val _ rfl rfl (wanted_none rfl) (.agg #[.int .i64 pd, .int .i64 pe, .int .i64 pf]) w' (fun ρ hρ => ?_) (hJ.val hRS hcl hL rfl (Below.refl _ _) _ rfl)
                                      rw [hρ] at e0
                                      clear hb
                                      clear hJ hsame hdep hcl hρ hsz
                                      go_simp
                                    · intro L a w' hL hsame hsz hJ hdep hcl
                                      have e0 : a.eval (.tmp 127) = (.agg #[.int .i64 R, .int .i64 K, .slice AG (R * K) cG]) := eval_slot (j := 0) (by kernel_rfl) (hJ.valOf (by decide) (dep_of hdep 0 (by kernel_rfl)) rfl rfl)
                                      have e1 : a.eval (.tmp 128) = (.int .i64 rI) := eval_slot (j := 1) (by kernel_rfl) (hJ.valOf (by decide) (dep_of hdep 1 (by kernel_rfl)) rfl rfl)
                                      have e2 : a.eval (.tmp 129) = (.int .i64 bI) := eval_slot (j := 2) (by kernel_rfl) (hJ.valOf (by decide) (dep_of hdep 2 (by kernel_rfl)) rfl rfl)
                                      have e3 : a.eval (.tmp 130) = (.int .i64 nI) := eval_slot (j := 3) (by kernel_rfl) (hJ.valOf (by decide) (dep_of hdep 3 (by kernel_rfl)) rfl rfl)
                                      have e4 : a.eval (.tmp 131) = (.agg #[.int .i64 pd, .int .i64 pe, .int .i64 pf]) := eval_slot (j := 4) (by kernel_rfl) (hJ.valOf (by decide) (dep_of hdep 4 (by kernel_rfl)) rfl rfl)
                                      refine Step.call _ rfl rfl (wanted_none rfl) 21 #[.agg #[.int .i64 R, .int .i64 K, .slice AG (R * K) cG], .int .i64 rI, .int .i64 bI, .int .i64 nI, .agg #[.int .i64 pd, .int .i64 pe, .int .i64 pf]] (fun ρ hρ => ?_) ?_
                                      · skip
                                        rw [hρ] at e0 e1 e2 e3 e4
                                        have ef : ρ (.func 21) = .func (.func 21) #[] #[] := (hρ _).symm
                                        clear hJ hsame hdep hcl hρ hsz
                                        go_simp
                                      · refine (u_down HRX.out.1 (IG.out.keptS NR.out hJ.kept) rI bI nI (pd, pe, pf) HPQ.out (by have := HRC.out; have := HRX.out; omega) (by have := HBI.out; have := HRX.out; omega) (by have := HRC.out; have := HRX.out; omega)).mono ?_
                                        rintro e w2 ⟨v, rfl, hg, bb⟩
                                        exact ⟨v, rfl, hJ.grid hRS hcl hL rfl bb v hg⟩
                                    · intro L a w' hL hsame hsz hJ hdep hcl
                                      have e0 : a.eval (.tmp 8) = (.pointer (some ⟨gO, 0, none⟩)) := eval_base hsame (by kernel_rfl)
                                      have hb := (show Box w' gO 27 #[.int .i64 R, .int .i64 K, .slice AG (R * K) cG] from hJ.old 14 rfl (late hcl hL (by kernel_rfl)))
                                      have q0 : w'.cell? ⟨gO, 0, none⟩ = some (.int .i64 R) := hb.cell 0
                                      have q1 : w'.cell? ⟨gO, 1, none⟩ = some (.int .i64 K) := hb.cell 1
                                      have q2 : w'.cell? ⟨gO, 2, none⟩ = some (.slice AG (R * K) cG) := hb.cell 2
                                      refine Step.val _ rfl rfl (wanted_none rfl) (.agg #[.int .i64 R, .int .i64 K, .slice AG (R * K) cG]) w' (fun ρ hρ => ?_) (hJ.val hRS hcl hL rfl (Below.refl _ _) _ rfl)
                                      rw [hρ] at e0
                                      clear hb
                                      clear hJ hsame hdep hcl hρ hsz
                                      go_simp
                                    · intro L a w' hL hsame hsz hJ hdep hcl
                                      have e0 : a.eval (.tmp 10) = (.int .i64 rI) := eval_base hsame (by kernel_rfl)
                                      refine Step.val _ rfl rfl (wanted_none rfl) (.int .i64 rI) w' (fun ρ hρ => ?_) (hJ.val hRS hcl hL rfl (Below.refl _ _) _ rfl)
                                      rw [hρ] at e0
                                      clear hJ hsame hdep hcl hρ hsz
                                      go_simp
                                    · intro L a w' hL hsame hsz hJ hdep hcl
                                      have e0 : a.eval (.tmp 15) = (.int .i64 bI) := eval_base hsame (by kernel_rfl)
                                      refine Step.val _ rfl rfl (wanted_none rfl) (.int .i64 bI) w' (fun ρ hρ => ?_) (hJ.val hRS hcl hL rfl (Below.refl _ _) _ rfl)
                                      rw [hρ] at e0
                                      clear hJ hsame hdep hcl hρ hsz
                                      go_simp
                                    · intro L a w' hL hsame hsz hJ hdep hcl
                                      have e0 : a.eval (.tmp 12) = (.int .i64 nI) := eval_base hsame (by kernel_rfl)
                                      refine Step.val _ rfl rfl (wanted_none rfl) (.int .i64 nI) w' (fun ρ hρ => ?_) (hJ.val hRS hcl hL rfl (Below.refl _ _) _ rfl)
                                      rw [hρ] at e0
                                      clear hJ hsame hdep hcl hρ hsz
                                      go_simp
                                    · intro L a w' hL hsame hsz hJ hdep hcl
                                      have e0 : a.eval (.tmp 136) = (.int .i64 nI) := eval_slot (j := 9) (by kernel_rfl) (hJ.valOf (by decide) (dep_of hdep 9 (by kernel_rfl)) rfl rfl)
                                      refine Step.val _ rfl rfl (wanted_none rfl) (.int .i64 (-nI)) w' (fun ρ hρ => ?_) (hJ.val hRS hcl hL rfl (Below.refl _ _) _ rfl)
                                      rw [hρ] at e0
                                      clear hJ hsame hdep hcl hρ hsz
                                      go_simp
                                    · intro L a w' hL hsame hsz hJ hdep hcl
                                      have e0 : a.eval (.tmp 9) = (.pointer (some ⟨gP, 0, none⟩)) := eval_base hsame (by kernel_rfl)
                                      have hb := hJ.keptBox BP.out HnBP.out
                                      have q0 : w'.cell? ⟨gP, 0, none⟩ = some (.int .i64 pd) := hb.cell 0
                                      have q1 : w'.cell? ⟨gP, 1, none⟩ = some (.int .i64 pe) := hb.cell 1
                                      have q2 : w'.cell? ⟨gP, 2, none⟩ = some (.int .i64 pf) := hb.cell 2
                                      refine Step.val _ rfl rfl (wanted_none rfl) (.agg #[.int .i64 pd, .int .i64 pe, .int .i64 pf]) w' (fun ρ hρ => ?_) (hJ.val hRS hcl hL rfl (Below.refl _ _) _ rfl)
                                      rw [hρ] at e0
                                      clear hb
                                      clear hJ hsame hdep hcl hρ hsz
                                      go_simp
                                    · intro L a w' hL hsame hsz hJ hdep hcl
                                      have e0 : a.eval (.tmp 133) = (.agg #[.int .i64 R, .int .i64 K, .slice AG (R * K) cG]) := eval_slot (j := 6) (by kernel_rfl) (hJ.valOf (by decide) (dep_of hdep 6 (by kernel_rfl)) rfl rfl)
                                      have e1 : a.eval (.tmp 134) = (.int .i64 rI) := eval_slot (j := 7) (by kernel_rfl) (hJ.valOf (by decide) (dep_of hdep 7 (by kernel_rfl)) rfl rfl)
                                      have e2 : a.eval (.tmp 135) = (.int .i64 bI) := eval_slot (j := 8) (by kernel_rfl) (hJ.valOf (by decide) (dep_of hdep 8 (by kernel_rfl)) rfl rfl)
                                      have e3 : a.eval (.tmp 137) = (.int .i64 (-nI)) := eval_slot (j := 10) (by kernel_rfl) (hJ.valOf (by decide) (dep_of hdep 10 (by kernel_rfl)) rfl rfl)
                                      have e4 : a.eval (.tmp 138) = (.agg #[.int .i64 pd, .int .i64 pe, .int .i64 pf]) := eval_slot (j := 11) (by kernel_rfl) (hJ.valOf (by decide) (dep_of hdep 11 (by kernel_rfl)) rfl rfl)
                                      refine Step.call _ rfl rfl (wanted_none rfl) 20 #[.agg #[.int .i64 R, .int .i64 K, .slice AG (R * K) cG], .int .i64 rI, .int .i64 bI, .int .i64 (-nI), .agg #[.int .i64 pd, .int .i64 pe, .int .i64 pf]] (fun ρ hρ => ?_) ?_
                                      · skip
                                        rw [hρ] at e0 e1 e2 e3 e4
                                        have ef : ρ (.func 20) = .func (.func 20) #[] #[] := (hρ _).symm
                                        clear hJ hsame hdep hcl hρ hsz
                                        go_simp
                                      · refine (r_scroll HRX.out.1 (IO.out.keptS NR.out hJ.kept) rI bI (-nI) (pd, pe, pf) (by have := HRC.out; have := HRX.out; omega)).mono ?_
                                        rintro e w2 ⟨v, rfl, hg, bb⟩
                                        exact ⟨v, rfl, hJ.grid hRS hcl hL rfl bb v hg⟩
                                    · intro L a w' hL hsame hsz hJ hdep hcl
                                      obtain ⟨sv, hsv, hso⟩ := hJ.gridOf (by decide) (dep_of hdep 5 (by kernel_rfl)) rfl
                                      obtain ⟨sA, sc, rfl, _⟩ := own_form' hso
                                      have es : a.eval (.tmp 132) = .agg #[.int .i64 ((PG.scrollI Gx rI bI (-nI) (pd, pe, pf))).rows, .int .i64 ((PG.scrollI Gx rI bI (-nI) (pd, pe, pf))).cols, .slice sA (((PG.scrollI Gx rI bI (-nI) (pd, pe, pf))).rows * ((PG.scrollI Gx rI bI (-nI) (pd, pe, pf))).cols) sc] := eval_slot (j := 5) (by kernel_rfl) hsv
                                      have hb : Box w' gG 27 #[.int .i64 R, .int .i64 K, .slice AG (R * K) cG] := hJ.old 13 rfl hL
                                      obtain ⟨m0, m1, m2, f0, f1, f2⟩ := Box.three (a := (.int .i64 R)) (b := (.int .i64 K)) (c := (.slice AG (R * K) cG)) hb
                                      have ea : a.eval (.tmp 5) = .pointer (some ⟨gG, 0, none⟩) := eval_base hsame (by kernel_rfl)
                                      refine Step.skip _ rfl (wanted_none rfl) (set3 w' gG (.int .i64 ((PG.scrollI Gx rI bI (-nI) (pd, pe, pf))).rows) (.int .i64 ((PG.scrollI Gx rI bI (-nI) (pd, pe, pf))).cols) (.slice sA (((PG.scrollI Gx rI bI (-nI) (pd, pe, pf))).rows * ((PG.scrollI Gx rI bI (-nI) (pd, pe, pf))).cols) sc)) (fun ρ hρ => ?_) (hJ.set hRS hcl hL rfl (dep_of hdep 5 (by kernel_rfl)) hsv)
                                      rw [hρ] at es ea
                                      clear hJ hsame hdep hcl hρ hsz hb hso hsv
                                      unfold set3
                                      go_simp
                                    · intro L a w' hL hsame hsz hJ hdep hcl
                                      obtain ⟨sv, hsv, hso⟩ := hJ.gridOf (by decide) (dep_of hdep 12 (by kernel_rfl)) rfl
                                      obtain ⟨sA, sc, rfl, _⟩ := own_form' hso
                                      have es : a.eval (.tmp 139) = .agg #[.int .i64 ((PG.scrollI Gx rI bI (-nI) (pd, pe, pf))).rows, .int .i64 ((PG.scrollI Gx rI bI (-nI) (pd, pe, pf))).cols, .slice sA (((PG.scrollI Gx rI bI (-nI) (pd, pe, pf))).rows * ((PG.scrollI Gx rI bI (-nI) (pd, pe, pf))).cols) sc] := eval_slot (j := 12) (by kernel_rfl) hsv
                                      have hb : Box w' gO 27 #[.int .i64 R, .int .i64 K, .slice AG (R * K) cG] := hJ.old 14 rfl hL
                                      obtain ⟨m0, m1, m2, f0, f1, f2⟩ := Box.three (a := (.int .i64 R)) (b := (.int .i64 K)) (c := (.slice AG (R * K) cG)) hb
                                      have ea : a.eval (.tmp 8) = .pointer (some ⟨gO, 0, none⟩) := eval_base hsame (by kernel_rfl)
                                      refine Step.skip _ rfl (wanted_none rfl) (set3 w' gO (.int .i64 ((PG.scrollI Gx rI bI (-nI) (pd, pe, pf))).rows) (.int .i64 ((PG.scrollI Gx rI bI (-nI) (pd, pe, pf))).cols) (.slice sA (((PG.scrollI Gx rI bI (-nI) (pd, pe, pf))).rows * ((PG.scrollI Gx rI bI (-nI) (pd, pe, pf))).cols) sc)) (fun ρ hρ => ?_) (hJ.set hRS hcl hL rfl (dep_of hdep 12 (by kernel_rfl)) hsv)
                                      rw [hρ] at es ea
                                      clear hJ hsame hdep hcl hρ hsz hb hso hsv
                                      unfold set3
                                      go_simp
                                    · intro L a w' hsame hsz hJ hall
                                      obtain ⟨u, hu, ha⟩ := act_puts hsame
                                      have h : ((GBox w' (PG.scrollI Gx rI bI (-nI) (pd, pe, pf)) gG ∧ GBox w' (PG.scrollI Gx rI bI (-nI) (pd, pe, pf)) gO)) ∧ Kept [some gG, some gO] w5 w' := by
                                        (try simp only [hu])
                                        exact (And.intro (And.intro (hJ.var4 hall 13 (by decide) rfl rfl (by decide) rfl) (hJ.var4 hall 14 (by decide) rfl rfl (by decide) rfl)) hJ.kept)
                                      have h := hide h
                                      clear hJ hall hsz hu hsame
                                      subst ha
                                      change Exit.inBlock _ _ Exit.normal (Act.put (Act.put (Act.put (Act.put (Act.put (Act.put (Act.put (Act.put (Act.put (Act.put (Act.put (Act.put (Act.put (Act.put (Act.put (putAll _ u 0 _) (some 127) (u 0)) (some 128) (u 1)) (some 129) (u 2)) (some 130) (u 3)) (some 131) (u 4)) (some 132) (u 5)) (some 133) (u 6)) (some 134) (u 7)) (some 135) (u 8)) (some 136) (u 9)) (some 137) (u 10)) (some 138) (u 11)) (some 139) (u 12)) none (u 13)) none (u 14)) _
                                      simp only [putAll]
                                      generalize u 0 = v0
                                      generalize u 1 = v1
                                      generalize u 2 = v2
                                      generalize u 3 = v3
                                      generalize u 4 = v4
                                      generalize u 5 = v5
                                      generalize u 6 = v6
                                      generalize u 7 = v7
                                      generalize u 8 = v8
                                      generalize u 9 = v9
                                      generalize u 10 = v10
                                      generalize u 11 = v11
                                      generalize u 12 = v12
                                      generalize u 13 = v13
                                      generalize u 14 = v14
                                      go_simp
                                      obtain ⟨⟨hx1, hx2⟩, hx3⟩ := h.out
                                      clear h
                                      (try simp only [Exit.then, Exit.inBlock])
                                      go_wp2_with fail
                                      go_meet
                                      exact ⟨⟨_, (PG.right_scrollI HRX.out.1 HPQ.out _ _ _), ((PG.scrollI_size ..).1.trans HRX.out.2.1), ((PG.scrollI_size ..).2.trans HRX.out.2.2.1), hx1, hx2⟩, hx3⟩
                                  · as_aux_lemma =>
                                    go_upto_region 22 with fail
                                    go_cut [] from 142 to 148 (fun wx => GBox wx (PG.eraseI Gx rI cI eI (pd, pe, pf)) gG ∧ Kept [some gG] w5 wx)
                                    case first =>
                                      as_aux_lemma =>
                                        have UE := hide (u_erase HRX.out.1 IG.out rI cI eI (pd, pe, pf) HPQ.out (by have := HRC.out; have := HRX.out; omega) (by have := HRC.out; have := HRX.out; omega))
                                        obtain ⟨m0, m1, m2, -, -, -⟩ := Box.three (a := .int .i64 R) (b := .int .i64 K) (c := .slice AG (R * K) cG) BG.out
                                        obtain ⟨q0, q1, q2, -, -, -⟩ := BP.out.three
                                        have hn0 : 0 ≤ nI := HRC.out.2.2.2.2.1
                                        have hn1 : nI ≤ 11 := HRC.out.2.2.2.2.2
                                        have heI := HEI.out.1
                                        go_wp2_with (
                                          go_at_call 22
                                          go_must (refine UE.out.mono ?_)
                                          rintro e w6 ⟨v, rfl, ⟨s, rfl, ho⟩, b6⟩
                                          obtain ⟨sA, sc, rfl, _⟩ := own_form' ho
                                          have gst := hide (gstore (S := [some gG]) (BG.out.below b6 BG.out.lt) rfl rfl rfl ⟨_, rfl, ho⟩ (Kept.of_below b6) (From.mem (by simp)))
                                          have hb6 := BG.out.below b6 BG.out.lt
                                          clear m0 m1 m2 q0 q1 q2
                                          obtain ⟨m0, m1, m2, f0, f1, f2⟩ := Box.three (a := .int .i64 R) (b := .int .i64 K) (c := .slice AG (R * K) cG) hb6
                                          unfold gv
                                          clear hb6 b6)
                                        go_meet
                                        exact gst.out
                                    case rest =>
                                      as_aux_lemma =>
                                        obtain ⟨vG, kG⟩ := hcut
                                        have VG := hide vG
                                        replace BO := hide (BO.out.kept kG (by have := DIST.out; simp; omega))
                                        replace BP := hide (BP.out.kept kG (by have := DISP.out; simp; omega))
                                        have KG5 := hide kG
                                        have NR1 := hide (show NoRow w5 [some gG] from fun x hx => by simp at hx; subst hx; exact ⟨_, _, BG.out, by decide⟩)
                                        replace IO := hide (IO.out.keptS NR1.out kG)
                                        have HGE := hide (show PG.RightG (PG.eraseI Gx rI cI eI (pd, pe, pf)) ∧ (PG.eraseI Gx rI cI eI (pd, pe, pf)).rows = R ∧ (PG.eraseI Gx rI cI eI (pd, pe, pf)).cols = K from ⟨PG.right_eraseI HRX.out.1 HPQ.out _ _ _, (PG.eraseI_size Gx rI cI eI (pd, pe, pf)).1.trans HRX.out.2.1, (PG.eraseI_size Gx rI cI eI (pd, pe, pf)).2.trans HRX.out.2.2.1⟩)
                                        clear vG kG NR1
                                        rename World => w7
                                        by_cases hw : at_ = true ∧ eI ≤ 2
                                        · obtain ⟨r, hr⟩ : ∃ r : Nat, rI = r := ⟨rI.toNat, by rcases HAT.out with ⟨_, h⟩ | ⟨h, _⟩; omega; rw [hw.1] at h; cases h⟩
                                          obtain ⟨c, hc⟩ : ∃ c : Nat, cI = c := ⟨cI.toNat, by rcases HAT.out with ⟨_, h⟩ | ⟨h, _⟩; omega; rw [hw.1] at h; cases h⟩
                                          obtain ⟨e, he⟩ : ∃ e : Nat, eI = e := ⟨eI.toNat, by have := HEI.out; omega⟩
                                          have HPL := hide (show r < R ∧ c < K ∧ e ≤ 2 from by
                                            have h2 := hw.2
                                            rcases HAT.out with ⟨_, h⟩ | ⟨h, _⟩
                                            · omega
                                            · rw [hw.1] at h; cases h)
                                          have hat1 := hw.1
                                          clear hw
                                          subst hr hc he hat1
                                          have HEN := HEI
                                          have HEN := hide HEI.out.1
                                          have HPL2 := hide (show e = 0 ∨ e = 1 ∨ e = 2 from by have := HPL.out; omega)
                                          have HER := hide (fun y (hy : y ≤ R) => PG.er_all (k := e) HRX.out.1 HPQ.out (r := r) (c := c) (by rw [HRX.out.2.1]; exact HPL.out.1) (by rw [HRX.out.2.2.1]; exact HPL.out.2.1) HPL.out.2.2 y (by rw [HRX.out.2.1]; exact hy))
                                          have HEE := hide (PG.er_end (k := e) HRX.out.1 HPQ.out (r := r) (c := c) (by rw [HRX.out.2.1]; exact HPL.out.1) (by rw [HRX.out.2.2.1]; exact HPL.out.2.1) HPL.out.2.2)
                                          have VO := hide (show GBox w7 (PG.er Gx r c e (pd, pe, pf) 0) gO from ⟨_, by show Box w7 gO _ #[.int .i64 Gx.rows, .int .i64 Gx.cols, .slice AG (R * K) cG]; rw [HRX.out.2.1, HRX.out.2.2.1]; exact BO.out, by show IsG w7 Gx (gv Gx.rows Gx.cols (.slice AG (R * K) cG)); rw [HRX.out.2.1, HRX.out.2.2.1]; exact IO.out⟩)
                                          go_wp2_with fail
                                          go_loopw [16] (fun i wr => ∃ y : Nat, y ≤ R ∧ i = .int .i64 y ∧ Hid (GBox wr (PG.er Gx r c e (pd, pe, pf) y) gO) ∧ Hid (Kept [some gO] w7 wr)) (fun i _ => R - (intOf i).toNat)
                                          case atStart => exact ⟨0, Nat.zero_le _, rfl, VO, hide (Kept.refl _ _)⟩
                                          case round =>
                                            clear VO
                                            obtain ⟨y, hyR, rfl, VO, ky⟩ := hrel
                                            obtain ⟨hy1, hy2, hy3, -⟩ := HER.out y hyR
                                            have hy2 := hy2.trans HRX.out.2.1
                                            have hy3 := hy3.trans HRX.out.2.2.1
                                            obtain ⟨AO, cO, hbo, -, -, -, hio⟩ := VO.out.open_ hy2 hy3
                                            have BOy := hide (show Box wr gO 27 #[.int .i64 R, .int .i64 K, .slice AO (R * K) cO] from hbo)
                                            have hn0 : 0 ≤ nI := HRC.out.2.2.2.2.1
                                            have hn1 : nI ≤ 11 := HRC.out.2.2.2.2.2
                                            by_cases hlt : y < R
                                            · have BPy := hide (BP.out.kept ky.out (by have := DISP.out; simp; omega))
                                              obtain ⟨m0, m1, m2, -, -, -⟩ := Box.three (a := .int .i64 R) (b := .int .i64 K) (c := .slice AO (R * K) cO) BOy.out
                                              obtain ⟨q0, q1, q2, -, -, -⟩ := BPy.out.three
                                              have HYR := hide hlt
                                              have hy5 : y < 5 := by have := HRX.out; omega
                                              have hc9 : c ≤ 9 := by have := HRX.out; have := HPL.out; omega
                                              have RW : ∀ (a b : Int), PG.erA r c e y = a → PG.erB r c e K y = b → -1000 ≤ a ∧ a ≤ 1000 → -1000 ≤ b ∧ b ≤ 1000 → ∀ w', Below wr.heap.size wr w' → Calls Tryd.prog 23 #[.agg #[.int .i64 R, .int .i64 K, .slice AO (R * K) cO], .int .i64 y, .int .i64 a, .int .i64 b, .agg #[.int .i64 pd, .int .i64 pe, .int .i64 pf]] w' (GotG w' (PG.er Gx r c e (pd, pe, pf) (y + 1))) := fun a b ha hb h1 h2 w' hbw => by
                                                have h := r_wipe hy1 (hio.low hbw) y a b (pd, pe, pf) h1 h2
                                                have e' : PG.er Gx r c e (pd, pe, pf) (y + 1) = PG.wipeI (PG.er Gx r c e (pd, pe, pf) y) y a b (pd, pe, pf) := by
                                                  show PG.wipeI _ _ (PG.erA r c e y) (PG.erB r c e Gx.cols y) _ = _
                                                  rw [HRX.out.2.2.1, ha, hb]
                                                rw [e']
                                                exact h
                                              have RW := hide RW
                                              have hyI : (y : Int) < (R : Int) := by omega
                                              clear hy1 hbo hio hlt
                                              rcases HPL2.out with rfl | rfl | rfl
                                              · have h4 : nI % 4 = 0 := HEN.out
                                                rcases Nat.lt_trichotomy y r with h | h | h
                                                · as_aux_lemma =>
                                                  have h1 : (y : Int) < (r : Int) := by omega
                                                  have RWc := hide (RW.out 0 0 (by unfold PG.erA; rw [if_pos (by omega)]) (by unfold PG.erB; rw [if_pos (by omega)]) (by omega) (by omega))
                                                  go_upto_region 26 with fail
                                                  go_quiet (fail)
                                                  go_wp2_with (
                                                    go_at_call 23
                                                    go_must (refine (RWc.out _ (below_drewN (Below.refl _ _) _)).mono ?_)
                                                    rintro e6 w6 ⟨v, rfl, ⟨s, rfl, ho⟩, b6⟩
                                                    have b6 : Below wr.heap.size wr w6 := (below_drewN (Below.refl _ _) _).trans b6
                                                    obtain ⟨sA, sc, rfl, _⟩ := own_form' ho
                                                    have gst := hide (gstore (S := [some gO]) (BOy.out.below b6 BOy.out.lt) rfl rfl rfl ⟨_, rfl, ho⟩ (ky.out.below b6) (From.mem (by simp)))
                                                    have hb6 := BOy.out.below b6 BOy.out.lt
                                                    clear m0 m1 m2 q0 q1 q2
                                                    obtain ⟨m0, m1, m2, f0, f1, f2⟩ := Box.three (a := .int .i64 R) (b := .int .i64 K) (c := .slice AO (R * K) cO) hb6
                                                    unfold gv
                                                    clear hb6 b6)
                                                  go_roundw
                                                  case rel => exact ⟨y + 1, HYR.out, by go_num, hide gst.out.1, hide gst.out.2⟩
                                                  case measure => exact meas_plays HYR.out
                                                · as_aux_lemma =>
                                                  subst h
                                                  have RWc := hide (RW.out c K (by unfold PG.erA; rw [if_neg (by omega), if_pos (by omega)]) (by unfold PG.erB; rw [if_neg (by omega), if_neg (by omega)]) (by omega) (by have := HRX.out; omega))
                                                  go_upto_region 26 with fail
                                                  go_quiet (fail)
                                                  go_wp2_with (
                                                    go_at_call 23
                                                    go_must (refine (RWc.out _ (below_drewN (Below.refl _ _) _)).mono ?_)
                                                    rintro e6 w6 ⟨v, rfl, ⟨s, rfl, ho⟩, b6⟩
                                                    have b6 : Below wr.heap.size wr w6 := (below_drewN (Below.refl _ _) _).trans b6
                                                    obtain ⟨sA, sc, rfl, _⟩ := own_form' ho
                                                    have gst := hide (gstore (S := [some gO]) (BOy.out.below b6 BOy.out.lt) rfl rfl rfl ⟨_, rfl, ho⟩ (ky.out.below b6) (From.mem (by simp)))
                                                    have hb6 := BOy.out.below b6 BOy.out.lt
                                                    clear m0 m1 m2 q0 q1 q2
                                                    obtain ⟨m0, m1, m2, f0, f1, f2⟩ := Box.three (a := .int .i64 R) (b := .int .i64 K) (c := .slice AO (R * K) cO) hb6
                                                    unfold gv
                                                    clear hb6 b6)
                                                  go_roundw
                                                  case rel => exact ⟨y + 1, HYR.out, by go_num, hide gst.out.1, hide gst.out.2⟩
                                                  case measure => exact meas_plays HYR.out
                                                · as_aux_lemma =>
                                                  have h1 : ¬ (y : Int) < (r : Int) := by omega
                                                  have h2 : ((y : Int) == (r : Int)) = false := by simp; omega
                                                  have RWc := hide (RW.out 0 K (by unfold PG.erA; rw [if_neg (by omega), if_neg (by omega)]) (by unfold PG.erB; rw [if_neg (by omega), if_neg (by omega)]) (by omega) (by have := HRX.out; omega))
                                                  go_upto_region 26 with fail
                                                  go_quiet (fail)
                                                  go_wp2_with (
                                                    go_at_call 23
                                                    go_must (refine (RWc.out _ (below_drewN (Below.refl _ _) _)).mono ?_)
                                                    rintro e6 w6 ⟨v, rfl, ⟨s, rfl, ho⟩, b6⟩
                                                    have b6 : Below wr.heap.size wr w6 := (below_drewN (Below.refl _ _) _).trans b6
                                                    obtain ⟨sA, sc, rfl, _⟩ := own_form' ho
                                                    have gst := hide (gstore (S := [some gO]) (BOy.out.below b6 BOy.out.lt) rfl rfl rfl ⟨_, rfl, ho⟩ (ky.out.below b6) (From.mem (by simp)))
                                                    have hb6 := BOy.out.below b6 BOy.out.lt
                                                    clear m0 m1 m2 q0 q1 q2
                                                    obtain ⟨m0, m1, m2, f0, f1, f2⟩ := Box.three (a := .int .i64 R) (b := .int .i64 K) (c := .slice AO (R * K) cO) hb6
                                                    unfold gv
                                                    clear hb6 b6)
                                                  go_roundw
                                                  case rel => exact ⟨y + 1, HYR.out, by go_num, hide gst.out.1, hide gst.out.2⟩
                                                  case measure => exact meas_plays HYR.out
                                              · have h4 : nI % 4 = 1 := HEN.out
                                                rcases Nat.lt_trichotomy y r with h | h | h
                                                · as_aux_lemma =>
                                                  have h1 : ¬ (r : Int) < (y : Int) := by omega
                                                  have h2 : ((y : Int) == (r : Int)) = false := by simp; omega
                                                  have RWc := hide (RW.out 0 K (by unfold PG.erA; rw [if_neg (by omega), if_neg (by omega)]) (by unfold PG.erB; rw [if_neg (by omega), if_neg (by omega)]) (by omega) (by have := HRX.out; omega))
                                                  go_upto_region 26 with fail
                                                  go_quiet (fail)
                                                  go_wp2_with (
                                                    go_at_call 23
                                                    go_must (refine (RWc.out _ (below_drewN (Below.refl _ _) _)).mono ?_)
                                                    rintro e6 w6 ⟨v, rfl, ⟨s, rfl, ho⟩, b6⟩
                                                    have b6 : Below wr.heap.size wr w6 := (below_drewN (Below.refl _ _) _).trans b6
                                                    obtain ⟨sA, sc, rfl, _⟩ := own_form' ho
                                                    have gst := hide (gstore (S := [some gO]) (BOy.out.below b6 BOy.out.lt) rfl rfl rfl ⟨_, rfl, ho⟩ (ky.out.below b6) (From.mem (by simp)))
                                                    have hb6 := BOy.out.below b6 BOy.out.lt
                                                    clear m0 m1 m2 q0 q1 q2
                                                    obtain ⟨m0, m1, m2, f0, f1, f2⟩ := Box.three (a := .int .i64 R) (b := .int .i64 K) (c := .slice AO (R * K) cO) hb6
                                                    unfold gv
                                                    clear hb6 b6)
                                                  go_roundw
                                                  case rel => exact ⟨y + 1, HYR.out, by go_num, hide gst.out.1, hide gst.out.2⟩
                                                  case measure => exact meas_plays HYR.out
                                                · as_aux_lemma =>
                                                  subst h
                                                  have RWc := hide (RW.out 0 (c + 1) (by unfold PG.erA; rw [if_neg (by omega), if_neg (by omega)]) (by unfold PG.erB; rw [if_neg (by omega), if_pos (by omega)]) (by omega) (by omega))
                                                  go_upto_region 26 with fail
                                                  go_quiet (fail)
                                                  go_wp2_with (
                                                    go_at_call 23
                                                    go_must (refine (RWc.out _ (below_drewN (Below.refl _ _) _)).mono ?_)
                                                    rintro e6 w6 ⟨v, rfl, ⟨s, rfl, ho⟩, b6⟩
                                                    have b6 : Below wr.heap.size wr w6 := (below_drewN (Below.refl _ _) _).trans b6
                                                    obtain ⟨sA, sc, rfl, _⟩ := own_form' ho
                                                    have gst := hide (gstore (S := [some gO]) (BOy.out.below b6 BOy.out.lt) rfl rfl rfl ⟨_, rfl, ho⟩ (ky.out.below b6) (From.mem (by simp)))
                                                    have hb6 := BOy.out.below b6 BOy.out.lt
                                                    clear m0 m1 m2 q0 q1 q2
                                                    obtain ⟨m0, m1, m2, f0, f1, f2⟩ := Box.three (a := .int .i64 R) (b := .int .i64 K) (c := .slice AO (R * K) cO) hb6
                                                    unfold gv
                                                    clear hb6 b6)
                                                  go_roundw
                                                  case rel => exact ⟨y + 1, HYR.out, by go_num, hide gst.out.1, hide gst.out.2⟩
                                                  case measure => exact meas_plays HYR.out
                                                · as_aux_lemma =>
                                                  have h1 : (r : Int) < (y : Int) := by omega
                                                  have RWc := hide (RW.out 0 0 (by unfold PG.erA; rw [if_pos (by omega)]) (by unfold PG.erB; rw [if_pos (by omega)]) (by omega) (by omega))
                                                  go_upto_region 26 with fail
                                                  go_quiet (fail)
                                                  go_wp2_with (
                                                    go_at_call 23
                                                    go_must (refine (RWc.out _ (below_drewN (Below.refl _ _) _)).mono ?_)
                                                    rintro e6 w6 ⟨v, rfl, ⟨s, rfl, ho⟩, b6⟩
                                                    have b6 : Below wr.heap.size wr w6 := (below_drewN (Below.refl _ _) _).trans b6
                                                    obtain ⟨sA, sc, rfl, _⟩ := own_form' ho
                                                    have gst := hide (gstore (S := [some gO]) (BOy.out.below b6 BOy.out.lt) rfl rfl rfl ⟨_, rfl, ho⟩ (ky.out.below b6) (From.mem (by simp)))
                                                    have hb6 := BOy.out.below b6 BOy.out.lt
                                                    clear m0 m1 m2 q0 q1 q2
                                                    obtain ⟨m0, m1, m2, f0, f1, f2⟩ := Box.three (a := .int .i64 R) (b := .int .i64 K) (c := .slice AO (R * K) cO) hb6
                                                    unfold gv
                                                    clear hb6 b6)
                                                  go_roundw
                                                  case rel => exact ⟨y + 1, HYR.out, by go_num, hide gst.out.1, hide gst.out.2⟩
                                                  case measure => exact meas_plays HYR.out
                                              · as_aux_lemma =>
                                                have h4 : nI % 4 = 2 := HEN.out
                                                have RWc := hide (RW.out 0 K (by unfold PG.erA; rw [if_neg (by omega), if_neg (by omega)]) (by unfold PG.erB; rw [if_neg (by omega), if_neg (by omega)]) (by omega) (by have := HRX.out; omega))
                                                go_upto_region 26 with fail
                                                go_quiet (fail)
                                                go_wp2_with (
                                                  go_at_call 23
                                                  go_must (refine (RWc.out _ (below_drewN (Below.refl _ _) _)).mono ?_)
                                                  rintro e6 w6 ⟨v, rfl, ⟨s, rfl, ho⟩, b6⟩
                                                  have b6 : Below wr.heap.size wr w6 := (below_drewN (Below.refl _ _) _).trans b6
                                                  obtain ⟨sA, sc, rfl, _⟩ := own_form' ho
                                                  have gst := hide (gstore (S := [some gO]) (BOy.out.below b6 BOy.out.lt) rfl rfl rfl ⟨_, rfl, ho⟩ (ky.out.below b6) (From.mem (by simp)))
                                                  have hb6 := BOy.out.below b6 BOy.out.lt
                                                  clear m0 m1 m2 q0 q1 q2
                                                  obtain ⟨m0, m1, m2, f0, f1, f2⟩ := Box.three (a := .int .i64 R) (b := .int .i64 K) (c := .slice AO (R * K) cO) hb6
                                                  unfold gv
                                                  clear hb6 b6)
                                                go_roundw
                                                case rel => exact ⟨y + 1, HYR.out, by go_num, hide gst.out.1, hide gst.out.2⟩
                                                case measure => exact meas_plays HYR.out
                                            · obtain rfl : y = R := by omega
                                              have m0 : wr.cell? ⟨gO, 0, none⟩ = some (.int .i64 y) := BOy.out.cell 0
                                              have HO2 := hide (show GBox wr (PG.eraseI Gx r c e (pd, pe, pf)) gO from VO.out.alike (by have h := HEE.out; rw [HRX.out.2.1] at h; exact h))
                                              have VG2 := hide (VG.out.keptS (show NoRow w7 [some gO] from fun x hx => by simp at hx; subst hx; exact ⟨_, _, BO.out, by decide⟩) ky.out (by have := DIST.out; simp; omega))
                                              have KK := hide (Kept.trans (L := [some gG, some gO]) (KG5.out.more (by simp)) ky.out (fun x hx => From.mem (by simp at hx; simp [hx])))
                                              go_wp2_with fail
                                              go_meet
                                              exact ⟨⟨_, HGE.out.1, HGE.out.2.1, HGE.out.2.2, VG2.out, HO2.out⟩, KK.out⟩
                                        · have hge : PG.eraseI Gx rI cI eI (pd, pe, pf) = Gx := PG.eraseI_out (fun x => hw (by rcases HAT.out with ⟨h, _⟩ | ⟨_, h⟩; exact ⟨h, x.2.2⟩; exact absurd (by have := HRX.out; have := x.1; omega) h))
                                          have hno : at_ = false ∨ (at_ = true ∧ nI % 4 = 3) := by
                                            have h := HEI.out
                                            cases at_ with
                                            | false => exact .inl rfl
                                            | true => exact .inr ⟨rfl, by have h3 : ¬ eI ≤ 2 := fun x => hw ⟨rfl, x⟩; omega⟩
                                          have VGx := hide (show GBox w7 Gx gG from hge ▸ VG.out)
                                          have VOx := hide (show GBox w7 Gx gO from ⟨_, by rw [HRX.out.2.1, HRX.out.2.2.1]; exact BO.out, by rw [HRX.out.2.1, HRX.out.2.2.1]; exact IO.out⟩)
                                          have KK := hide (KG5.out.more (L' := [some gG, some gO]) (by simp))
                                          have m0 : w7.cell? ⟨gO, 0, none⟩ = some (.int .i64 R) := BO.out.cell 0
                                          have hn0 : 0 ≤ nI := HRC.out.2.2.2.2.1
                                          have hn1 : nI ≤ 11 := HRC.out.2.2.2.2.2
                                          have hR1 : (0 : Int) < (R : Int) := by have := HRX.out; omega
                                          clear hge hw
                                          rcases hno with rfl | ⟨rfl, h4⟩
                                          · go_wp2_with fail
                                            go_loopw [16] (fun i wr => i = .int .i64 0 ∧ wr = w7) (fun _ _ => 0)
                                            case atStart => exact ⟨rfl, rfl⟩
                                            case round =>
                                              obtain ⟨rfl, rfl⟩ := hrel
                                              go_wp2_with fail
                                              go_meet
                                              exact ⟨⟨Gx, HRX.out.1, HRX.out.2.1, HRX.out.2.2.1, VGx.out, VOx.out⟩, KK.out⟩
                                          · go_wp2_with fail
                                            go_loopw [16] (fun i wr => i = .int .i64 0 ∧ wr = w7) (fun _ _ => 0)
                                            case atStart => exact ⟨rfl, rfl⟩
                                            case round =>
                                              obtain ⟨rfl, rfl⟩ := hrel
                                              go_wp2_with fail
                                              go_meet
                                              exact ⟨⟨Gx, HRX.out.1, HRX.out.2.1, HRX.out.2.2.1, VGx.out, VOx.out⟩, KK.out⟩
                                  · as_aux_lemma =>
                                    go_upto_region 35 with fail
                                    go_cut [] from 213 to 219 (fun wx => GBox wx (PG.lineI Gx rI cI eI (pd, pe, pf)) gG ∧ Kept [some gG] w5 wx)
                                    case first =>
                                      as_aux_lemma =>
                                        have UE := hide (u_line HRX.out.1 IG.out rI cI eI (pd, pe, pf) HPQ.out (by have := HRC.out; have := HRX.out; omega) (by have := HRC.out; have := HRX.out; omega))
                                        obtain ⟨m0, m1, m2, -, -, -⟩ := Box.three (a := .int .i64 R) (b := .int .i64 K) (c := .slice AG (R * K) cG) BG.out
                                        obtain ⟨q0, q1, q2, -, -, -⟩ := BP.out.three
                                        have hn0 : 0 ≤ nI := HRC.out.2.2.2.2.1
                                        have hn1 : nI ≤ 11 := HRC.out.2.2.2.2.2
                                        have heI := HEI.out.1
                                        go_wp2_with (
                                          go_at_call 24
                                          go_must (refine UE.out.mono ?_)
                                          rintro e w6 ⟨v, rfl, ⟨s, rfl, ho⟩, b6⟩
                                          obtain ⟨sA, sc, rfl, _⟩ := own_form' ho
                                          have gst := hide (gstore (S := [some gG]) (BG.out.below b6 BG.out.lt) rfl rfl rfl ⟨_, rfl, ho⟩ (Kept.of_below b6) (From.mem (by simp)))
                                          have hb6 := BG.out.below b6 BG.out.lt
                                          clear m0 m1 m2 q0 q1 q2
                                          obtain ⟨m0, m1, m2, f0, f1, f2⟩ := Box.three (a := .int .i64 R) (b := .int .i64 K) (c := .slice AG (R * K) cG) hb6
                                          unfold gv
                                          clear hb6 b6)
                                        go_meet
                                        exact gst.out
                                    case rest =>
                                      as_aux_lemma =>
                                        obtain ⟨vG, kG⟩ := hcut
                                        have VG := hide vG
                                        replace BO := hide (BO.out.kept kG (by have := DIST.out; simp; omega))
                                        replace BP := hide (BP.out.kept kG (by have := DISP.out; simp; omega))
                                        have KG5 := hide kG
                                        have NR1 := hide (show NoRow w5 [some gG] from fun x hx => by simp at hx; subst hx; exact ⟨_, _, BG.out, by decide⟩)
                                        replace IO := hide (IO.out.keptS NR1.out kG)
                                        have HGE := hide (show PG.RightG (PG.lineI Gx rI cI eI (pd, pe, pf)) ∧ (PG.lineI Gx rI cI eI (pd, pe, pf)).rows = R ∧ (PG.lineI Gx rI cI eI (pd, pe, pf)).cols = K from ⟨PG.right_lineI HRX.out.1 HPQ.out _ _ _, (PG.lineI_size Gx rI cI eI (pd, pe, pf)).1.trans HRX.out.2.1, (PG.lineI_size Gx rI cI eI (pd, pe, pf)).2.trans HRX.out.2.2.1⟩)
                                        clear vG kG NR1
                                        rename World => w7
                                        by_cases hw : at_ = true ∧ eI ≤ 2
                                        · obtain ⟨r, hr⟩ : ∃ r : Nat, rI = r := ⟨rI.toNat, by rcases HAT.out with ⟨_, h⟩ | ⟨h, _⟩; omega; rw [hw.1] at h; cases h⟩
                                          obtain ⟨c, hc⟩ : ∃ c : Nat, cI = c := ⟨cI.toNat, by rcases HAT.out with ⟨_, h⟩ | ⟨h, _⟩; omega; rw [hw.1] at h; cases h⟩
                                          obtain ⟨e, he⟩ : ∃ e : Nat, eI = e := ⟨eI.toNat, by have := HEI.out; omega⟩
                                          have HPL := hide (show r < R ∧ c < K ∧ e ≤ 2 from by
                                            have h2 := hw.2
                                            rcases HAT.out with ⟨_, h⟩ | ⟨h, _⟩
                                            · omega
                                            · rw [hw.1] at h; cases h)
                                          have hat1 := hw.1
                                          clear hw
                                          subst hr hc he hat1
                                          have HEN := HEI
                                          have HEN := hide HEI.out.1
                                          have HPL2 := hide (show e = 0 ∨ e = 1 ∨ e = 2 from by have := HPL.out; omega)
                                          have HIN := hide (show 0 ≤ (r : Int) ∧ (r : Int) < Gx.rows ∧ 0 ≤ (c : Int) ∧ (c : Int) < Gx.cols from by rw [HRX.out.2.1, HRX.out.2.2.1]; have := HPL.out; omega)
                                          have hn0 : 0 ≤ nI := HRC.out.2.2.2.2.1
                                          have hn1 : nI ≤ 11 := HRC.out.2.2.2.2.2
                                          have hc9 : c ≤ 9 := by have := HRX.out; have := HPL.out; omega
                                          have hK9 : K ≤ 9 := by have := HRX.out; omega
                                          have wc1 : IntKind.i64.wrap ((c : Int) + 1) = (c : Int) + 1 := IntWalk.i64_in _ (by omega)
                                          rcases HPL2.out with rfl | rfl | rfl
                                          · as_aux_lemma =>
                                            have h4 : nI % 4 = 0 := HEN.out
                                            have RWL := hide (show ∀ (w' : World), IsG w' Gx (.agg #[.int .i64 R, .int .i64 K, .slice AG (R * K) cG]) → Calls Tryd.prog 23 #[.agg #[.int .i64 R, .int .i64 K, .slice AG (R * K) cG], .int .i64 r, .int .i64 c, .int .i64 K, .agg #[.int .i64 pd, .int .i64 pe, .int .i64 pf]] w' (GotG w' (PG.lineI Gx r c 0 (pd, pe, pf))) from fun w' h => by
                                              have h := r_wipe HRX.out.1 h r c K (pd, pe, pf) (by omega) (by omega)
                                              rw [PG.lineI_0 HIN.out, HRX.out.2.2.1]
                                              exact h)
                                            have h4t : nI.tmod 4 = 0 := (Int.tmod_eq_emod_of_nonneg hn0).trans h4
                                            go_upto_region 37 with fail
                                            refine wp_region_vals (n := 273) (QJ (fun wx => GBox wx (PG.lineI Gx r c 0 (pd, pe, pf)) gO ∧ Kept [some gO] w7 wx) w7 (PG.lineI Gx r c 0 (pd, pe, pf)) #[.int .i64 c, .int .i64 0, .int .i64 0] #[.int .i64 K, .int .i64 ((c : Int) + 1), .int .i64 K] 0 (fun j => [(.agg #[.int .i64 R, .int .i64 K, .slice AG (R * K) cG]), (.int .i64 r), (.int .i64 c), undef, (.int .i64 nI), (.int .i64 0), undef, (.int .i64 (c : Int)), (.pointer (some ⟨gO, 1, none⟩)), (.int .i64 K), (.int .i64 c), (.int .i64 ((c : Int) + 1)), (.pointer (some ⟨gO, 1, none⟩)), (.int .i64 K), undef, (.int .i64 nI), (.int .i64 0), undef, (.int .i64 (K : Int)), (.agg #[.int .i64 pd, .int .i64 pe, .int .i64 pf])].getD j undef)) (by kernel_rfl) (by kernel_rfl) (by kernel_rfl) rfl (fun L u u' wx he hj => ⟨hj.1, fun h => (hj.2 h).same he⟩) (cases22 ⟨?_, ?_, ?_, ?_, ?_, ?_, ?_, ?_, ?_, ?_, ?_, ?_, ?_, ?_, ?_, ?_, ?_, ?_, ?_, ?_, ?_, ?_⟩) ?_ ⟨(fun h => by cases h), fun _ => ⟨(Below.refl _ _).drew, (fun j _ h => by cases h), (fun h => by cases h), (fun h => by cases h), (fun h => by cases h), (fun h => by cases h), (fun h => by cases h)⟩⟩
                                            · intro L a w' hL hsame hsz hJ hdep hcl
                                              have hf : L 21 = false := not_cameE hcl hL (by kernel_rfl)
                                              have hR := hJ.2 hf
                                              have e0 : a.eval (.tmp 8) = (.pointer (some ⟨gO, 0, none⟩)) := eval_base hsame (by kernel_rfl)
                                              obtain ⟨q0, q1, q2, -, -, -⟩ := Box.three (a := .int .i64 R) (b := .int .i64 K) (c := .slice AG (R * K) cG) (BO.out.below hR.bel BO.out.lt)
                                              refine Step.val _ rfl rfl (wanted_none rfl) (.agg #[.int .i64 R, .int .i64 K, .slice AG (R * K) cG]) w' (fun ρ hρ => ?_) (QJ.step (by decide) hf (hR.step (Below.refl _ _) (fun _ _ _ _ _ => rfl) (fun h => absurd h (by decide)) (fun h => absurd h (by decide)) (fun h => absurd h (by decide)) (fun h => absurd h (by decide)) (fun h => absurd h (by decide))))
                                              rw [hρ] at e0
                                              clear hJ hsame hdep hcl hρ hsz hR hf
                                              go_simp
                                            · intro L a w' hL hsame hsz hJ hdep hcl
                                              have hf : L 21 = false := not_cameE hcl hL (by kernel_rfl)
                                              have hR := hJ.2 hf
                                              have e0 : a.eval (.tmp 10) = (.int .i64 r) := eval_base hsame (by kernel_rfl)
                                              refine Step.val _ rfl rfl (wanted_none rfl) (.int .i64 r) w' (fun ρ hρ => ?_) (QJ.step (by decide) hf (hR.step (Below.refl _ _) (fun _ _ _ _ _ => rfl) (fun h => absurd h (by decide)) (fun h => absurd h (by decide)) (fun h => absurd h (by decide)) (fun h => absurd h (by decide)) (fun h => absurd h (by decide))))
                                              rw [hρ] at e0
                                              clear hJ hsame hdep hcl hρ hsz hR hf
                                              go_simp
                                            · intro L a w' hL hsame hsz hJ hdep hcl
                                              have hf : L 21 = false := not_cameE hcl hL (by kernel_rfl)
                                              have hR := hJ.2 hf
                                              have e0 : a.eval (.tmp 11) = (.int .i64 c) := eval_base hsame (by kernel_rfl)
                                              refine Step.val _ rfl rfl (wanted_none rfl) (.int .i64 c) w' (fun ρ hρ => ?_) (QJ.step (by decide) hf (hR.step (Below.refl _ _) (fun _ _ _ _ _ => rfl) (fun h => absurd h (by decide)) (fun h => absurd h (by decide)) (fun h => absurd h (by decide)) (fun h => absurd h (by decide)) (fun h => absurd h (by decide))))
                                              rw [hρ] at e0
                                              clear hJ hsame hdep hcl hρ hsz hR hf
                                              go_simp
                                            · intro L a w' hL hsame hsz hJ hdep hcl
                                              have hf : L 21 = false := not_cameE hcl hL (by kernel_rfl)
                                              have hR := hJ.2 hf
                                              have e0 : a.eval (.tmp 228) = (.int .i64 c) := eval_slot (j := 2) (by kernel_rfl) (hR.all 2 (by decide) (dep_of hdep 2 (by kernel_rfl)) (by decide) (by decide) (by decide) (by decide))
                                              refine Step.val _ rfl rfl (wanted_none rfl) (.slice (some ⟨w'.heap.size, 0, none⟩) 3 3) (w'.alloc (.cells #[.int .i64 c, .int .i64 0, .int .i64 0] 3)) (fun ρ hρ => ?_) (QJ.step (by decide) hf (hR.step ((Below.refl _ _).alloc (Nat.le_refl _) _) (fun _ h => absurd rfl h) (fun _ => ⟨_, rfl, Box.new _ _ _⟩) (fun h => absurd h (by decide)) (fun h => absurd h (by decide)) (fun h => absurd h (by decide)) (fun h => absurd h (by decide))))
                                              rw [hρ] at e0
                                              have ec0 : ρ (.const (.int .i64 0)) = (.int .i64 0) := (hρ _).symm
                                              clear hJ hsame hdep hcl hρ hsz hR hf
                                              go_simp
                                            · intro L a w' hL hsame hsz hJ hdep hcl
                                              have hf : L 21 = false := not_cameE hcl hL (by kernel_rfl)
                                              have hR := hJ.2 hf
                                              have e0 : a.eval (.tmp 12) = (.int .i64 nI) := eval_base hsame (by kernel_rfl)
                                              refine Step.val _ rfl rfl (wanted_none rfl) (.int .i64 nI) w' (fun ρ hρ => ?_) (QJ.step (by decide) hf (hR.step (Below.refl _ _) (fun _ _ _ _ _ => rfl) (fun h => absurd h (by decide)) (fun h => absurd h (by decide)) (fun h => absurd h (by decide)) (fun h => absurd h (by decide)) (fun h => absurd h (by decide))))
                                              rw [hρ] at e0
                                              clear hJ hsame hdep hcl hρ hsz hR hf
                                              go_simp
                                            · intro L a w' hL hsame hsz hJ hdep hcl
                                              have hf : L 21 = false := not_cameE hcl hL (by kernel_rfl)
                                              have hR := hJ.2 hf
                                              have e0 : a.eval (.tmp 230) = (.int .i64 nI) := eval_slot (j := 4) (by kernel_rfl) (hR.all 4 (by decide) (dep_of hdep 4 (by kernel_rfl)) (by decide) (by decide) (by decide) (by decide))
                                              refine Step.val _ rfl rfl (wanted_none rfl) (.int .i64 0) w' (fun ρ hρ => ?_) (QJ.step (by decide) hf (hR.step (Below.refl _ _) (fun _ _ _ _ _ => rfl) (fun h => absurd h (by decide)) (fun h => absurd h (by decide)) (fun h => absurd h (by decide)) (fun h => absurd h (by decide)) (fun h => absurd h (by decide))))
                                              rw [hρ] at e0
                                              have ec1 : ρ (.const (.int .i64 4)) = (.int .i64 4) := (hρ _).symm
                                              clear hJ hsame hdep hcl hρ hsz hR hf
                                              go_simp
                                            · intro L a w' hL hsame hsz hJ hdep hcl
                                              have hf : L 21 = false := not_cameE hcl hL (by kernel_rfl)
                                              have hR := hJ.2 hf
                                              obtain ⟨g, hg, hbx⟩ := hR.s1 (dep_of hdep 3 (by kernel_rfl))
                                              have e0 : a.eval (.tmp 229) = .slice (some ⟨g, 0, none⟩) 3 3 := eval_slot (j := 3) (by kernel_rfl) hg
                                              have e1 : a.eval (.tmp 231) = (.int .i64 0) := eval_slot (j := 5) (by kernel_rfl) (hR.all 5 (by decide) (dep_of hdep 5 (by kernel_rfl)) (by decide) (by decide) (by decide) (by decide))
                                              refine Step.val _ rfl rfl (wanted_none rfl) (.pointer (some ⟨g, 0, none⟩)) w' (fun ρ hρ => ?_) (QJ.step (by decide) hf (hR.step (Below.refl _ _) (fun _ _ h => absurd rfl h) (fun h => absurd h (by decide)) (fun _ => ⟨g, rfl, hbx⟩) (fun h => absurd h (by decide)) (fun h => absurd h (by decide)) (fun h => absurd h (by decide))))
                                              rw [hρ] at e0 e1
                                              clear hJ hsame hdep hcl hρ hsz hR hf hg hbx
                                              go_simp
                                            · intro L a w' hL hsame hsz hJ hdep hcl
                                              have hf : L 21 = false := not_cameE hcl hL (by kernel_rfl)
                                              have hR := hJ.2 hf
                                              obtain ⟨g, hg, hbx⟩ := hR.p1 (dep_of hdep 6 (by kernel_rfl))
                                              have e0 : a.eval (.tmp 232) = .pointer (some ⟨g, 0, none⟩) := eval_slot (j := 6) (by kernel_rfl) hg
                                              have q0 : w'.cell? ⟨g, 0, none⟩ = some (.int .i64 (c : Int)) := hbx.cell 0
                                              refine Step.val _ rfl rfl (wanted_none rfl) (.int .i64 (c : Int)) w' (fun ρ hρ => ?_) (QJ.step (by decide) hf (hR.step (Below.refl _ _) (fun _ _ _ _ _ => rfl) (fun h => absurd h (by decide)) (fun h => absurd h (by decide)) (fun h => absurd h (by decide)) (fun h => absurd h (by decide)) (fun h => absurd h (by decide))))
                                              rw [hρ] at e0
                                              clear hJ hsame hdep hcl hρ hsz hR hf hg hbx
                                              go_simp
                                            · intro L a w' hL hsame hsz hJ hdep hcl
                                              have hf : L 21 = false := not_cameE hcl hL (by kernel_rfl)
                                              have hR := hJ.2 hf
                                              have e0 : a.eval (.tmp 8) = (.pointer (some ⟨gO, 0, none⟩)) := eval_base hsame (by kernel_rfl)
                                              refine Step.val _ rfl rfl (wanted_none rfl) (.pointer (some ⟨gO, 1, none⟩)) w' (fun ρ hρ => ?_) (QJ.step (by decide) hf (hR.step (Below.refl _ _) (fun _ _ _ _ _ => rfl) (fun h => absurd h (by decide)) (fun h => absurd h (by decide)) (fun h => absurd h (by decide)) (fun h => absurd h (by decide)) (fun h => absurd h (by decide))))
                                              rw [hρ] at e0
                                              clear hJ hsame hdep hcl hρ hsz hR hf
                                              go_simp
                                            · intro L a w' hL hsame hsz hJ hdep hcl
                                              have hf : L 21 = false := not_cameE hcl hL (by kernel_rfl)
                                              have hR := hJ.2 hf
                                              have e0 : a.eval (.tmp 234) = (.pointer (some ⟨gO, 1, none⟩)) := eval_slot (j := 8) (by kernel_rfl) (hR.all 8 (by decide) (dep_of hdep 8 (by kernel_rfl)) (by decide) (by decide) (by decide) (by decide))
                                              have q1 : w'.cell? ⟨gO, 1, none⟩ = some (.int .i64 K) := (BO.out.below hR.bel BO.out.lt).cell 1
                                              refine Step.val _ rfl rfl (wanted_none rfl) (.int .i64 K) w' (fun ρ hρ => ?_) (QJ.step (by decide) hf (hR.step (Below.refl _ _) (fun _ _ _ _ _ => rfl) (fun h => absurd h (by decide)) (fun h => absurd h (by decide)) (fun h => absurd h (by decide)) (fun h => absurd h (by decide)) (fun h => absurd h (by decide))))
                                              rw [hρ] at e0
                                              clear hJ hsame hdep hcl hρ hsz hR hf
                                              go_simp
                                            · intro L a w' hL hsame hsz hJ hdep hcl
                                              have hf : L 21 = false := not_cameE hcl hL (by kernel_rfl)
                                              have hR := hJ.2 hf
                                              have e0 : a.eval (.tmp 11) = (.int .i64 c) := eval_base hsame (by kernel_rfl)
                                              refine Step.val _ rfl rfl (wanted_none rfl) (.int .i64 c) w' (fun ρ hρ => ?_) (QJ.step (by decide) hf (hR.step (Below.refl _ _) (fun _ _ _ _ _ => rfl) (fun h => absurd h (by decide)) (fun h => absurd h (by decide)) (fun h => absurd h (by decide)) (fun h => absurd h (by decide)) (fun h => absurd h (by decide))))
                                              rw [hρ] at e0
                                              clear hJ hsame hdep hcl hρ hsz hR hf
                                              go_simp
                                            · intro L a w' hL hsame hsz hJ hdep hcl
                                              have hf : L 21 = false := not_cameE hcl hL (by kernel_rfl)
                                              have hR := hJ.2 hf
                                              have e0 : a.eval (.tmp 236) = (.int .i64 c) := eval_slot (j := 10) (by kernel_rfl) (hR.all 10 (by decide) (dep_of hdep 10 (by kernel_rfl)) (by decide) (by decide) (by decide) (by decide))
                                              refine Step.val _ rfl rfl (wanted_none rfl) (.int .i64 ((c : Int) + 1)) w' (fun ρ hρ => ?_) (QJ.step (by decide) hf (hR.step (Below.refl _ _) (fun _ _ _ _ _ => rfl) (fun h => absurd h (by decide)) (fun h => absurd h (by decide)) (fun h => absurd h (by decide)) (fun h => absurd h (by decide)) (fun h => absurd h (by decide))))
                                              rw [hρ] at e0
                                              have ec1 : ρ (.const (.int .i64 1)) = (.int .i64 1) := (hρ _).symm
                                              clear hJ hsame hdep hcl hρ hsz hR hf
                                              go_simp
                                            · intro L a w' hL hsame hsz hJ hdep hcl
                                              have hf : L 21 = false := not_cameE hcl hL (by kernel_rfl)
                                              have hR := hJ.2 hf
                                              have e0 : a.eval (.tmp 8) = (.pointer (some ⟨gO, 0, none⟩)) := eval_base hsame (by kernel_rfl)
                                              refine Step.val _ rfl rfl (wanted_none rfl) (.pointer (some ⟨gO, 1, none⟩)) w' (fun ρ hρ => ?_) (QJ.step (by decide) hf (hR.step (Below.refl _ _) (fun _ _ _ _ _ => rfl) (fun h => absurd h (by decide)) (fun h => absurd h (by decide)) (fun h => absurd h (by decide)) (fun h => absurd h (by decide)) (fun h => absurd h (by decide))))
                                              rw [hρ] at e0
                                              clear hJ hsame hdep hcl hρ hsz hR hf
                                              go_simp
                                            · intro L a w' hL hsame hsz hJ hdep hcl
                                              have hf : L 21 = false := not_cameE hcl hL (by kernel_rfl)
                                              have hR := hJ.2 hf
                                              have e0 : a.eval (.tmp 238) = (.pointer (some ⟨gO, 1, none⟩)) := eval_slot (j := 12) (by kernel_rfl) (hR.all 12 (by decide) (dep_of hdep 12 (by kernel_rfl)) (by decide) (by decide) (by decide) (by decide))
                                              have q1 : w'.cell? ⟨gO, 1, none⟩ = some (.int .i64 K) := (BO.out.below hR.bel BO.out.lt).cell 1
                                              refine Step.val _ rfl rfl (wanted_none rfl) (.int .i64 K) w' (fun ρ hρ => ?_) (QJ.step (by decide) hf (hR.step (Below.refl _ _) (fun _ _ _ _ _ => rfl) (fun h => absurd h (by decide)) (fun h => absurd h (by decide)) (fun h => absurd h (by decide)) (fun h => absurd h (by decide)) (fun h => absurd h (by decide))))
                                              rw [hρ] at e0
                                              clear hJ hsame hdep hcl hρ hsz hR hf
                                              go_simp
                                            · intro L a w' hL hsame hsz hJ hdep hcl
                                              have hf : L 21 = false := not_cameE hcl hL (by kernel_rfl)
                                              have hR := hJ.2 hf
                                              have e0 : a.eval (.tmp 235) = (.int .i64 K) := eval_slot (j := 9) (by kernel_rfl) (hR.all 9 (by decide) (dep_of hdep 9 (by kernel_rfl)) (by decide) (by decide) (by decide) (by decide))
                                              have e1 : a.eval (.tmp 237) = (.int .i64 ((c : Int) + 1)) := eval_slot (j := 11) (by kernel_rfl) (hR.all 11 (by decide) (dep_of hdep 11 (by kernel_rfl)) (by decide) (by decide) (by decide) (by decide))
                                              have e2 : a.eval (.tmp 239) = (.int .i64 K) := eval_slot (j := 13) (by kernel_rfl) (hR.all 13 (by decide) (dep_of hdep 13 (by kernel_rfl)) (by decide) (by decide) (by decide) (by decide))
                                              refine Step.val _ rfl rfl (wanted_none rfl) (.slice (some ⟨w'.heap.size, 0, none⟩) 3 3) (w'.alloc (.cells #[.int .i64 K, .int .i64 ((c : Int) + 1), .int .i64 K] 3)) (fun ρ hρ => ?_) (QJ.step (by decide) hf (hR.step ((Below.refl _ _).alloc (Nat.le_refl _) _) (fun _ _ _ h => absurd rfl h) (fun h => absurd h (by decide)) (fun h => absurd h (by decide)) (fun _ => ⟨_, rfl, Box.new _ _ _⟩) (fun h => absurd h (by decide)) (fun h => absurd h (by decide))))
                                              rw [hρ] at e0 e1 e2
                                              clear hJ hsame hdep hcl hρ hsz hR hf
                                              go_simp
                                            · intro L a w' hL hsame hsz hJ hdep hcl
                                              have hf : L 21 = false := not_cameE hcl hL (by kernel_rfl)
                                              have hR := hJ.2 hf
                                              have e0 : a.eval (.tmp 12) = (.int .i64 nI) := eval_base hsame (by kernel_rfl)
                                              refine Step.val _ rfl rfl (wanted_none rfl) (.int .i64 nI) w' (fun ρ hρ => ?_) (QJ.step (by decide) hf (hR.step (Below.refl _ _) (fun _ _ _ _ _ => rfl) (fun h => absurd h (by decide)) (fun h => absurd h (by decide)) (fun h => absurd h (by decide)) (fun h => absurd h (by decide)) (fun h => absurd h (by decide))))
                                              rw [hρ] at e0
                                              clear hJ hsame hdep hcl hρ hsz hR hf
                                              go_simp
                                            · intro L a w' hL hsame hsz hJ hdep hcl
                                              have hf : L 21 = false := not_cameE hcl hL (by kernel_rfl)
                                              have hR := hJ.2 hf
                                              have e0 : a.eval (.tmp 241) = (.int .i64 nI) := eval_slot (j := 15) (by kernel_rfl) (hR.all 15 (by decide) (dep_of hdep 15 (by kernel_rfl)) (by decide) (by decide) (by decide) (by decide))
                                              refine Step.val _ rfl rfl (wanted_none rfl) (.int .i64 0) w' (fun ρ hρ => ?_) (QJ.step (by decide) hf (hR.step (Below.refl _ _) (fun _ _ _ _ _ => rfl) (fun h => absurd h (by decide)) (fun h => absurd h (by decide)) (fun h => absurd h (by decide)) (fun h => absurd h (by decide)) (fun h => absurd h (by decide))))
                                              rw [hρ] at e0
                                              have ec1 : ρ (.const (.int .i64 4)) = (.int .i64 4) := (hρ _).symm
                                              clear hJ hsame hdep hcl hρ hsz hR hf
                                              go_simp
                                            · intro L a w' hL hsame hsz hJ hdep hcl
                                              have hf : L 21 = false := not_cameE hcl hL (by kernel_rfl)
                                              have hR := hJ.2 hf
                                              obtain ⟨g, hg, hbx⟩ := hR.s2 (dep_of hdep 14 (by kernel_rfl))
                                              have e0 : a.eval (.tmp 240) = .slice (some ⟨g, 0, none⟩) 3 3 := eval_slot (j := 14) (by kernel_rfl) hg
                                              have e1 : a.eval (.tmp 242) = (.int .i64 0) := eval_slot (j := 16) (by kernel_rfl) (hR.all 16 (by decide) (dep_of hdep 16 (by kernel_rfl)) (by decide) (by decide) (by decide) (by decide))
                                              refine Step.val _ rfl rfl (wanted_none rfl) (.pointer (some ⟨g, 0, none⟩)) w' (fun ρ hρ => ?_) (QJ.step (by decide) hf (hR.step (Below.refl _ _) (fun _ _ _ _ h => absurd rfl h) (fun h => absurd h (by decide)) (fun h => absurd h (by decide)) (fun h => absurd h (by decide)) (fun _ => ⟨g, rfl, hbx⟩) (fun h => absurd h (by decide))))
                                              rw [hρ] at e0 e1
                                              clear hJ hsame hdep hcl hρ hsz hR hf hg hbx
                                              go_simp
                                            · intro L a w' hL hsame hsz hJ hdep hcl
                                              have hf : L 21 = false := not_cameE hcl hL (by kernel_rfl)
                                              have hR := hJ.2 hf
                                              obtain ⟨g, hg, hbx⟩ := hR.p2 (dep_of hdep 17 (by kernel_rfl))
                                              have e0 : a.eval (.tmp 243) = .pointer (some ⟨g, 0, none⟩) := eval_slot (j := 17) (by kernel_rfl) hg
                                              have q0 : w'.cell? ⟨g, 0, none⟩ = some (.int .i64 (K : Int)) := hbx.cell 0
                                              refine Step.val _ rfl rfl (wanted_none rfl) (.int .i64 (K : Int)) w' (fun ρ hρ => ?_) (QJ.step (by decide) hf (hR.step (Below.refl _ _) (fun _ _ _ _ _ => rfl) (fun h => absurd h (by decide)) (fun h => absurd h (by decide)) (fun h => absurd h (by decide)) (fun h => absurd h (by decide)) (fun h => absurd h (by decide))))
                                              rw [hρ] at e0
                                              clear hJ hsame hdep hcl hρ hsz hR hf hg hbx
                                              go_simp
                                            · intro L a w' hL hsame hsz hJ hdep hcl
                                              have hf : L 21 = false := not_cameE hcl hL (by kernel_rfl)
                                              have hR := hJ.2 hf
                                              have e0 : a.eval (.tmp 9) = (.pointer (some ⟨gP, 0, none⟩)) := eval_base hsame (by kernel_rfl)
                                              obtain ⟨q0, q1, q2, -, -, -⟩ := (BP.out.below hR.bel BP.out.lt).three
                                              refine Step.val _ rfl rfl (wanted_none rfl) (.agg #[.int .i64 pd, .int .i64 pe, .int .i64 pf]) w' (fun ρ hρ => ?_) (QJ.step (by decide) hf (hR.step (Below.refl _ _) (fun _ _ _ _ _ => rfl) (fun h => absurd h (by decide)) (fun h => absurd h (by decide)) (fun h => absurd h (by decide)) (fun h => absurd h (by decide)) (fun h => absurd h (by decide))))
                                              rw [hρ] at e0
                                              clear hJ hsame hdep hcl hρ hsz hR hf
                                              go_simp
                                            · intro L a w' hL hsame hsz hJ hdep hcl
                                              have hf : L 21 = false := not_cameE hcl hL (by kernel_rfl)
                                              have hR := hJ.2 hf
                                              have e0 : a.eval (.tmp 226) = (.agg #[.int .i64 R, .int .i64 K, .slice AG (R * K) cG]) := eval_slot (j := 0) (by kernel_rfl) (hR.all 0 (by decide) (dep_of hdep 0 (by kernel_rfl)) (by decide) (by decide) (by decide) (by decide))
                                              have e1 : a.eval (.tmp 227) = (.int .i64 r) := eval_slot (j := 1) (by kernel_rfl) (hR.all 1 (by decide) (dep_of hdep 1 (by kernel_rfl)) (by decide) (by decide) (by decide) (by decide))
                                              have e2 : a.eval (.tmp 233) = (.int .i64 (c : Int)) := eval_slot (j := 7) (by kernel_rfl) (hR.all 7 (by decide) (dep_of hdep 7 (by kernel_rfl)) (by decide) (by decide) (by decide) (by decide))
                                              have e3 : a.eval (.tmp 244) = (.int .i64 (K : Int)) := eval_slot (j := 18) (by kernel_rfl) (hR.all 18 (by decide) (dep_of hdep 18 (by kernel_rfl)) (by decide) (by decide) (by decide) (by decide))
                                              have e4 : a.eval (.tmp 245) = (.agg #[.int .i64 pd, .int .i64 pe, .int .i64 pf]) := eval_slot (j := 19) (by kernel_rfl) (hR.all 19 (by decide) (dep_of hdep 19 (by kernel_rfl)) (by decide) (by decide) (by decide) (by decide))
                                              refine Step.call _ rfl rfl (wanted_none rfl) 23 #[.agg #[.int .i64 R, .int .i64 K, .slice AG (R * K) cG], .int .i64 r, .int .i64 (c : Int), .int .i64 (K : Int), .agg #[.int .i64 pd, .int .i64 pe, .int .i64 pf]] (fun ρ hρ => ?_) ?_
                                              · skip
                                                rw [hρ] at e0 e1 e2 e3 e4
                                                have ef : ρ (.func 23) = .func (.func 23) #[] #[] := (hρ _).symm
                                                clear hJ hsame hdep hcl hρ hsz hR hf
                                                go_simp
                                              · refine (RWL.out _ (IO.out.low hR.bel)).mono ?_
                                                rintro e6 w2 ⟨v, rfl, hg, bb⟩
                                                exact ⟨v, rfl, (QJ.step (by decide) hf (hR.step bb (fun h => absurd h (by decide)) (fun h => absurd h (by decide)) (fun h => absurd h (by decide)) (fun h => absurd h (by decide)) (fun h => absurd h (by decide)) (fun _ => hg)))⟩
                                            · intro L a w' hL hsame hsz hJ hdep hcl
                                              have hR := hJ.2 hL
                                              obtain ⟨s, hsv, hso⟩ := hR.gr (dep_of hdep 20 (by kernel_rfl))
                                              obtain ⟨sA, sc, rfl, _⟩ := own_form' hso
                                              obtain ⟨m0, m1, m2, f0, f1, f2⟩ := Box.three (a := .int .i64 R) (b := .int .i64 K) (c := .slice AG (R * K) cG) (BO.out.below hR.bel BO.out.lt)
                                              have es : a.eval (.tmp 246) = .agg #[.int .i64 (PG.lineI Gx r c 0 (pd, pe, pf)).rows, .int .i64 (PG.lineI Gx r c 0 (pd, pe, pf)).cols, .slice sA ((PG.lineI Gx r c 0 (pd, pe, pf)).rows * (PG.lineI Gx r c 0 (pd, pe, pf)).cols) sc] := eval_slot (j := 20) (by kernel_rfl) hsv
                                              have ea : a.eval (.tmp 8) = .pointer (some ⟨gO, 0, none⟩) := eval_base hsame (by kernel_rfl)
                                              have gst := gstore (S := [some gO]) (G := (PG.lineI Gx r c 0 (pd, pe, pf))) (BO.out.below hR.bel BO.out.lt) rfl rfl rfl ⟨_, rfl, hso⟩ (Kept.of_below hR.bel) (From.mem (by simp))
                                              refine Step.skip _ rfl (wanted_none rfl) (set3 w' gO (.int .i64 (PG.lineI Gx r c 0 (pd, pe, pf)).rows) (.int .i64 (PG.lineI Gx r c 0 (pd, pe, pf)).cols) (.slice sA ((PG.lineI Gx r c 0 (pd, pe, pf)).rows * (PG.lineI Gx r c 0 (pd, pe, pf)).cols) sc)) (fun ρ hρ => ?_) ⟨fun _ => gst, (fun h => by rw [mark_self] at h; cases h)⟩
                                              rw [hρ] at es ea
                                              clear hJ hsame hdep hcl hρ hsz hR hsv hso gst
                                              unfold set3
                                              go_simp
                                            · intro L a w' hsame hsz hJ hall
                                              obtain ⟨u, hu, ha⟩ := act_puts hsame
                                              have h := hide (hJ.1 (hall 21 (by decide)))
                                              clear hJ hall hsz hu hsame
                                              subst ha
                                              first | change Exit.inBlock _ _ Exit.normal (Act.put (Act.put (Act.put (Act.put (Act.put (Act.put (Act.put (Act.put (Act.put (Act.put (Act.put (Act.put (Act.put (Act.put (Act.put (Act.put (Act.put (Act.put (Act.put (Act.put (Act.put (Act.put (putAll _ u 0 _) (some 226) (u 0)) (some 227) (u 1)) (some 228) (u 2)) (some 229) (u 3)) (some 230) (u 4)) (some 231) (u 5)) (some 232) (u 6)) (some 233) (u 7)) (some 234) (u 8)) (some 235) (u 9)) (some 236) (u 10)) (some 237) (u 11)) (some 238) (u 12)) (some 239) (u 13)) (some 240) (u 14)) (some 241) (u 15)) (some 242) (u 16)) (some 243) (u 17)) (some 244) (u 18)) (some 245) (u 19)) (some 246) (u 20)) none (u 21)) _ | change Exit.then _ _ Exit.normal (Act.put (Act.put (Act.put (Act.put (Act.put (Act.put (Act.put (Act.put (Act.put (Act.put (Act.put (Act.put (Act.put (Act.put (Act.put (Act.put (Act.put (Act.put (Act.put (Act.put (Act.put (Act.put (putAll _ u 0 _) (some 226) (u 0)) (some 227) (u 1)) (some 228) (u 2)) (some 229) (u 3)) (some 230) (u 4)) (some 231) (u 5)) (some 232) (u 6)) (some 233) (u 7)) (some 234) (u 8)) (some 235) (u 9)) (some 236) (u 10)) (some 237) (u 11)) (some 238) (u 12)) (some 239) (u 13)) (some 240) (u 14)) (some 241) (u 15)) (some 242) (u 16)) (some 243) (u 17)) (some 244) (u 18)) (some 245) (u 19)) (some 246) (u 20)) none (u 21)) _
                                              simp only [putAll]
                                              generalize u 0 = v0
                                              generalize u 1 = v1
                                              generalize u 2 = v2
                                              generalize u 3 = v3
                                              generalize u 4 = v4
                                              generalize u 5 = v5
                                              generalize u 6 = v6
                                              generalize u 7 = v7
                                              generalize u 8 = v8
                                              generalize u 9 = v9
                                              generalize u 10 = v10
                                              generalize u 11 = v11
                                              generalize u 12 = v12
                                              generalize u 13 = v13
                                              generalize u 14 = v14
                                              generalize u 15 = v15
                                              generalize u 16 = v16
                                              generalize u 17 = v17
                                              generalize u 18 = v18
                                              generalize u 19 = v19
                                              generalize u 20 = v20
                                              generalize u 21 = v21
                                              go_simp
                                              (try simp only [Exit.then, Exit.inBlock])
                                              have VG2 := hide (VG.out.keptS (show NoRow w7 [some gO] from fun x hx => by simp at hx; subst hx; exact ⟨_, _, BO.out, by decide⟩) h.out.2 (by have := DIST.out; simp; omega))
                                              have KK := hide (Kept.trans (L := [some gG, some gO]) (KG5.out.more (by simp)) h.out.2 (fun x hx => From.mem (by simp at hx; simp [hx])))
                                              go_wp2_with fail
                                              go_meet
                                              exact ⟨⟨_, HGE.out.1, HGE.out.2.1, HGE.out.2.2, VG2.out, h.out.1⟩, KK.out⟩
                                          · as_aux_lemma =>
                                            have h4 : nI % 4 = 1 := HEN.out
                                            have RWL := hide (show ∀ (w' : World), IsG w' Gx (.agg #[.int .i64 R, .int .i64 K, .slice AG (R * K) cG]) → Calls Tryd.prog 23 #[.agg #[.int .i64 R, .int .i64 K, .slice AG (R * K) cG], .int .i64 r, .int .i64 0, .int .i64 (c + 1), .agg #[.int .i64 pd, .int .i64 pe, .int .i64 pf]] w' (GotG w' (PG.lineI Gx r c 1 (pd, pe, pf))) from fun w' h => by
                                              have h := r_wipe HRX.out.1 h r 0 (c + 1) (pd, pe, pf) (by omega) (by omega)
                                              rw [PG.lineI_1 HIN.out]
                                              exact h)
                                            have h4t : nI.tmod 4 = 1 := (Int.tmod_eq_emod_of_nonneg hn0).trans h4
                                            go_upto_region 37 with fail
                                            refine wp_region_vals (n := 273) (QJ (fun wx => GBox wx (PG.lineI Gx r c 1 (pd, pe, pf)) gO ∧ Kept [some gO] w7 wx) w7 (PG.lineI Gx r c 1 (pd, pe, pf)) #[.int .i64 c, .int .i64 0, .int .i64 0] #[.int .i64 K, .int .i64 ((c : Int) + 1), .int .i64 K] 1 (fun j => [(.agg #[.int .i64 R, .int .i64 K, .slice AG (R * K) cG]), (.int .i64 r), (.int .i64 c), undef, (.int .i64 nI), (.int .i64 1), undef, (.int .i64 0), (.pointer (some ⟨gO, 1, none⟩)), (.int .i64 K), (.int .i64 c), (.int .i64 ((c : Int) + 1)), (.pointer (some ⟨gO, 1, none⟩)), (.int .i64 K), undef, (.int .i64 nI), (.int .i64 1), undef, (.int .i64 ((c : Int) + 1)), (.agg #[.int .i64 pd, .int .i64 pe, .int .i64 pf])].getD j undef)) (by kernel_rfl) (by kernel_rfl) (by kernel_rfl) rfl (fun L u u' wx he hj => ⟨hj.1, fun h => (hj.2 h).same he⟩) (cases22 ⟨?_, ?_, ?_, ?_, ?_, ?_, ?_, ?_, ?_, ?_, ?_, ?_, ?_, ?_, ?_, ?_, ?_, ?_, ?_, ?_, ?_, ?_⟩) ?_ ⟨(fun h => by cases h), fun _ => ⟨(Below.refl _ _).drew, (fun j _ h => by cases h), (fun h => by cases h), (fun h => by cases h), (fun h => by cases h), (fun h => by cases h), (fun h => by cases h)⟩⟩
                                            · intro L a w' hL hsame hsz hJ hdep hcl
                                              have hf : L 21 = false := not_cameE hcl hL (by kernel_rfl)
                                              have hR := hJ.2 hf
                                              have e0 : a.eval (.tmp 8) = (.pointer (some ⟨gO, 0, none⟩)) := eval_base hsame (by kernel_rfl)
                                              obtain ⟨q0, q1, q2, -, -, -⟩ := Box.three (a := .int .i64 R) (b := .int .i64 K) (c := .slice AG (R * K) cG) (BO.out.below hR.bel BO.out.lt)
                                              refine Step.val _ rfl rfl (wanted_none rfl) (.agg #[.int .i64 R, .int .i64 K, .slice AG (R * K) cG]) w' (fun ρ hρ => ?_) (QJ.step (by decide) hf (hR.step (Below.refl _ _) (fun _ _ _ _ _ => rfl) (fun h => absurd h (by decide)) (fun h => absurd h (by decide)) (fun h => absurd h (by decide)) (fun h => absurd h (by decide)) (fun h => absurd h (by decide))))
                                              rw [hρ] at e0
                                              clear hJ hsame hdep hcl hρ hsz hR hf
                                              go_simp
                                            · intro L a w' hL hsame hsz hJ hdep hcl
                                              have hf : L 21 = false := not_cameE hcl hL (by kernel_rfl)
                                              have hR := hJ.2 hf
                                              have e0 : a.eval (.tmp 10) = (.int .i64 r) := eval_base hsame (by kernel_rfl)
                                              refine Step.val _ rfl rfl (wanted_none rfl) (.int .i64 r) w' (fun ρ hρ => ?_) (QJ.step (by decide) hf (hR.step (Below.refl _ _) (fun _ _ _ _ _ => rfl) (fun h => absurd h (by decide)) (fun h => absurd h (by decide)) (fun h => absurd h (by decide)) (fun h => absurd h (by decide)) (fun h => absurd h (by decide))))
                                              rw [hρ] at e0
                                              clear hJ hsame hdep hcl hρ hsz hR hf
                                              go_simp
                                            · intro L a w' hL hsame hsz hJ hdep hcl
                                              have hf : L 21 = false := not_cameE hcl hL (by kernel_rfl)
                                              have hR := hJ.2 hf
                                              have e0 : a.eval (.tmp 11) = (.int .i64 c) := eval_base hsame (by kernel_rfl)
                                              refine Step.val _ rfl rfl (wanted_none rfl) (.int .i64 c) w' (fun ρ hρ => ?_) (QJ.step (by decide) hf (hR.step (Below.refl _ _) (fun _ _ _ _ _ => rfl) (fun h => absurd h (by decide)) (fun h => absurd h (by decide)) (fun h => absurd h (by decide)) (fun h => absurd h (by decide)) (fun h => absurd h (by decide))))
                                              rw [hρ] at e0
                                              clear hJ hsame hdep hcl hρ hsz hR hf
                                              go_simp
                                            · intro L a w' hL hsame hsz hJ hdep hcl
                                              have hf : L 21 = false := not_cameE hcl hL (by kernel_rfl)
                                              have hR := hJ.2 hf
                                              have e0 : a.eval (.tmp 228) = (.int .i64 c) := eval_slot (j := 2) (by kernel_rfl) (hR.all 2 (by decide) (dep_of hdep 2 (by kernel_rfl)) (by decide) (by decide) (by decide) (by decide))
                                              refine Step.val _ rfl rfl (wanted_none rfl) (.slice (some ⟨w'.heap.size, 0, none⟩) 3 3) (w'.alloc (.cells #[.int .i64 c, .int .i64 0, .int .i64 0] 3)) (fun ρ hρ => ?_) (QJ.step (by decide) hf (hR.step ((Below.refl _ _).alloc (Nat.le_refl _) _) (fun _ h => absurd rfl h) (fun _ => ⟨_, rfl, Box.new _ _ _⟩) (fun h => absurd h (by decide)) (fun h => absurd h (by decide)) (fun h => absurd h (by decide)) (fun h => absurd h (by decide))))
                                              rw [hρ] at e0
                                              have ec0 : ρ (.const (.int .i64 0)) = (.int .i64 0) := (hρ _).symm
                                              clear hJ hsame hdep hcl hρ hsz hR hf
                                              go_simp
                                            · intro L a w' hL hsame hsz hJ hdep hcl
                                              have hf : L 21 = false := not_cameE hcl hL (by kernel_rfl)
                                              have hR := hJ.2 hf
                                              have e0 : a.eval (.tmp 12) = (.int .i64 nI) := eval_base hsame (by kernel_rfl)
                                              refine Step.val _ rfl rfl (wanted_none rfl) (.int .i64 nI) w' (fun ρ hρ => ?_) (QJ.step (by decide) hf (hR.step (Below.refl _ _) (fun _ _ _ _ _ => rfl) (fun h => absurd h (by decide)) (fun h => absurd h (by decide)) (fun h => absurd h (by decide)) (fun h => absurd h (by decide)) (fun h => absurd h (by decide))))
                                              rw [hρ] at e0
                                              clear hJ hsame hdep hcl hρ hsz hR hf
                                              go_simp
                                            · intro L a w' hL hsame hsz hJ hdep hcl
                                              have hf : L 21 = false := not_cameE hcl hL (by kernel_rfl)
                                              have hR := hJ.2 hf
                                              have e0 : a.eval (.tmp 230) = (.int .i64 nI) := eval_slot (j := 4) (by kernel_rfl) (hR.all 4 (by decide) (dep_of hdep 4 (by kernel_rfl)) (by decide) (by decide) (by decide) (by decide))
                                              refine Step.val _ rfl rfl (wanted_none rfl) (.int .i64 1) w' (fun ρ hρ => ?_) (QJ.step (by decide) hf (hR.step (Below.refl _ _) (fun _ _ _ _ _ => rfl) (fun h => absurd h (by decide)) (fun h => absurd h (by decide)) (fun h => absurd h (by decide)) (fun h => absurd h (by decide)) (fun h => absurd h (by decide))))
                                              rw [hρ] at e0
                                              have ec1 : ρ (.const (.int .i64 4)) = (.int .i64 4) := (hρ _).symm
                                              clear hJ hsame hdep hcl hρ hsz hR hf
                                              go_simp
                                            · intro L a w' hL hsame hsz hJ hdep hcl
                                              have hf : L 21 = false := not_cameE hcl hL (by kernel_rfl)
                                              have hR := hJ.2 hf
                                              obtain ⟨g, hg, hbx⟩ := hR.s1 (dep_of hdep 3 (by kernel_rfl))
                                              have e0 : a.eval (.tmp 229) = .slice (some ⟨g, 0, none⟩) 3 3 := eval_slot (j := 3) (by kernel_rfl) hg
                                              have e1 : a.eval (.tmp 231) = (.int .i64 1) := eval_slot (j := 5) (by kernel_rfl) (hR.all 5 (by decide) (dep_of hdep 5 (by kernel_rfl)) (by decide) (by decide) (by decide) (by decide))
                                              refine Step.val _ rfl rfl (wanted_none rfl) (.pointer (some ⟨g, 1, none⟩)) w' (fun ρ hρ => ?_) (QJ.step (by decide) hf (hR.step (Below.refl _ _) (fun _ _ h => absurd rfl h) (fun h => absurd h (by decide)) (fun _ => ⟨g, rfl, hbx⟩) (fun h => absurd h (by decide)) (fun h => absurd h (by decide)) (fun h => absurd h (by decide))))
                                              rw [hρ] at e0 e1
                                              clear hJ hsame hdep hcl hρ hsz hR hf hg hbx
                                              go_simp
                                            · intro L a w' hL hsame hsz hJ hdep hcl
                                              have hf : L 21 = false := not_cameE hcl hL (by kernel_rfl)
                                              have hR := hJ.2 hf
                                              obtain ⟨g, hg, hbx⟩ := hR.p1 (dep_of hdep 6 (by kernel_rfl))
                                              have e0 : a.eval (.tmp 232) = .pointer (some ⟨g, 1, none⟩) := eval_slot (j := 6) (by kernel_rfl) hg
                                              have q0 : w'.cell? ⟨g, 1, none⟩ = some (.int .i64 0) := hbx.cell 1
                                              refine Step.val _ rfl rfl (wanted_none rfl) (.int .i64 0) w' (fun ρ hρ => ?_) (QJ.step (by decide) hf (hR.step (Below.refl _ _) (fun _ _ _ _ _ => rfl) (fun h => absurd h (by decide)) (fun h => absurd h (by decide)) (fun h => absurd h (by decide)) (fun h => absurd h (by decide)) (fun h => absurd h (by decide))))
                                              rw [hρ] at e0
                                              clear hJ hsame hdep hcl hρ hsz hR hf hg hbx
                                              go_simp
                                            · intro L a w' hL hsame hsz hJ hdep hcl
                                              have hf : L 21 = false := not_cameE hcl hL (by kernel_rfl)
                                              have hR := hJ.2 hf
                                              have e0 : a.eval (.tmp 8) = (.pointer (some ⟨gO, 0, none⟩)) := eval_base hsame (by kernel_rfl)
                                              refine Step.val _ rfl rfl (wanted_none rfl) (.pointer (some ⟨gO, 1, none⟩)) w' (fun ρ hρ => ?_) (QJ.step (by decide) hf (hR.step (Below.refl _ _) (fun _ _ _ _ _ => rfl) (fun h => absurd h (by decide)) (fun h => absurd h (by decide)) (fun h => absurd h (by decide)) (fun h => absurd h (by decide)) (fun h => absurd h (by decide))))
                                              rw [hρ] at e0
                                              clear hJ hsame hdep hcl hρ hsz hR hf
                                              go_simp
                                            · intro L a w' hL hsame hsz hJ hdep hcl
                                              have hf : L 21 = false := not_cameE hcl hL (by kernel_rfl)
                                              have hR := hJ.2 hf
                                              have e0 : a.eval (.tmp 234) = (.pointer (some ⟨gO, 1, none⟩)) := eval_slot (j := 8) (by kernel_rfl) (hR.all 8 (by decide) (dep_of hdep 8 (by kernel_rfl)) (by decide) (by decide) (by decide) (by decide))
                                              have q1 : w'.cell? ⟨gO, 1, none⟩ = some (.int .i64 K) := (BO.out.below hR.bel BO.out.lt).cell 1
                                              refine Step.val _ rfl rfl (wanted_none rfl) (.int .i64 K) w' (fun ρ hρ => ?_) (QJ.step (by decide) hf (hR.step (Below.refl _ _) (fun _ _ _ _ _ => rfl) (fun h => absurd h (by decide)) (fun h => absurd h (by decide)) (fun h => absurd h (by decide)) (fun h => absurd h (by decide)) (fun h => absurd h (by decide))))
                                              rw [hρ] at e0
                                              clear hJ hsame hdep hcl hρ hsz hR hf
                                              go_simp
                                            · intro L a w' hL hsame hsz hJ hdep hcl
                                              have hf : L 21 = false := not_cameE hcl hL (by kernel_rfl)
                                              have hR := hJ.2 hf
                                              have e0 : a.eval (.tmp 11) = (.int .i64 c) := eval_base hsame (by kernel_rfl)
                                              refine Step.val _ rfl rfl (wanted_none rfl) (.int .i64 c) w' (fun ρ hρ => ?_) (QJ.step (by decide) hf (hR.step (Below.refl _ _) (fun _ _ _ _ _ => rfl) (fun h => absurd h (by decide)) (fun h => absurd h (by decide)) (fun h => absurd h (by decide)) (fun h => absurd h (by decide)) (fun h => absurd h (by decide))))
                                              rw [hρ] at e0
                                              clear hJ hsame hdep hcl hρ hsz hR hf
                                              go_simp
                                            · intro L a w' hL hsame hsz hJ hdep hcl
                                              have hf : L 21 = false := not_cameE hcl hL (by kernel_rfl)
                                              have hR := hJ.2 hf
                                              have e0 : a.eval (.tmp 236) = (.int .i64 c) := eval_slot (j := 10) (by kernel_rfl) (hR.all 10 (by decide) (dep_of hdep 10 (by kernel_rfl)) (by decide) (by decide) (by decide) (by decide))
                                              refine Step.val _ rfl rfl (wanted_none rfl) (.int .i64 ((c : Int) + 1)) w' (fun ρ hρ => ?_) (QJ.step (by decide) hf (hR.step (Below.refl _ _) (fun _ _ _ _ _ => rfl) (fun h => absurd h (by decide)) (fun h => absurd h (by decide)) (fun h => absurd h (by decide)) (fun h => absurd h (by decide)) (fun h => absurd h (by decide))))
                                              rw [hρ] at e0
                                              have ec1 : ρ (.const (.int .i64 1)) = (.int .i64 1) := (hρ _).symm
                                              clear hJ hsame hdep hcl hρ hsz hR hf
                                              go_simp
                                            · intro L a w' hL hsame hsz hJ hdep hcl
                                              have hf : L 21 = false := not_cameE hcl hL (by kernel_rfl)
                                              have hR := hJ.2 hf
                                              have e0 : a.eval (.tmp 8) = (.pointer (some ⟨gO, 0, none⟩)) := eval_base hsame (by kernel_rfl)
                                              refine Step.val _ rfl rfl (wanted_none rfl) (.pointer (some ⟨gO, 1, none⟩)) w' (fun ρ hρ => ?_) (QJ.step (by decide) hf (hR.step (Below.refl _ _) (fun _ _ _ _ _ => rfl) (fun h => absurd h (by decide)) (fun h => absurd h (by decide)) (fun h => absurd h (by decide)) (fun h => absurd h (by decide)) (fun h => absurd h (by decide))))
                                              rw [hρ] at e0
                                              clear hJ hsame hdep hcl hρ hsz hR hf
                                              go_simp
                                            · intro L a w' hL hsame hsz hJ hdep hcl
                                              have hf : L 21 = false := not_cameE hcl hL (by kernel_rfl)
                                              have hR := hJ.2 hf
                                              have e0 : a.eval (.tmp 238) = (.pointer (some ⟨gO, 1, none⟩)) := eval_slot (j := 12) (by kernel_rfl) (hR.all 12 (by decide) (dep_of hdep 12 (by kernel_rfl)) (by decide) (by decide) (by decide) (by decide))
                                              have q1 : w'.cell? ⟨gO, 1, none⟩ = some (.int .i64 K) := (BO.out.below hR.bel BO.out.lt).cell 1
                                              refine Step.val _ rfl rfl (wanted_none rfl) (.int .i64 K) w' (fun ρ hρ => ?_) (QJ.step (by decide) hf (hR.step (Below.refl _ _) (fun _ _ _ _ _ => rfl) (fun h => absurd h (by decide)) (fun h => absurd h (by decide)) (fun h => absurd h (by decide)) (fun h => absurd h (by decide)) (fun h => absurd h (by decide))))
                                              rw [hρ] at e0
                                              clear hJ hsame hdep hcl hρ hsz hR hf
                                              go_simp
                                            · intro L a w' hL hsame hsz hJ hdep hcl
                                              have hf : L 21 = false := not_cameE hcl hL (by kernel_rfl)
                                              have hR := hJ.2 hf
                                              have e0 : a.eval (.tmp 235) = (.int .i64 K) := eval_slot (j := 9) (by kernel_rfl) (hR.all 9 (by decide) (dep_of hdep 9 (by kernel_rfl)) (by decide) (by decide) (by decide) (by decide))
                                              have e1 : a.eval (.tmp 237) = (.int .i64 ((c : Int) + 1)) := eval_slot (j := 11) (by kernel_rfl) (hR.all 11 (by decide) (dep_of hdep 11 (by kernel_rfl)) (by decide) (by decide) (by decide) (by decide))
                                              have e2 : a.eval (.tmp 239) = (.int .i64 K) := eval_slot (j := 13) (by kernel_rfl) (hR.all 13 (by decide) (dep_of hdep 13 (by kernel_rfl)) (by decide) (by decide) (by decide) (by decide))
                                              refine Step.val _ rfl rfl (wanted_none rfl) (.slice (some ⟨w'.heap.size, 0, none⟩) 3 3) (w'.alloc (.cells #[.int .i64 K, .int .i64 ((c : Int) + 1), .int .i64 K] 3)) (fun ρ hρ => ?_) (QJ.step (by decide) hf (hR.step ((Below.refl _ _).alloc (Nat.le_refl _) _) (fun _ _ _ h => absurd rfl h) (fun h => absurd h (by decide)) (fun h => absurd h (by decide)) (fun _ => ⟨_, rfl, Box.new _ _ _⟩) (fun h => absurd h (by decide)) (fun h => absurd h (by decide))))
                                              rw [hρ] at e0 e1 e2
                                              clear hJ hsame hdep hcl hρ hsz hR hf
                                              go_simp
                                            · intro L a w' hL hsame hsz hJ hdep hcl
                                              have hf : L 21 = false := not_cameE hcl hL (by kernel_rfl)
                                              have hR := hJ.2 hf
                                              have e0 : a.eval (.tmp 12) = (.int .i64 nI) := eval_base hsame (by kernel_rfl)
                                              refine Step.val _ rfl rfl (wanted_none rfl) (.int .i64 nI) w' (fun ρ hρ => ?_) (QJ.step (by decide) hf (hR.step (Below.refl _ _) (fun _ _ _ _ _ => rfl) (fun h => absurd h (by decide)) (fun h => absurd h (by decide)) (fun h => absurd h (by decide)) (fun h => absurd h (by decide)) (fun h => absurd h (by decide))))
                                              rw [hρ] at e0
                                              clear hJ hsame hdep hcl hρ hsz hR hf
                                              go_simp
                                            · intro L a w' hL hsame hsz hJ hdep hcl
                                              have hf : L 21 = false := not_cameE hcl hL (by kernel_rfl)
                                              have hR := hJ.2 hf
                                              have e0 : a.eval (.tmp 241) = (.int .i64 nI) := eval_slot (j := 15) (by kernel_rfl) (hR.all 15 (by decide) (dep_of hdep 15 (by kernel_rfl)) (by decide) (by decide) (by decide) (by decide))
                                              refine Step.val _ rfl rfl (wanted_none rfl) (.int .i64 1) w' (fun ρ hρ => ?_) (QJ.step (by decide) hf (hR.step (Below.refl _ _) (fun _ _ _ _ _ => rfl) (fun h => absurd h (by decide)) (fun h => absurd h (by decide)) (fun h => absurd h (by decide)) (fun h => absurd h (by decide)) (fun h => absurd h (by decide))))
                                              rw [hρ] at e0
                                              have ec1 : ρ (.const (.int .i64 4)) = (.int .i64 4) := (hρ _).symm
                                              clear hJ hsame hdep hcl hρ hsz hR hf
                                              go_simp
                                            · intro L a w' hL hsame hsz hJ hdep hcl
                                              have hf : L 21 = false := not_cameE hcl hL (by kernel_rfl)
                                              have hR := hJ.2 hf
                                              obtain ⟨g, hg, hbx⟩ := hR.s2 (dep_of hdep 14 (by kernel_rfl))
                                              have e0 : a.eval (.tmp 240) = .slice (some ⟨g, 0, none⟩) 3 3 := eval_slot (j := 14) (by kernel_rfl) hg
                                              have e1 : a.eval (.tmp 242) = (.int .i64 1) := eval_slot (j := 16) (by kernel_rfl) (hR.all 16 (by decide) (dep_of hdep 16 (by kernel_rfl)) (by decide) (by decide) (by decide) (by decide))
                                              refine Step.val _ rfl rfl (wanted_none rfl) (.pointer (some ⟨g, 1, none⟩)) w' (fun ρ hρ => ?_) (QJ.step (by decide) hf (hR.step (Below.refl _ _) (fun _ _ _ _ h => absurd rfl h) (fun h => absurd h (by decide)) (fun h => absurd h (by decide)) (fun h => absurd h (by decide)) (fun _ => ⟨g, rfl, hbx⟩) (fun h => absurd h (by decide))))
                                              rw [hρ] at e0 e1
                                              clear hJ hsame hdep hcl hρ hsz hR hf hg hbx
                                              go_simp
                                            · intro L a w' hL hsame hsz hJ hdep hcl
                                              have hf : L 21 = false := not_cameE hcl hL (by kernel_rfl)
                                              have hR := hJ.2 hf
                                              obtain ⟨g, hg, hbx⟩ := hR.p2 (dep_of hdep 17 (by kernel_rfl))
                                              have e0 : a.eval (.tmp 243) = .pointer (some ⟨g, 1, none⟩) := eval_slot (j := 17) (by kernel_rfl) hg
                                              have q0 : w'.cell? ⟨g, 1, none⟩ = some (.int .i64 ((c : Int) + 1)) := hbx.cell 1
                                              refine Step.val _ rfl rfl (wanted_none rfl) (.int .i64 ((c : Int) + 1)) w' (fun ρ hρ => ?_) (QJ.step (by decide) hf (hR.step (Below.refl _ _) (fun _ _ _ _ _ => rfl) (fun h => absurd h (by decide)) (fun h => absurd h (by decide)) (fun h => absurd h (by decide)) (fun h => absurd h (by decide)) (fun h => absurd h (by decide))))
                                              rw [hρ] at e0
                                              clear hJ hsame hdep hcl hρ hsz hR hf hg hbx
                                              go_simp
                                            · intro L a w' hL hsame hsz hJ hdep hcl
                                              have hf : L 21 = false := not_cameE hcl hL (by kernel_rfl)
                                              have hR := hJ.2 hf
                                              have e0 : a.eval (.tmp 9) = (.pointer (some ⟨gP, 0, none⟩)) := eval_base hsame (by kernel_rfl)
                                              obtain ⟨q0, q1, q2, -, -, -⟩ := (BP.out.below hR.bel BP.out.lt).three
                                              refine Step.val _ rfl rfl (wanted_none rfl) (.agg #[.int .i64 pd, .int .i64 pe, .int .i64 pf]) w' (fun ρ hρ => ?_) (QJ.step (by decide) hf (hR.step (Below.refl _ _) (fun _ _ _ _ _ => rfl) (fun h => absurd h (by decide)) (fun h => absurd h (by decide)) (fun h => absurd h (by decide)) (fun h => absurd h (by decide)) (fun h => absurd h (by decide))))
                                              rw [hρ] at e0
                                              clear hJ hsame hdep hcl hρ hsz hR hf
                                              go_simp
                                            · intro L a w' hL hsame hsz hJ hdep hcl
                                              have hf : L 21 = false := not_cameE hcl hL (by kernel_rfl)
                                              have hR := hJ.2 hf
                                              have e0 : a.eval (.tmp 226) = (.agg #[.int .i64 R, .int .i64 K, .slice AG (R * K) cG]) := eval_slot (j := 0) (by kernel_rfl) (hR.all 0 (by decide) (dep_of hdep 0 (by kernel_rfl)) (by decide) (by decide) (by decide) (by decide))
                                              have e1 : a.eval (.tmp 227) = (.int .i64 r) := eval_slot (j := 1) (by kernel_rfl) (hR.all 1 (by decide) (dep_of hdep 1 (by kernel_rfl)) (by decide) (by decide) (by decide) (by decide))
                                              have e2 : a.eval (.tmp 233) = (.int .i64 0) := eval_slot (j := 7) (by kernel_rfl) (hR.all 7 (by decide) (dep_of hdep 7 (by kernel_rfl)) (by decide) (by decide) (by decide) (by decide))
                                              have e3 : a.eval (.tmp 244) = (.int .i64 ((c : Int) + 1)) := eval_slot (j := 18) (by kernel_rfl) (hR.all 18 (by decide) (dep_of hdep 18 (by kernel_rfl)) (by decide) (by decide) (by decide) (by decide))
                                              have e4 : a.eval (.tmp 245) = (.agg #[.int .i64 pd, .int .i64 pe, .int .i64 pf]) := eval_slot (j := 19) (by kernel_rfl) (hR.all 19 (by decide) (dep_of hdep 19 (by kernel_rfl)) (by decide) (by decide) (by decide) (by decide))
                                              refine Step.call _ rfl rfl (wanted_none rfl) 23 #[.agg #[.int .i64 R, .int .i64 K, .slice AG (R * K) cG], .int .i64 r, .int .i64 0, .int .i64 ((c : Int) + 1), .agg #[.int .i64 pd, .int .i64 pe, .int .i64 pf]] (fun ρ hρ => ?_) ?_
                                              · skip
                                                rw [hρ] at e0 e1 e2 e3 e4
                                                have ef : ρ (.func 23) = .func (.func 23) #[] #[] := (hρ _).symm
                                                clear hJ hsame hdep hcl hρ hsz hR hf
                                                go_simp
                                              · refine (RWL.out _ (IO.out.low hR.bel)).mono ?_
                                                rintro e6 w2 ⟨v, rfl, hg, bb⟩
                                                exact ⟨v, rfl, (QJ.step (by decide) hf (hR.step bb (fun h => absurd h (by decide)) (fun h => absurd h (by decide)) (fun h => absurd h (by decide)) (fun h => absurd h (by decide)) (fun h => absurd h (by decide)) (fun _ => hg)))⟩
                                            · intro L a w' hL hsame hsz hJ hdep hcl
                                              have hR := hJ.2 hL
                                              obtain ⟨s, hsv, hso⟩ := hR.gr (dep_of hdep 20 (by kernel_rfl))
                                              obtain ⟨sA, sc, rfl, _⟩ := own_form' hso
                                              obtain ⟨m0, m1, m2, f0, f1, f2⟩ := Box.three (a := .int .i64 R) (b := .int .i64 K) (c := .slice AG (R * K) cG) (BO.out.below hR.bel BO.out.lt)
                                              have es : a.eval (.tmp 246) = .agg #[.int .i64 (PG.lineI Gx r c 1 (pd, pe, pf)).rows, .int .i64 (PG.lineI Gx r c 1 (pd, pe, pf)).cols, .slice sA ((PG.lineI Gx r c 1 (pd, pe, pf)).rows * (PG.lineI Gx r c 1 (pd, pe, pf)).cols) sc] := eval_slot (j := 20) (by kernel_rfl) hsv
                                              have ea : a.eval (.tmp 8) = .pointer (some ⟨gO, 0, none⟩) := eval_base hsame (by kernel_rfl)
                                              have gst := gstore (S := [some gO]) (G := (PG.lineI Gx r c 1 (pd, pe, pf))) (BO.out.below hR.bel BO.out.lt) rfl rfl rfl ⟨_, rfl, hso⟩ (Kept.of_below hR.bel) (From.mem (by simp))
                                              refine Step.skip _ rfl (wanted_none rfl) (set3 w' gO (.int .i64 (PG.lineI Gx r c 1 (pd, pe, pf)).rows) (.int .i64 (PG.lineI Gx r c 1 (pd, pe, pf)).cols) (.slice sA ((PG.lineI Gx r c 1 (pd, pe, pf)).rows * (PG.lineI Gx r c 1 (pd, pe, pf)).cols) sc)) (fun ρ hρ => ?_) ⟨fun _ => gst, (fun h => by rw [mark_self] at h; cases h)⟩
                                              rw [hρ] at es ea
                                              clear hJ hsame hdep hcl hρ hsz hR hsv hso gst
                                              unfold set3
                                              go_simp
                                            · intro L a w' hsame hsz hJ hall
                                              obtain ⟨u, hu, ha⟩ := act_puts hsame
                                              have h := hide (hJ.1 (hall 21 (by decide)))
                                              clear hJ hall hsz hu hsame
                                              subst ha
                                              first | change Exit.inBlock _ _ Exit.normal (Act.put (Act.put (Act.put (Act.put (Act.put (Act.put (Act.put (Act.put (Act.put (Act.put (Act.put (Act.put (Act.put (Act.put (Act.put (Act.put (Act.put (Act.put (Act.put (Act.put (Act.put (Act.put (putAll _ u 0 _) (some 226) (u 0)) (some 227) (u 1)) (some 228) (u 2)) (some 229) (u 3)) (some 230) (u 4)) (some 231) (u 5)) (some 232) (u 6)) (some 233) (u 7)) (some 234) (u 8)) (some 235) (u 9)) (some 236) (u 10)) (some 237) (u 11)) (some 238) (u 12)) (some 239) (u 13)) (some 240) (u 14)) (some 241) (u 15)) (some 242) (u 16)) (some 243) (u 17)) (some 244) (u 18)) (some 245) (u 19)) (some 246) (u 20)) none (u 21)) _ | change Exit.then _ _ Exit.normal (Act.put (Act.put (Act.put (Act.put (Act.put (Act.put (Act.put (Act.put (Act.put (Act.put (Act.put (Act.put (Act.put (Act.put (Act.put (Act.put (Act.put (Act.put (Act.put (Act.put (Act.put (Act.put (putAll _ u 0 _) (some 226) (u 0)) (some 227) (u 1)) (some 228) (u 2)) (some 229) (u 3)) (some 230) (u 4)) (some 231) (u 5)) (some 232) (u 6)) (some 233) (u 7)) (some 234) (u 8)) (some 235) (u 9)) (some 236) (u 10)) (some 237) (u 11)) (some 238) (u 12)) (some 239) (u 13)) (some 240) (u 14)) (some 241) (u 15)) (some 242) (u 16)) (some 243) (u 17)) (some 244) (u 18)) (some 245) (u 19)) (some 246) (u 20)) none (u 21)) _
                                              simp only [putAll]
                                              generalize u 0 = v0
                                              generalize u 1 = v1
                                              generalize u 2 = v2
                                              generalize u 3 = v3
                                              generalize u 4 = v4
                                              generalize u 5 = v5
                                              generalize u 6 = v6
                                              generalize u 7 = v7
                                              generalize u 8 = v8
                                              generalize u 9 = v9
                                              generalize u 10 = v10
                                              generalize u 11 = v11
                                              generalize u 12 = v12
                                              generalize u 13 = v13
                                              generalize u 14 = v14
                                              generalize u 15 = v15
                                              generalize u 16 = v16
                                              generalize u 17 = v17
                                              generalize u 18 = v18
                                              generalize u 19 = v19
                                              generalize u 20 = v20
                                              generalize u 21 = v21
                                              go_simp
                                              (try simp only [Exit.then, Exit.inBlock])
                                              have VG2 := hide (VG.out.keptS (show NoRow w7 [some gO] from fun x hx => by simp at hx; subst hx; exact ⟨_, _, BO.out, by decide⟩) h.out.2 (by have := DIST.out; simp; omega))
                                              have KK := hide (Kept.trans (L := [some gG, some gO]) (KG5.out.more (by simp)) h.out.2 (fun x hx => From.mem (by simp at hx; simp [hx])))
                                              go_wp2_with fail
                                              go_meet
                                              exact ⟨⟨_, HGE.out.1, HGE.out.2.1, HGE.out.2.2, VG2.out, h.out.1⟩, KK.out⟩
                                          · as_aux_lemma =>
                                            have h4 : nI % 4 = 2 := HEN.out
                                            have RWL := hide (show ∀ (w' : World), IsG w' Gx (.agg #[.int .i64 R, .int .i64 K, .slice AG (R * K) cG]) → Calls Tryd.prog 23 #[.agg #[.int .i64 R, .int .i64 K, .slice AG (R * K) cG], .int .i64 r, .int .i64 0, .int .i64 K, .agg #[.int .i64 pd, .int .i64 pe, .int .i64 pf]] w' (GotG w' (PG.lineI Gx r c 2 (pd, pe, pf))) from fun w' h => by
                                              have h := r_wipe HRX.out.1 h r 0 K (pd, pe, pf) (by omega) (by omega)
                                              rw [PG.lineI_2 HIN.out, HRX.out.2.2.1]
                                              exact h)
                                            have h4t : nI.tmod 4 = 2 := (Int.tmod_eq_emod_of_nonneg hn0).trans h4
                                            go_upto_region 37 with fail
                                            refine wp_region_vals (n := 273) (QJ (fun wx => GBox wx (PG.lineI Gx r c 2 (pd, pe, pf)) gO ∧ Kept [some gO] w7 wx) w7 (PG.lineI Gx r c 2 (pd, pe, pf)) #[.int .i64 c, .int .i64 0, .int .i64 0] #[.int .i64 K, .int .i64 ((c : Int) + 1), .int .i64 K] 2 (fun j => [(.agg #[.int .i64 R, .int .i64 K, .slice AG (R * K) cG]), (.int .i64 r), (.int .i64 c), undef, (.int .i64 nI), (.int .i64 2), undef, (.int .i64 0), (.pointer (some ⟨gO, 1, none⟩)), (.int .i64 K), (.int .i64 c), (.int .i64 ((c : Int) + 1)), (.pointer (some ⟨gO, 1, none⟩)), (.int .i64 K), undef, (.int .i64 nI), (.int .i64 2), undef, (.int .i64 (K : Int)), (.agg #[.int .i64 pd, .int .i64 pe, .int .i64 pf])].getD j undef)) (by kernel_rfl) (by kernel_rfl) (by kernel_rfl) rfl (fun L u u' wx he hj => ⟨hj.1, fun h => (hj.2 h).same he⟩) (cases22 ⟨?_, ?_, ?_, ?_, ?_, ?_, ?_, ?_, ?_, ?_, ?_, ?_, ?_, ?_, ?_, ?_, ?_, ?_, ?_, ?_, ?_, ?_⟩) ?_ ⟨(fun h => by cases h), fun _ => ⟨(Below.refl _ _).drew, (fun j _ h => by cases h), (fun h => by cases h), (fun h => by cases h), (fun h => by cases h), (fun h => by cases h), (fun h => by cases h)⟩⟩
                                            · intro L a w' hL hsame hsz hJ hdep hcl
                                              have hf : L 21 = false := not_cameE hcl hL (by kernel_rfl)
                                              have hR := hJ.2 hf
                                              have e0 : a.eval (.tmp 8) = (.pointer (some ⟨gO, 0, none⟩)) := eval_base hsame (by kernel_rfl)
                                              obtain ⟨q0, q1, q2, -, -, -⟩ := Box.three (a := .int .i64 R) (b := .int .i64 K) (c := .slice AG (R * K) cG) (BO.out.below hR.bel BO.out.lt)
                                              refine Step.val _ rfl rfl (wanted_none rfl) (.agg #[.int .i64 R, .int .i64 K, .slice AG (R * K) cG]) w' (fun ρ hρ => ?_) (QJ.step (by decide) hf (hR.step (Below.refl _ _) (fun _ _ _ _ _ => rfl) (fun h => absurd h (by decide)) (fun h => absurd h (by decide)) (fun h => absurd h (by decide)) (fun h => absurd h (by decide)) (fun h => absurd h (by decide))))
                                              rw [hρ] at e0
                                              clear hJ hsame hdep hcl hρ hsz hR hf
                                              go_simp
                                            · intro L a w' hL hsame hsz hJ hdep hcl
                                              have hf : L 21 = false := not_cameE hcl hL (by kernel_rfl)
                                              have hR := hJ.2 hf
                                              have e0 : a.eval (.tmp 10) = (.int .i64 r) := eval_base hsame (by kernel_rfl)
                                              refine Step.val _ rfl rfl (wanted_none rfl) (.int .i64 r) w' (fun ρ hρ => ?_) (QJ.step (by decide) hf (hR.step (Below.refl _ _) (fun _ _ _ _ _ => rfl) (fun h => absurd h (by decide)) (fun h => absurd h (by decide)) (fun h => absurd h (by decide)) (fun h => absurd h (by decide)) (fun h => absurd h (by decide))))
                                              rw [hρ] at e0
                                              clear hJ hsame hdep hcl hρ hsz hR hf
                                              go_simp
                                            · intro L a w' hL hsame hsz hJ hdep hcl
                                              have hf : L 21 = false := not_cameE hcl hL (by kernel_rfl)
                                              have hR := hJ.2 hf
                                              have e0 : a.eval (.tmp 11) = (.int .i64 c) := eval_base hsame (by kernel_rfl)
                                              refine Step.val _ rfl rfl (wanted_none rfl) (.int .i64 c) w' (fun ρ hρ => ?_) (QJ.step (by decide) hf (hR.step (Below.refl _ _) (fun _ _ _ _ _ => rfl) (fun h => absurd h (by decide)) (fun h => absurd h (by decide)) (fun h => absurd h (by decide)) (fun h => absurd h (by decide)) (fun h => absurd h (by decide))))
                                              rw [hρ] at e0
                                              clear hJ hsame hdep hcl hρ hsz hR hf
                                              go_simp
                                            · intro L a w' hL hsame hsz hJ hdep hcl
                                              have hf : L 21 = false := not_cameE hcl hL (by kernel_rfl)
                                              have hR := hJ.2 hf
                                              have e0 : a.eval (.tmp 228) = (.int .i64 c) := eval_slot (j := 2) (by kernel_rfl) (hR.all 2 (by decide) (dep_of hdep 2 (by kernel_rfl)) (by decide) (by decide) (by decide) (by decide))
                                              refine Step.val _ rfl rfl (wanted_none rfl) (.slice (some ⟨w'.heap.size, 0, none⟩) 3 3) (w'.alloc (.cells #[.int .i64 c, .int .i64 0, .int .i64 0] 3)) (fun ρ hρ => ?_) (QJ.step (by decide) hf (hR.step ((Below.refl _ _).alloc (Nat.le_refl _) _) (fun _ h => absurd rfl h) (fun _ => ⟨_, rfl, Box.new _ _ _⟩) (fun h => absurd h (by decide)) (fun h => absurd h (by decide)) (fun h => absurd h (by decide)) (fun h => absurd h (by decide))))
                                              rw [hρ] at e0
                                              have ec0 : ρ (.const (.int .i64 0)) = (.int .i64 0) := (hρ _).symm
                                              clear hJ hsame hdep hcl hρ hsz hR hf
                                              go_simp
                                            · intro L a w' hL hsame hsz hJ hdep hcl
                                              have hf : L 21 = false := not_cameE hcl hL (by kernel_rfl)
                                              have hR := hJ.2 hf
                                              have e0 : a.eval (.tmp 12) = (.int .i64 nI) := eval_base hsame (by kernel_rfl)
                                              refine Step.val _ rfl rfl (wanted_none rfl) (.int .i64 nI) w' (fun ρ hρ => ?_) (QJ.step (by decide) hf (hR.step (Below.refl _ _) (fun _ _ _ _ _ => rfl) (fun h => absurd h (by decide)) (fun h => absurd h (by decide)) (fun h => absurd h (by decide)) (fun h => absurd h (by decide)) (fun h => absurd h (by decide))))
                                              rw [hρ] at e0
                                              clear hJ hsame hdep hcl hρ hsz hR hf
                                              go_simp
                                            · intro L a w' hL hsame hsz hJ hdep hcl
                                              have hf : L 21 = false := not_cameE hcl hL (by kernel_rfl)
                                              have hR := hJ.2 hf
                                              have e0 : a.eval (.tmp 230) = (.int .i64 nI) := eval_slot (j := 4) (by kernel_rfl) (hR.all 4 (by decide) (dep_of hdep 4 (by kernel_rfl)) (by decide) (by decide) (by decide) (by decide))
                                              refine Step.val _ rfl rfl (wanted_none rfl) (.int .i64 2) w' (fun ρ hρ => ?_) (QJ.step (by decide) hf (hR.step (Below.refl _ _) (fun _ _ _ _ _ => rfl) (fun h => absurd h (by decide)) (fun h => absurd h (by decide)) (fun h => absurd h (by decide)) (fun h => absurd h (by decide)) (fun h => absurd h (by decide))))
                                              rw [hρ] at e0
                                              have ec1 : ρ (.const (.int .i64 4)) = (.int .i64 4) := (hρ _).symm
                                              clear hJ hsame hdep hcl hρ hsz hR hf
                                              go_simp
                                            · intro L a w' hL hsame hsz hJ hdep hcl
                                              have hf : L 21 = false := not_cameE hcl hL (by kernel_rfl)
                                              have hR := hJ.2 hf
                                              obtain ⟨g, hg, hbx⟩ := hR.s1 (dep_of hdep 3 (by kernel_rfl))
                                              have e0 : a.eval (.tmp 229) = .slice (some ⟨g, 0, none⟩) 3 3 := eval_slot (j := 3) (by kernel_rfl) hg
                                              have e1 : a.eval (.tmp 231) = (.int .i64 2) := eval_slot (j := 5) (by kernel_rfl) (hR.all 5 (by decide) (dep_of hdep 5 (by kernel_rfl)) (by decide) (by decide) (by decide) (by decide))
                                              refine Step.val _ rfl rfl (wanted_none rfl) (.pointer (some ⟨g, 2, none⟩)) w' (fun ρ hρ => ?_) (QJ.step (by decide) hf (hR.step (Below.refl _ _) (fun _ _ h => absurd rfl h) (fun h => absurd h (by decide)) (fun _ => ⟨g, rfl, hbx⟩) (fun h => absurd h (by decide)) (fun h => absurd h (by decide)) (fun h => absurd h (by decide))))
                                              rw [hρ] at e0 e1
                                              clear hJ hsame hdep hcl hρ hsz hR hf hg hbx
                                              go_simp
                                            · intro L a w' hL hsame hsz hJ hdep hcl
                                              have hf : L 21 = false := not_cameE hcl hL (by kernel_rfl)
                                              have hR := hJ.2 hf
                                              obtain ⟨g, hg, hbx⟩ := hR.p1 (dep_of hdep 6 (by kernel_rfl))
                                              have e0 : a.eval (.tmp 232) = .pointer (some ⟨g, 2, none⟩) := eval_slot (j := 6) (by kernel_rfl) hg
                                              have q0 : w'.cell? ⟨g, 2, none⟩ = some (.int .i64 0) := hbx.cell 2
                                              refine Step.val _ rfl rfl (wanted_none rfl) (.int .i64 0) w' (fun ρ hρ => ?_) (QJ.step (by decide) hf (hR.step (Below.refl _ _) (fun _ _ _ _ _ => rfl) (fun h => absurd h (by decide)) (fun h => absurd h (by decide)) (fun h => absurd h (by decide)) (fun h => absurd h (by decide)) (fun h => absurd h (by decide))))
                                              rw [hρ] at e0
                                              clear hJ hsame hdep hcl hρ hsz hR hf hg hbx
                                              go_simp
                                            · intro L a w' hL hsame hsz hJ hdep hcl
                                              have hf : L 21 = false := not_cameE hcl hL (by kernel_rfl)
                                              have hR := hJ.2 hf
                                              have e0 : a.eval (.tmp 8) = (.pointer (some ⟨gO, 0, none⟩)) := eval_base hsame (by kernel_rfl)
                                              refine Step.val _ rfl rfl (wanted_none rfl) (.pointer (some ⟨gO, 1, none⟩)) w' (fun ρ hρ => ?_) (QJ.step (by decide) hf (hR.step (Below.refl _ _) (fun _ _ _ _ _ => rfl) (fun h => absurd h (by decide)) (fun h => absurd h (by decide)) (fun h => absurd h (by decide)) (fun h => absurd h (by decide)) (fun h => absurd h (by decide))))
                                              rw [hρ] at e0
                                              clear hJ hsame hdep hcl hρ hsz hR hf
                                              go_simp
                                            · intro L a w' hL hsame hsz hJ hdep hcl
                                              have hf : L 21 = false := not_cameE hcl hL (by kernel_rfl)
                                              have hR := hJ.2 hf
                                              have e0 : a.eval (.tmp 234) = (.pointer (some ⟨gO, 1, none⟩)) := eval_slot (j := 8) (by kernel_rfl) (hR.all 8 (by decide) (dep_of hdep 8 (by kernel_rfl)) (by decide) (by decide) (by decide) (by decide))
                                              have q1 : w'.cell? ⟨gO, 1, none⟩ = some (.int .i64 K) := (BO.out.below hR.bel BO.out.lt).cell 1
                                              refine Step.val _ rfl rfl (wanted_none rfl) (.int .i64 K) w' (fun ρ hρ => ?_) (QJ.step (by decide) hf (hR.step (Below.refl _ _) (fun _ _ _ _ _ => rfl) (fun h => absurd h (by decide)) (fun h => absurd h (by decide)) (fun h => absurd h (by decide)) (fun h => absurd h (by decide)) (fun h => absurd h (by decide))))
                                              rw [hρ] at e0
                                              clear hJ hsame hdep hcl hρ hsz hR hf
                                              go_simp
                                            · intro L a w' hL hsame hsz hJ hdep hcl
                                              have hf : L 21 = false := not_cameE hcl hL (by kernel_rfl)
                                              have hR := hJ.2 hf
                                              have e0 : a.eval (.tmp 11) = (.int .i64 c) := eval_base hsame (by kernel_rfl)
                                              refine Step.val _ rfl rfl (wanted_none rfl) (.int .i64 c) w' (fun ρ hρ => ?_) (QJ.step (by decide) hf (hR.step (Below.refl _ _) (fun _ _ _ _ _ => rfl) (fun h => absurd h (by decide)) (fun h => absurd h (by decide)) (fun h => absurd h (by decide)) (fun h => absurd h (by decide)) (fun h => absurd h (by decide))))
                                              rw [hρ] at e0
                                              clear hJ hsame hdep hcl hρ hsz hR hf
                                              go_simp
                                            · intro L a w' hL hsame hsz hJ hdep hcl
                                              have hf : L 21 = false := not_cameE hcl hL (by kernel_rfl)
                                              have hR := hJ.2 hf
                                              have e0 : a.eval (.tmp 236) = (.int .i64 c) := eval_slot (j := 10) (by kernel_rfl) (hR.all 10 (by decide) (dep_of hdep 10 (by kernel_rfl)) (by decide) (by decide) (by decide) (by decide))
                                              refine Step.val _ rfl rfl (wanted_none rfl) (.int .i64 ((c : Int) + 1)) w' (fun ρ hρ => ?_) (QJ.step (by decide) hf (hR.step (Below.refl _ _) (fun _ _ _ _ _ => rfl) (fun h => absurd h (by decide)) (fun h => absurd h (by decide)) (fun h => absurd h (by decide)) (fun h => absurd h (by decide)) (fun h => absurd h (by decide))))
                                              rw [hρ] at e0
                                              have ec1 : ρ (.const (.int .i64 1)) = (.int .i64 1) := (hρ _).symm
                                              clear hJ hsame hdep hcl hρ hsz hR hf
                                              go_simp
                                            · intro L a w' hL hsame hsz hJ hdep hcl
                                              have hf : L 21 = false := not_cameE hcl hL (by kernel_rfl)
                                              have hR := hJ.2 hf
                                              have e0 : a.eval (.tmp 8) = (.pointer (some ⟨gO, 0, none⟩)) := eval_base hsame (by kernel_rfl)
                                              refine Step.val _ rfl rfl (wanted_none rfl) (.pointer (some ⟨gO, 1, none⟩)) w' (fun ρ hρ => ?_) (QJ.step (by decide) hf (hR.step (Below.refl _ _) (fun _ _ _ _ _ => rfl) (fun h => absurd h (by decide)) (fun h => absurd h (by decide)) (fun h => absurd h (by decide)) (fun h => absurd h (by decide)) (fun h => absurd h (by decide))))
                                              rw [hρ] at e0
                                              clear hJ hsame hdep hcl hρ hsz hR hf
                                              go_simp
                                            · intro L a w' hL hsame hsz hJ hdep hcl
                                              have hf : L 21 = false := not_cameE hcl hL (by kernel_rfl)
                                              have hR := hJ.2 hf
                                              have e0 : a.eval (.tmp 238) = (.pointer (some ⟨gO, 1, none⟩)) := eval_slot (j := 12) (by kernel_rfl) (hR.all 12 (by decide) (dep_of hdep 12 (by kernel_rfl)) (by decide) (by decide) (by decide) (by decide))
                                              have q1 : w'.cell? ⟨gO, 1, none⟩ = some (.int .i64 K) := (BO.out.below hR.bel BO.out.lt).cell 1
                                              refine Step.val _ rfl rfl (wanted_none rfl) (.int .i64 K) w' (fun ρ hρ => ?_) (QJ.step (by decide) hf (hR.step (Below.refl _ _) (fun _ _ _ _ _ => rfl) (fun h => absurd h (by decide)) (fun h => absurd h (by decide)) (fun h => absurd h (by decide)) (fun h => absurd h (by decide)) (fun h => absurd h (by decide))))
                                              rw [hρ] at e0
                                              clear hJ hsame hdep hcl hρ hsz hR hf
                                              go_simp
                                            · intro L a w' hL hsame hsz hJ hdep hcl
                                              have hf : L 21 = false := not_cameE hcl hL (by kernel_rfl)
                                              have hR := hJ.2 hf
                                              have e0 : a.eval (.tmp 235) = (.int .i64 K) := eval_slot (j := 9) (by kernel_rfl) (hR.all 9 (by decide) (dep_of hdep 9 (by kernel_rfl)) (by decide) (by decide) (by decide) (by decide))
                                              have e1 : a.eval (.tmp 237) = (.int .i64 ((c : Int) + 1)) := eval_slot (j := 11) (by kernel_rfl) (hR.all 11 (by decide) (dep_of hdep 11 (by kernel_rfl)) (by decide) (by decide) (by decide) (by decide))
                                              have e2 : a.eval (.tmp 239) = (.int .i64 K) := eval_slot (j := 13) (by kernel_rfl) (hR.all 13 (by decide) (dep_of hdep 13 (by kernel_rfl)) (by decide) (by decide) (by decide) (by decide))
                                              refine Step.val _ rfl rfl (wanted_none rfl) (.slice (some ⟨w'.heap.size, 0, none⟩) 3 3) (w'.alloc (.cells #[.int .i64 K, .int .i64 ((c : Int) + 1), .int .i64 K] 3)) (fun ρ hρ => ?_) (QJ.step (by decide) hf (hR.step ((Below.refl _ _).alloc (Nat.le_refl _) _) (fun _ _ _ h => absurd rfl h) (fun h => absurd h (by decide)) (fun h => absurd h (by decide)) (fun _ => ⟨_, rfl, Box.new _ _ _⟩) (fun h => absurd h (by decide)) (fun h => absurd h (by decide))))
                                              rw [hρ] at e0 e1 e2
                                              clear hJ hsame hdep hcl hρ hsz hR hf
                                              go_simp
                                            · intro L a w' hL hsame hsz hJ hdep hcl
                                              have hf : L 21 = false := not_cameE hcl hL (by kernel_rfl)
                                              have hR := hJ.2 hf
                                              have e0 : a.eval (.tmp 12) = (.int .i64 nI) := eval_base hsame (by kernel_rfl)
                                              refine Step.val _ rfl rfl (wanted_none rfl) (.int .i64 nI) w' (fun ρ hρ => ?_) (QJ.step (by decide) hf (hR.step (Below.refl _ _) (fun _ _ _ _ _ => rfl) (fun h => absurd h (by decide)) (fun h => absurd h (by decide)) (fun h => absurd h (by decide)) (fun h => absurd h (by decide)) (fun h => absurd h (by decide))))
                                              rw [hρ] at e0
                                              clear hJ hsame hdep hcl hρ hsz hR hf
                                              go_simp
                                            · intro L a w' hL hsame hsz hJ hdep hcl
                                              have hf : L 21 = false := not_cameE hcl hL (by kernel_rfl)
                                              have hR := hJ.2 hf
                                              have e0 : a.eval (.tmp 241) = (.int .i64 nI) := eval_slot (j := 15) (by kernel_rfl) (hR.all 15 (by decide) (dep_of hdep 15 (by kernel_rfl)) (by decide) (by decide) (by decide) (by decide))
                                              refine Step.val _ rfl rfl (wanted_none rfl) (.int .i64 2) w' (fun ρ hρ => ?_) (QJ.step (by decide) hf (hR.step (Below.refl _ _) (fun _ _ _ _ _ => rfl) (fun h => absurd h (by decide)) (fun h => absurd h (by decide)) (fun h => absurd h (by decide)) (fun h => absurd h (by decide)) (fun h => absurd h (by decide))))
                                              rw [hρ] at e0
                                              have ec1 : ρ (.const (.int .i64 4)) = (.int .i64 4) := (hρ _).symm
                                              clear hJ hsame hdep hcl hρ hsz hR hf
                                              go_simp
                                            · intro L a w' hL hsame hsz hJ hdep hcl
                                              have hf : L 21 = false := not_cameE hcl hL (by kernel_rfl)
                                              have hR := hJ.2 hf
                                              obtain ⟨g, hg, hbx⟩ := hR.s2 (dep_of hdep 14 (by kernel_rfl))
                                              have e0 : a.eval (.tmp 240) = .slice (some ⟨g, 0, none⟩) 3 3 := eval_slot (j := 14) (by kernel_rfl) hg
                                              have e1 : a.eval (.tmp 242) = (.int .i64 2) := eval_slot (j := 16) (by kernel_rfl) (hR.all 16 (by decide) (dep_of hdep 16 (by kernel_rfl)) (by decide) (by decide) (by decide) (by decide))
                                              refine Step.val _ rfl rfl (wanted_none rfl) (.pointer (some ⟨g, 2, none⟩)) w' (fun ρ hρ => ?_) (QJ.step (by decide) hf (hR.step (Below.refl _ _) (fun _ _ _ _ h => absurd rfl h) (fun h => absurd h (by decide)) (fun h => absurd h (by decide)) (fun h => absurd h (by decide)) (fun _ => ⟨g, rfl, hbx⟩) (fun h => absurd h (by decide))))
                                              rw [hρ] at e0 e1
                                              clear hJ hsame hdep hcl hρ hsz hR hf hg hbx
                                              go_simp
                                            · intro L a w' hL hsame hsz hJ hdep hcl
                                              have hf : L 21 = false := not_cameE hcl hL (by kernel_rfl)
                                              have hR := hJ.2 hf
                                              obtain ⟨g, hg, hbx⟩ := hR.p2 (dep_of hdep 17 (by kernel_rfl))
                                              have e0 : a.eval (.tmp 243) = .pointer (some ⟨g, 2, none⟩) := eval_slot (j := 17) (by kernel_rfl) hg
                                              have q0 : w'.cell? ⟨g, 2, none⟩ = some (.int .i64 (K : Int)) := hbx.cell 2
                                              refine Step.val _ rfl rfl (wanted_none rfl) (.int .i64 (K : Int)) w' (fun ρ hρ => ?_) (QJ.step (by decide) hf (hR.step (Below.refl _ _) (fun _ _ _ _ _ => rfl) (fun h => absurd h (by decide)) (fun h => absurd h (by decide)) (fun h => absurd h (by decide)) (fun h => absurd h (by decide)) (fun h => absurd h (by decide))))
                                              rw [hρ] at e0
                                              clear hJ hsame hdep hcl hρ hsz hR hf hg hbx
                                              go_simp
                                            · intro L a w' hL hsame hsz hJ hdep hcl
                                              have hf : L 21 = false := not_cameE hcl hL (by kernel_rfl)
                                              have hR := hJ.2 hf
                                              have e0 : a.eval (.tmp 9) = (.pointer (some ⟨gP, 0, none⟩)) := eval_base hsame (by kernel_rfl)
                                              obtain ⟨q0, q1, q2, -, -, -⟩ := (BP.out.below hR.bel BP.out.lt).three
                                              refine Step.val _ rfl rfl (wanted_none rfl) (.agg #[.int .i64 pd, .int .i64 pe, .int .i64 pf]) w' (fun ρ hρ => ?_) (QJ.step (by decide) hf (hR.step (Below.refl _ _) (fun _ _ _ _ _ => rfl) (fun h => absurd h (by decide)) (fun h => absurd h (by decide)) (fun h => absurd h (by decide)) (fun h => absurd h (by decide)) (fun h => absurd h (by decide))))
                                              rw [hρ] at e0
                                              clear hJ hsame hdep hcl hρ hsz hR hf
                                              go_simp
                                            · intro L a w' hL hsame hsz hJ hdep hcl
                                              have hf : L 21 = false := not_cameE hcl hL (by kernel_rfl)
                                              have hR := hJ.2 hf
                                              have e0 : a.eval (.tmp 226) = (.agg #[.int .i64 R, .int .i64 K, .slice AG (R * K) cG]) := eval_slot (j := 0) (by kernel_rfl) (hR.all 0 (by decide) (dep_of hdep 0 (by kernel_rfl)) (by decide) (by decide) (by decide) (by decide))
                                              have e1 : a.eval (.tmp 227) = (.int .i64 r) := eval_slot (j := 1) (by kernel_rfl) (hR.all 1 (by decide) (dep_of hdep 1 (by kernel_rfl)) (by decide) (by decide) (by decide) (by decide))
                                              have e2 : a.eval (.tmp 233) = (.int .i64 0) := eval_slot (j := 7) (by kernel_rfl) (hR.all 7 (by decide) (dep_of hdep 7 (by kernel_rfl)) (by decide) (by decide) (by decide) (by decide))
                                              have e3 : a.eval (.tmp 244) = (.int .i64 (K : Int)) := eval_slot (j := 18) (by kernel_rfl) (hR.all 18 (by decide) (dep_of hdep 18 (by kernel_rfl)) (by decide) (by decide) (by decide) (by decide))
                                              have e4 : a.eval (.tmp 245) = (.agg #[.int .i64 pd, .int .i64 pe, .int .i64 pf]) := eval_slot (j := 19) (by kernel_rfl) (hR.all 19 (by decide) (dep_of hdep 19 (by kernel_rfl)) (by decide) (by decide) (by decide) (by decide))
                                              refine Step.call _ rfl rfl (wanted_none rfl) 23 #[.agg #[.int .i64 R, .int .i64 K, .slice AG (R * K) cG], .int .i64 r, .int .i64 0, .int .i64 (K : Int), .agg #[.int .i64 pd, .int .i64 pe, .int .i64 pf]] (fun ρ hρ => ?_) ?_
                                              · skip
                                                rw [hρ] at e0 e1 e2 e3 e4
                                                have ef : ρ (.func 23) = .func (.func 23) #[] #[] := (hρ _).symm
                                                clear hJ hsame hdep hcl hρ hsz hR hf
                                                go_simp
                                              · refine (RWL.out _ (IO.out.low hR.bel)).mono ?_
                                                rintro e6 w2 ⟨v, rfl, hg, bb⟩
                                                exact ⟨v, rfl, (QJ.step (by decide) hf (hR.step bb (fun h => absurd h (by decide)) (fun h => absurd h (by decide)) (fun h => absurd h (by decide)) (fun h => absurd h (by decide)) (fun h => absurd h (by decide)) (fun _ => hg)))⟩
                                            · intro L a w' hL hsame hsz hJ hdep hcl
                                              have hR := hJ.2 hL
                                              obtain ⟨s, hsv, hso⟩ := hR.gr (dep_of hdep 20 (by kernel_rfl))
                                              obtain ⟨sA, sc, rfl, _⟩ := own_form' hso
                                              obtain ⟨m0, m1, m2, f0, f1, f2⟩ := Box.three (a := .int .i64 R) (b := .int .i64 K) (c := .slice AG (R * K) cG) (BO.out.below hR.bel BO.out.lt)
                                              have es : a.eval (.tmp 246) = .agg #[.int .i64 (PG.lineI Gx r c 2 (pd, pe, pf)).rows, .int .i64 (PG.lineI Gx r c 2 (pd, pe, pf)).cols, .slice sA ((PG.lineI Gx r c 2 (pd, pe, pf)).rows * (PG.lineI Gx r c 2 (pd, pe, pf)).cols) sc] := eval_slot (j := 20) (by kernel_rfl) hsv
                                              have ea : a.eval (.tmp 8) = .pointer (some ⟨gO, 0, none⟩) := eval_base hsame (by kernel_rfl)
                                              have gst := gstore (S := [some gO]) (G := (PG.lineI Gx r c 2 (pd, pe, pf))) (BO.out.below hR.bel BO.out.lt) rfl rfl rfl ⟨_, rfl, hso⟩ (Kept.of_below hR.bel) (From.mem (by simp))
                                              refine Step.skip _ rfl (wanted_none rfl) (set3 w' gO (.int .i64 (PG.lineI Gx r c 2 (pd, pe, pf)).rows) (.int .i64 (PG.lineI Gx r c 2 (pd, pe, pf)).cols) (.slice sA ((PG.lineI Gx r c 2 (pd, pe, pf)).rows * (PG.lineI Gx r c 2 (pd, pe, pf)).cols) sc)) (fun ρ hρ => ?_) ⟨fun _ => gst, (fun h => by rw [mark_self] at h; cases h)⟩
                                              rw [hρ] at es ea
                                              clear hJ hsame hdep hcl hρ hsz hR hsv hso gst
                                              unfold set3
                                              go_simp
                                            · intro L a w' hsame hsz hJ hall
                                              obtain ⟨u, hu, ha⟩ := act_puts hsame
                                              have h := hide (hJ.1 (hall 21 (by decide)))
                                              clear hJ hall hsz hu hsame
                                              subst ha
                                              first | change Exit.inBlock _ _ Exit.normal (Act.put (Act.put (Act.put (Act.put (Act.put (Act.put (Act.put (Act.put (Act.put (Act.put (Act.put (Act.put (Act.put (Act.put (Act.put (Act.put (Act.put (Act.put (Act.put (Act.put (Act.put (Act.put (putAll _ u 0 _) (some 226) (u 0)) (some 227) (u 1)) (some 228) (u 2)) (some 229) (u 3)) (some 230) (u 4)) (some 231) (u 5)) (some 232) (u 6)) (some 233) (u 7)) (some 234) (u 8)) (some 235) (u 9)) (some 236) (u 10)) (some 237) (u 11)) (some 238) (u 12)) (some 239) (u 13)) (some 240) (u 14)) (some 241) (u 15)) (some 242) (u 16)) (some 243) (u 17)) (some 244) (u 18)) (some 245) (u 19)) (some 246) (u 20)) none (u 21)) _ | change Exit.then _ _ Exit.normal (Act.put (Act.put (Act.put (Act.put (Act.put (Act.put (Act.put (Act.put (Act.put (Act.put (Act.put (Act.put (Act.put (Act.put (Act.put (Act.put (Act.put (Act.put (Act.put (Act.put (Act.put (Act.put (putAll _ u 0 _) (some 226) (u 0)) (some 227) (u 1)) (some 228) (u 2)) (some 229) (u 3)) (some 230) (u 4)) (some 231) (u 5)) (some 232) (u 6)) (some 233) (u 7)) (some 234) (u 8)) (some 235) (u 9)) (some 236) (u 10)) (some 237) (u 11)) (some 238) (u 12)) (some 239) (u 13)) (some 240) (u 14)) (some 241) (u 15)) (some 242) (u 16)) (some 243) (u 17)) (some 244) (u 18)) (some 245) (u 19)) (some 246) (u 20)) none (u 21)) _
                                              simp only [putAll]
                                              generalize u 0 = v0
                                              generalize u 1 = v1
                                              generalize u 2 = v2
                                              generalize u 3 = v3
                                              generalize u 4 = v4
                                              generalize u 5 = v5
                                              generalize u 6 = v6
                                              generalize u 7 = v7
                                              generalize u 8 = v8
                                              generalize u 9 = v9
                                              generalize u 10 = v10
                                              generalize u 11 = v11
                                              generalize u 12 = v12
                                              generalize u 13 = v13
                                              generalize u 14 = v14
                                              generalize u 15 = v15
                                              generalize u 16 = v16
                                              generalize u 17 = v17
                                              generalize u 18 = v18
                                              generalize u 19 = v19
                                              generalize u 20 = v20
                                              generalize u 21 = v21
                                              go_simp
                                              (try simp only [Exit.then, Exit.inBlock])
                                              have VG2 := hide (VG.out.keptS (show NoRow w7 [some gO] from fun x hx => by simp at hx; subst hx; exact ⟨_, _, BO.out, by decide⟩) h.out.2 (by have := DIST.out; simp; omega))
                                              have KK := hide (Kept.trans (L := [some gG, some gO]) (KG5.out.more (by simp)) h.out.2 (fun x hx => From.mem (by simp at hx; simp [hx])))
                                              go_wp2_with fail
                                              go_meet
                                              exact ⟨⟨_, HGE.out.1, HGE.out.2.1, HGE.out.2.2, VG2.out, h.out.1⟩, KK.out⟩
                                        · have hge : PG.lineI Gx rI cI eI (pd, pe, pf) = Gx := PG.lineI_out (fun x => hw (by rcases HAT.out with ⟨h, _⟩ | ⟨_, h⟩; exact ⟨h, x.2.2⟩; exact absurd (by have := HRX.out; have := x.1; omega) h))
                                          have hno : at_ = false ∨ (at_ = true ∧ nI % 4 = 3) := by
                                            have h := HEI.out
                                            cases at_ with
                                            | false => exact .inl rfl
                                            | true => exact .inr ⟨rfl, by have h3 : ¬ eI ≤ 2 := fun x => hw ⟨rfl, x⟩; omega⟩
                                          have VGx := hide (show GBox w7 Gx gG from hge ▸ VG.out)
                                          have VOx := hide (show GBox w7 Gx gO from ⟨_, by rw [HRX.out.2.1, HRX.out.2.2.1]; exact BO.out, by rw [HRX.out.2.1, HRX.out.2.2.1]; exact IO.out⟩)
                                          have KK := hide (KG5.out.more (L' := [some gG, some gO]) (by simp))
                                          have m0 : w7.cell? ⟨gO, 0, none⟩ = some (.int .i64 R) := BO.out.cell 0
                                          have hn0 : 0 ≤ nI := HRC.out.2.2.2.2.1
                                          have hn1 : nI ≤ 11 := HRC.out.2.2.2.2.2
                                          have hR1 : (0 : Int) < (R : Int) := by have := HRX.out; omega
                                          clear hge hw
                                          rcases hno with rfl | ⟨rfl, h4⟩
                                          · have h4 := True.intro
                                            go_wp2_with fail
                                            go_meet
                                            exact ⟨⟨Gx, HRX.out.1, HRX.out.2.1, HRX.out.2.2.1, VGx.out, VOx.out⟩, KK.out⟩
                                          · go_wp2_with fail
                                            go_meet
                                            exact ⟨⟨Gx, HRX.out.1, HRX.out.2.1, HRX.out.2.2.1, VGx.out, VOx.out⟩, KK.out⟩
                                  · as_aux_lemma =>
                                    go_wp2_with fail
                                    go_meet
                                    exact ⟨⟨Gx, HRX.out.1, HRX.out.2.1, HRX.out.2.2.1, ⟨_, by rw [HRX.out.2.1, HRX.out.2.2.1]; exact BG.out, by rw [HRX.out.2.1, HRX.out.2.2.1]; exact IG.out⟩, ⟨_, by rw [HRX.out.2.1, HRX.out.2.2.1]; exact BO.out, by rw [HRX.out.2.1, HRX.out.2.2.1]; exact IO.out⟩⟩, Kept.refl _ _⟩
                              case rest =>
                                as_aux_lemma =>
                                  obtain ⟨⟨Gy, hry, hrR, hrK, vg, vo⟩, bk⟩ := hcut
                                  replace bx := hide (bx.out.trans (bk.toBelow bx.out.size (by have := HGG.out; have := HGO.out; simp; omega)))
                                  obtain ⟨AG', cG', hbG, -, -, -, hiG⟩ := vg.open_ hrR hrK
                                  obtain ⟨AO', cO', hbO, -, -, -, hiO⟩ := vo.open_ hrR hrK
                                  have HRY := hide (show PG.RightG Gy ∧ Gy.rows = R ∧ Gy.cols = K from ⟨hry, hrR, hrK⟩)
                                  have hRK : R * K ≤ 45 := by have := HRX.out; exact Nat.le_trans (Nat.mul_le_mul this.2.2.2.1 this.2.2.2.2.1) (by decide)
                                  generalize R * K = NN at hbG hiG hbO hiO hRK
                                  have BG := hide (show Box wc gG 27 #[.int .i64 R, .int .i64 K, .slice AG' NN cG'] from hbG)
                                  have BO := hide (show Box wc gO 27 #[.int .i64 R, .int .i64 K, .slice AO' NN cO'] from hbO)
                                  have IG := hide (show IsG wc Gy (.agg #[.int .i64 R, .int .i64 K, .slice AG' NN cG']) from hiG)
                                  have IO := hide (show IsG wc Gy (.agg #[.int .i64 R, .int .i64 K, .slice AO' NN cO']) from hiO)
                                  have SPY := hide (SP.out.below bx.out SP.out.lt)
                                  clear hbG hbO hiG hiO vg vo hry hrR hrK bk NR SPX HNS HnBQ HnBP HCV BQ BP
                                  go_upto_region 38 with fail
                                  go_cut [271] from 247 to 271 (fun u wx => u = .bool false ∧ Below wc.heap.size wc wx)
                                  case first =>
                                    as_aux_lemma =>
                                      have SM := hide (same_cellsB (c := cG') (c' := cO') IG.out.seen IO.out.seen (by omega))
                                      have RT := hide (fun (w' : World) (hb : Below wc.heap.size wc w') => u_right HRY.out.1 (IG.out.low hb) (SPY.out.keep hb))
                                      obtain ⟨m0, m1, m2, -, -, -⟩ := Box.three (a := .int .i64 R) (b := .int .i64 K) (c := .slice AG' NN cG') BG.out
                                      obtain ⟨q0, q1, q2, -, -, -⟩ := Box.three (a := .int .i64 R) (b := .int .i64 K) (c := .slice AO' NN cO') BO.out
                                      go_wp2_with (first
                                        | (go_at_call 25
                                           go_must (refine SM.out.mono ?_)
                                           rintro e6 w6 ⟨rfl, b6⟩
                                           have hb6 := BG.out.below b6 BG.out.lt
                                           have b6 := hide b6
                                           clear m0 m1 m2 q0 q1 q2
                                           obtain ⟨m0, m1, m2, -, -, -⟩ := Box.three (a := .int .i64 R) (b := .int .i64 K) (c := .slice AG' NN cG') hb6
                                           clear hb6)
                                        | (go_at_call 26
                                           go_must (refine (RT.out _ b6.out).mono ?_)
                                           rintro e7 w7 ⟨rfl, b7⟩
                                           have b7 := hide (b6.out.trans (b7.mono b6.out.size))))
                                      go_meet
                                      exact ⟨rfl, b7.out⟩
                                  case rest =>
                                    as_aux_lemma =>
                                      obtain ⟨rfl, bc⟩ := hcut
                                      replace bx := hide (bx.out.trans (bc.mono bx.out.size))
                                      have hsa := wrap_plays (c := k) HKN.out.2
                                      have HV := hide (show PG.RightG Gy ∧ Gy.rows ≤ 5 ∧ Gy.cols ≤ 9 from ⟨HRY.out.1, by rw [HRY.out.2.1]; exact HRX.out.2.2.2.1, by rw [HRY.out.2.2]; exact HRX.out.2.2.2.2.1⟩)
                                      have VG := hide (GBox.low (show GBox _ Gy gG from ⟨_, by rw [HRY.out.2.1, HRY.out.2.2]; exact BG.out, by rw [HRY.out.2.1, HRY.out.2.2]; exact IG.out⟩) bc)
                                      clear bc
                                      go_wp2_with fail
                                      go_roundw
                                      case rel => exact ⟨k + 1, Gy, by go_num, HV, VG, bx⟩
                                      case measure => exact meas_plays HKN.out.1
            · have hnm := HN.out
              unfold maxLen at hnm
              by_cases h1 : k < n
              · have h2 : ¬ k < 20 := fun h => hlt ⟨h1, h⟩
                go_wp2_with fail
                go_meet
                exact bx.out
              · go_wp2_with fail
                go_meet
                exact bx.out
      case rest =>
        as_aux_lemma =>
          have bc := hcut
          replace BB := hide (BB.out.trans (bc.mono BB.out.size))
          replace SP := hide (SP.out.keep bc)
          clear bc hcut
          go_wp2_with (
            go_at_call 3
            go_must (refine (editRuns_any _ SP.out).mono ?_)
            rintro e w3 ⟨rfl, b3⟩
            have b3 := hide b3)
          go_ret
          exact ⟨rfl, BB.out.trans (b3.out.mono BB.out.size)⟩
theorem editPlays_any (rw_ cl : Int) (Ap : Option Addr) (np cp : Nat) (lp : List Int) (At : Option Addr) (nt ct : Nat) (lt : List Int) (A : Option Addr) (n cc : Nat) (w : World)
    (hrw : (Lit.int .i64 rw_).wf = true) (hcl : (Lit.int .i64 cl).wf = true) (hA : Arg .i64 w Ap np cp lp) (hB : Arg .i64 w At nt ct lt) (hQ : QArgsE w A n) (hn : n ≤ maxLen) (hs : Spans w) :
    Calls Tryd.prog 4 #[.agg #[.int .i64 rw_, .int .i64 cl, .slice Ap np cp, .slice At nt ct], .slice A n cc] w fun e w' => e = .returned (.bool true) ∧ Below w.heap.size w w' :=
  editPlays_core rw_ cl Ap np cp lp At nt ct lt A n cc w (bounds_i64 hrw) (bounds_i64 hcl) hA hB hQ hn hs
end Go.Proofs.YtcbmjdacdjcggaaDoor
