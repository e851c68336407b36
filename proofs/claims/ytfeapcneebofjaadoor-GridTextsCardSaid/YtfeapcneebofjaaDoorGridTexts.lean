/- GridTexts: letters put side by side are the row's text; as many runes as there are cells, less one for each wide one. -/
import Derived.Test.YtfeapcneebofjaaDoorGridRuns
import Derived.Test.YtfeapcneebofjaaDoorGridTextsP
import Derived.Test.YtfeapcneebofjaaDoorGridVar
import Derived.Test.YtfeapcneebofjaaDoorRefWidth
import Derived.Test.YtfeapcneebofjaaDoorArgs
set_option maxRecDepth 100000
namespace Go.Proofs.YtfeapcneebofjaaDoor
open Go.RowKit
set_option linter.unusedVariables false
set_option maxHeartbeats 16000000 in
theorem gridTexts_core (rw_ cl : Int) (Ap : Option Addr) (np cp : Nat) (lp : List Int) (At : Option Addr) (nt ct : Nat) (lt : List Int) (r : Int) (w : World)
    (hrw : -9223372036854775808 ≤ rw_ ∧ rw_ ≤ 9223372036854775807) (hcl : -9223372036854775808 ≤ cl ∧ cl ≤ 9223372036854775807) (hA : Arg .i64 w Ap np cp lp) (hB : Arg .i64 w At nt ct lt) (hr : -9223372036854775808 ≤ r ∧ r ≤ 9223372036854775807) (hs : Spans w) :
    Calls Tryd.prog 6 #[.agg #[.int .i64 rw_, .int .i64 cl, .slice Ap np cp, .slice At nt ct], .int .i64 r] w fun e w' => e = .returned (.bool true) ∧ Below w.heap.size w w' := by
  obtain ⟨R, hR⟩ : ∃ R : Nat, 1 + rw_ % (5 - 1 + 1) = (R : Int) := ⟨(1 + rw_ % 5).toNat, by omega⟩
  obtain ⟨K, hK⟩ : ∃ K : Nat, 1 + cl % (9 - 1 + 1) = (K : Int) := ⟨(1 + cl % 9).toNat, by omega⟩
  have hR1 : 1 ≤ R ∧ R ≤ 5 ∧ 1 ≤ K ∧ K ≤ 9 := by omega
  have hGG := keepG_right lp lt (R := R) (K := K) hR1.1 hR1.2.1 hR1.2.2.1 hR1.2.2.2
  have K1 := hide (fun (w' : World) (b : Below w.heap.size w w') => u_keepGrid rw_ cl R K np cp nt ct lp lt Ap At w w' b hR hK hrw hcl hA hB)
  have hsz : (PG.ofL R K (PG.keepCells lp lt R K)).rows = R ∧ (PG.ofL R K (PG.keepCells lp lt R K)).cols = K := ⟨rfl, rfl⟩
  generalize PG.ofL R K (PG.keepCells lp lt R K) = G at hGG K1 hsz
  obtain ⟨row, hrow, hrR⟩ : ∃ k : Nat, 0 + r % ((R : Int) - 1 - 0 + 1) = k ∧ k < R := by
    have e : (R : Int) - 1 - 0 + 1 = R := by omega
    have h1 := Int.emod_nonneg r (show (R : Int) ≠ 0 by omega)
    have h2 := Int.emod_lt_of_pos r (show (0 : Int) < R by omega)
    rw [e]
    exact ⟨(r % (R : Int)).toNat, by omega, by omega⟩
  have KR := hide (fun w' => within_is r 0 ((R : Int) - 1) row hrow w' hr.1 hr.2 (by omega) (by omega) (by omega))
  have HK := hide (show (1 ≤ R ∧ R ≤ 5 ∧ 1 ≤ K ∧ K ≤ 9) ∧ row < R from ⟨hR1, hrR⟩)
  have HG := hide (show PG.RightG G ∧ G.rows = R ∧ G.cols = K from ⟨hGG, hsz⟩)
  have hrow' : PG.RightRow (G.f row) K := hsz.2 ▸ hGG.2.2.2.2 row (by omega)
  have HRR := hide hrow'
  obtain ⟨S, hS⟩ : ∃ S, strOfNums (U.enc (PG.runes (G.f row) K)) = S := ⟨_, rfl⟩
  have TXG := hide (show ∀ (w' : World) (v : Value), IsG w' G v → Calls Tryd.prog 10 #[v, .int .i64 row] w' fun e w'' => e = .returned (.string S) ∧ Below w'.heap.size w' w'' from fun w' v h => by
    have := u_text hGG h row (by omega)
    rw [hsz.2] at this
    rw [← hS]
    exact this)
  have HS := hide hS
  have SP := hide hs
  clear hrw hcl hr hs hrow hrR hR hK hR1 hGG hsz hrow' hS hA hB
  go_enter Tryd.func6, Tryd.ntmps6
  go_upto_region 1 with fail
  have bX := Box.new w 52 #[.int .i64 rw_, .int .i64 cl, .slice Ap np cp, .slice At nt ct]
  have bb : Below w.heap.size w (w.alloc (.cells #[.int .i64 rw_, .int .i64 cl, .slice Ap np cp, .slice At nt ct] 52)) := (Below.refl _ _).alloc (Nat.le_refl _) _
  generalize w.alloc (.cells #[.int .i64 rw_, .int .i64 cl, .slice Ap np cp, .slice At nt ct] 52) = wc at bX bb ⊢
  obtain ⟨gX, hgX⟩ : ∃ g, w.heap.size = g := ⟨_, rfl⟩
  have BX := hide bX
  have BB := hide bb
  have SP := hide (SP.out.keep bb)
  have K1 := hide (K1.out wc bb)
  rw [hgX] at BX ⊢
  clear bX bb hgX
  go_cut [5] (fun u wx => GVar wc.heap.size G u wx ∧ Below wc.heap.size wc wx)
  case first =>
    as_aux_lemma =>
      have h0 : wc.cell? ⟨gX, 0, none⟩ = some (.int .i64 rw_) := BX.out.cell 0
      have h1 : wc.cell? ⟨gX, 1, none⟩ = some (.int .i64 cl) := BX.out.cell 1
      have h2 : wc.cell? ⟨gX, 2, none⟩ = some (.slice Ap np cp) := BX.out.cell 2
      have h3 : wc.cell? ⟨gX, 3, none⟩ = some (.slice At nt ct) := BX.out.cell 3
      go_wp2_with (
        go_at_call 25
        go_must (refine K1.out.mono ?_)
        rintro e w2 ⟨v, rfl, ⟨s, rfl, ho⟩, b2⟩
        obtain ⟨sA, sc, rfl, _⟩ := own_form' ho
        have b2 := hide b2
        have ho := hide ho
        unfold gv
        clear h0 h1 h2 h3)
      go_meet
      exact ⟨⟨_, rfl, b2.out.size, _, Box.new _ _ _, _, rfl, own_low ho.out ((Below.refl _ _).alloc (Nat.le_refl _) _)⟩, b2.out.alloc (by have := b2.out.size; omega) _⟩
  case rest =>
    obtain ⟨⟨gG, rfl, -, hG⟩, bc⟩ := hcut
    have BB := hide (BB.out.trans (bc.mono BB.out.size))
    have SP := hide (SP.out.keep bc)
    obtain ⟨AG, cG, hbx, -, -, -, hig⟩ := hG.open_ HG.out.2.1 HG.out.2.2
    have HBG := hide (show Box wc gG 26 #[.int .i64 R, .int .i64 K, .slice AG (R * K) cG] from hbx)
    have HIG := hide (show IsG wc G (.agg #[.int .i64 R, .int .i64 K, .slice AG (R * K) cG]) from hig)
    clear bc hG hbx hig BX K1
    go_upto_region 2 with fail
    have hs1 : wrap64 ((R : Int) - 1) = (R : Int) - 1 := by have := HK.out; unfold wrap64; omega
    go_cut [6] (fun u wx => u = .int .i64 row ∧ wx = wc)
    case first =>
      as_aux_lemma =>
        have m0 : wc.cell? ⟨gG, 0, none⟩ = some (.int .i64 R) := HBG.out.cell 0
        go_wp2_with (
          go_at_call 12
          go_must (refine (KR.out _).mono ?_)
          rintro e w' ⟨rfl, rfl⟩)
        go_meet
        exact ⟨rfl, rfl⟩
    obtain ⟨rfl, rfl⟩ := hcut
    clear hs1 KR
    go_upto_region 4 with fail
    rename World => w4
    go_cut [25] (fun u wx => (∃ gi, u = .pointer (some ⟨gi, 0, none⟩) ∧ w4.heap.size ≤ gi ∧ wx.heap[gi]? = some (.stringIter S 0)) ∧ Below w4.heap.size w4 wx)
    case first =>
      as_aux_lemma =>
        have TX := TXG.out w4 _ HIG.out
        have TX := hide TX
        obtain ⟨m0, m1, m2, -, -, -⟩ := Box.three (a := .int .i64 R) (b := .int .i64 K) (c := .slice AG (R * K) cG) HBG.out
        go_wp2_with (
          go_at_call 10
          go_must (refine TX.out.mono ?_)
          rintro e w2 ⟨rfl, b2⟩
          have b2 := hide b2
          clear m0 m1 m2)
        go_meet
        exact ⟨⟨_, rfl, b2.out.size, World.iter_heap w2 _ 0⟩, b2.out.alloc (by have := b2.out.size; omega) _⟩
    case rest =>
    obtain ⟨⟨gi, rfl, hgi, hit⟩, bc⟩ := hcut
    have HIT := hide hit
    have BC := hide bc
    have HGI := hide hgi
    clear hit bc hgi
    go_upto_block 0 with fail
    go_cut [7, 8] (fun u v wx => (∃ c1 c2 : Nat, u = .int .i64 c1 ∧ v = .int .i64 c2 ∧ c1 + c2 = K) ∧ Below w4.heap.size w4 wx)
    case first =>
      as_aux_lemma =>
        go_wp2_with fail
        go_loopw [7, 8] (fun u v wr => ∃ (done rest : List Int) (c1 c2 : Nat), u = .int .i64 c1 ∧ v = .int .i64 c2 ∧ Hid (c1 = done.length ∧ c2 = PG.wides done ∧ done ++ rest = PG.runes (G.f row) K) ∧ Hid (wr.heap[gi]? = some (.stringIter S (U.enc done).length)) ∧ Hid (Below w4.heap.size w4 wr)) (fun _ _ wr => S.size - wr.iterPos gi)
        case atStart => exact ⟨[], _, 0, 0, rfl, rfl, hide ⟨rfl, rfl, rfl⟩, HIT, BC⟩
        case round =>
          obtain ⟨done, rest, c1, c2, rfl, rfl, hd, hit, bx⟩ := hrel
          clear HIT BC
          rcases rest with _ | ⟨x, rest⟩
          · have hnx : ∀ ty, (Instr.next (.pointer (some ⟨gi, 0, none⟩)) true ty).run Tryd.prog wr = .ok (.tuple #[.bool false]) wr := fun ty => Lib.run_next_end_at wr gi _ _ ty hit.out (by rw [← HS.out, ← hd.out.2.2]; exact text_end done)
            go_wp2_with fail
            go_meet
            refine ⟨⟨c1, c2, rfl, rfl, ?_⟩, bx.out⟩
            have h := PG.runes_all HRR.out
            rw [← hd.out.2.2, List.append_nil] at h
            rw [hd.out.1, hd.out.2.1]
            exact h
          · have hin : ∀ y ∈ done ++ x :: rest, U.isR y = true := fun y hy => PG.runes_isR HRR.out y (hd.out.2.2 ▸ hy)
            obtain ⟨h1, h2, h3, h4, h5, h6⟩ := text_round hin
            have hpos0 := iterPos_of hit.out
            rw [hd.out.2.2, HS.out] at h1 h2
            have hnx : ∀ ty, (Instr.next (.pointer (some ⟨gi, 0, none⟩)) true ty).run Tryd.prog wr = .ok (.tuple #[.bool true, .int .i64 (U.enc done).length, .int .i32 x]) (wr.iterAt gi S (U.enc (done ++ [x])).length) := fun ty => by
              have := Lib.run_next_any_at (P := Tryd.prog) wr gi _ _ ty hit.out h1
              rw [h2, ← h3] at this
              simp only [show ((x.toNat : Nat) : Int) = x from by omega] at this
              exact this
            have hit2 := Lib.iterAt_heap wr gi S _ (U.enc (done ++ [x])).length hit.out
            have bx2 := Lib.below_iterAt bx.out (k := gi) HGI.out S (U.enc (done ++ [x])).length
            obtain ⟨W1, hW1⟩ : ∃ W1, wr.iterAt gi S (U.enc (done ++ [x])).length = W1 := ⟨_, rfl⟩
            rw [hW1] at hnx hit2 bx2
            have hlen : done.length + (rest.length + 1) ≤ 9 := by
              have := congrArg List.length hd.out.2.2
              have h9 := PG.runes_len (G.f row) K
              have := HK.out
              simp at *
              omega
            have hw : C.width x = 1 ∨ C.width x = 2 := PG.runes_wide HRR.out (hd.out.2.2 ▸ by simp)
            have hwd : c2 ≤ c1 := by
              have := hd.out
              rw [this.1, this.2.1]
              exact List.length_filter_le _ _
            have hc1 : c1 ≤ 9 := by have := hd.out; omega
            have HW := hide (refWidth_any x W1 (by omega) (by omega))
            have HI2 := hide hit2
            have BX2 := hide bx2
            have HM := hide (show (wr.iterPos gi = (U.enc done).length) ∧ (U.enc done).length < S.size ∧ (U.enc (done ++ [x])).length = (U.enc done).length + (U.en x).length ∧ 1 ≤ (U.en x).length from ⟨hpos0, h1, h3, h4⟩)
            have hsa := wrap_succ (c := c1) (by omega)
            have hsb := wrap_succ (c := c2) (Nat.le_trans hwd hc1)
            clear hit2 bx2 hpos0 h1 h2 h3 h4 h5 h6 hin hit bx hW1 hlen hwd hc1
            rcases hw with hw | hw
            · rw [hw] at HW
              have hnd : Hid (c1 + 1 = (done ++ [x]).length ∧ c2 = PG.wides (done ++ [x]) ∧ (done ++ [x]) ++ rest = PG.runes (G.f row) K) := hide ⟨by rw [hd.out.1]; simp, by rw [hd.out.2.1, PG.wides_append]; simp [PG.wides, hw], by rw [← hd.out.2.2]; simp⟩
              clear hd hw
              go_wp2_with (
                go_at_call 24
                go_must (refine HW.out.mono ?_)
                rintro e w2 ⟨rfl, b2⟩
                have HI2 := hide (show w2.heap[gi]? = some (.stringIter S (U.enc (done ++ [x])).length) from (b2.block gi (Array.getElem?_eq_some_iff.1 HI2.out).1).trans HI2.out)
                have BX2 := hide (BX2.out.trans (b2.mono BX2.out.size))
                clear b2)
              go_roundw
              case rel => exact ⟨done ++ [x], rest, c1 + 1, c2, by go_num, rfl, hnd, HI2, BX2⟩
              case measure =>
                rw [iterPos_of HI2.out, HM.out.1]
                have := HM.out
                omega
            · rw [hw] at HW
              have hnd : Hid (c1 + 1 = (done ++ [x]).length ∧ c2 + 1 = PG.wides (done ++ [x]) ∧ (done ++ [x]) ++ rest = PG.runes (G.f row) K) := hide ⟨by rw [hd.out.1]; simp, by rw [hd.out.2.1, PG.wides_append]; simp [PG.wides, hw], by rw [← hd.out.2.2]; simp⟩
              clear hd hw
              go_wp2_with (
                go_at_call 24
                go_must (refine HW.out.mono ?_)
                rintro e w2 ⟨rfl, b2⟩
                have HI2 := hide (show w2.heap[gi]? = some (.stringIter S (U.enc (done ++ [x])).length) from (b2.block gi (Array.getElem?_eq_some_iff.1 HI2.out).1).trans HI2.out)
                have BX2 := hide (BX2.out.trans (b2.mono BX2.out.size))
                clear b2)
              go_roundw
              case rel => exact ⟨done ++ [x], rest, c1 + 1, c2 + 1, by go_num, by go_num, hnd, HI2, BX2⟩
              case measure =>
                rw [iterPos_of HI2.out, HM.out.1]
                have := HM.out
                omega
    case rest =>
    obtain ⟨⟨c1, c2, rfl, rfl, hsum⟩, bc⟩ := hcut
    have BB := hide (BB.out.trans (bc.mono BB.out.size))
    have SP := hide (SP.out.keep bc)
    have HBG := hide (HBG.out.below bc HBG.out.lt)
    have HIG := hide (HIG.out.low bc)
    have hsum2 : IntKind.i64.wrap ((c1 : Int) + c2) = (K : Int) := by have := HK.out; rw [IntWalk.i64_in _ (by omega)]; omega
    have HSU := hide hsum2
    clear bc HIT BC HGI hsum hsum2
    go_upto_region 10 with fail
    rename World => w10
    go_cut [11] (fun u11 wx => (GVar w10.heap.size (PG.newG R K PG.plain) u11 wx) ∧ Below w10.heap.size w10 wx)
    case first =>
      as_aux_lemma =>
        refine wp_region_rj (n := 112) [] (fun _ => #[]) [(0, 0, 0, 0), (0, 0, 0, 0), (0, 0, 0, 0), (0, 0, 0, 0), (0, 0, 0, 0), (1, 0, 0, 0), (2, 0, 0, 26), (3, 6, 5, 26)] (fun j => [(.pointer (some ⟨gG, 0, none⟩)), (.int .i64 R), (.pointer (some ⟨gG, 1, none⟩)), (.int .i64 K), (.agg #[.int .i64 (-1), .int .i64 (-1), .int .i64 0]), undef, undef, undef].getD j undef) (fun j => [PG.dflt, PG.dflt, PG.dflt, PG.dflt, PG.dflt, (PG.newG R K PG.plain), PG.dflt, PG.dflt].getD j PG.dflt) (fun _ => 0) (by kernel_rfl) (by kernel_rfl) (by kernel_rfl) rfl (by kernel_rfl) (no4 rfl) (fun i j h => by revert h; exact no4 (p := fun _ => _) rfl i) (fun hRS => cases8 ⟨?_, ?_, ?_, ?_, ?_, ?_, ?_, ?_⟩) ?_
        · intro L a w' hL hsame hsz hJ hdep hcl
          have e0 : a.eval (.tmp 5) = (.pointer (some ⟨gG, 0, none⟩)) := eval_base hsame (by kernel_rfl)
          refine Step.val _ rfl rfl (wanted_none rfl) (.pointer (some ⟨gG, 0, none⟩)) w' (fun ρ hρ => ?_) (hJ.val hRS hcl hL rfl (Below.refl _ _) _ rfl)
          rw [hρ] at e0
          clear hJ hsame hdep hcl hρ hsz
          go_simp
        · intro L a w' hL hsame hsz hJ hdep hcl
          have e0 : a.eval (.tmp 36) = (.pointer (some ⟨gG, 0, none⟩)) := eval_slot (j := 0) (by kernel_rfl) (hJ.valOf (by decide) (dep_of hdep 0 (by kernel_rfl)) rfl rfl)
          have hb := hJ.keptBox HBG.out (by simp)
          have q0 : w'.cell? ⟨gG, 0, none⟩ = some (.int .i64 R) := hb.cell 0
          refine Step.val _ rfl rfl (wanted_none rfl) (.int .i64 R) w' (fun ρ hρ => ?_) (hJ.val hRS hcl hL rfl (Below.refl _ _) _ rfl)
          rw [hρ] at e0
          clear hb
          clear hJ hsame hdep hcl hρ hsz
          go_simp
        · intro L a w' hL hsame hsz hJ hdep hcl
          have e0 : a.eval (.tmp 5) = (.pointer (some ⟨gG, 0, none⟩)) := eval_base hsame (by kernel_rfl)
          refine Step.val _ rfl rfl (wanted_none rfl) (.pointer (some ⟨gG, 1, none⟩)) w' (fun ρ hρ => ?_) (hJ.val hRS hcl hL rfl (Below.refl _ _) _ rfl)
          rw [hρ] at e0
          clear hJ hsame hdep hcl hρ hsz
          go_simp
        · intro L a w' hL hsame hsz hJ hdep hcl
          have e0 : a.eval (.tmp 38) = (.pointer (some ⟨gG, 1, none⟩)) := eval_slot (j := 2) (by kernel_rfl) (hJ.valOf (by decide) (dep_of hdep 2 (by kernel_rfl)) rfl rfl)
          have hb := hJ.keptBox HBG.out (by simp)
          have q0 : w'.cell? ⟨gG, 1, none⟩ = some (.int .i64 K) := hb.cell 1
          refine Step.val _ rfl rfl (wanted_none rfl) (.int .i64 K) w' (fun ρ hρ => ?_) (hJ.val hRS hcl hL rfl (Below.refl _ _) _ rfl)
          rw [hρ] at e0
          clear hb
          clear hJ hsame hdep hcl hρ hsz
          go_simp
        · intro L a w' hL hsame hsz hJ hdep hcl
          refine Step.call _ rfl rfl (wanted_none rfl) 26 #[] (fun ρ hρ => ?_) ?_
          · skip
            have ef : ρ (.func 26) = .func (.func 26) #[] #[] := (hρ _).symm
            clear hJ hsame hdep hcl hρ hsz
            go_simp
          · refine (rplain_any w').mono ?_
            rintro e w2 ⟨rfl, bb⟩
            exact ⟨_, rfl, hJ.val hRS hcl hL rfl bb _ rfl⟩
        · intro L a w' hL hsame hsz hJ hdep hcl
          have e0 : a.eval (.tmp 37) = (.int .i64 R) := eval_slot (j := 1) (by kernel_rfl) (hJ.valOf (by decide) (dep_of hdep 1 (by kernel_rfl)) rfl rfl)
          have e1 : a.eval (.tmp 39) = (.int .i64 K) := eval_slot (j := 3) (by kernel_rfl) (hJ.valOf (by decide) (dep_of hdep 3 (by kernel_rfl)) rfl rfl)
          have e2 : a.eval (.tmp 40) = (.agg #[.int .i64 (-1), .int .i64 (-1), .int .i64 0]) := eval_slot (j := 4) (by kernel_rfl) (hJ.valOf (by decide) (dep_of hdep 4 (by kernel_rfl)) rfl rfl)
          refine Step.call _ rfl rfl (wanted_none rfl) 9 #[.int .i64 R, .int .i64 K, .agg #[.int .i64 (-1), .int .i64 (-1), .int .i64 0]] (fun ρ hρ => ?_) ?_
          · skip
            rw [hρ] at e0 e1 e2
            have ef : ρ (.func 9) = .func (.func 9) #[] #[] := (hρ _).symm
            clear hJ hsame hdep hcl hρ hsz
            go_simp
          · refine (u_new R K PG.plain w' (by have := HK.out; omega) (by have := HK.out; omega) (by have := HK.out; omega) (by have := HK.out; omega)).mono ?_
            rintro e w2 ⟨v, rfl, hg, bb⟩
            exact ⟨v, rfl, hJ.grid hRS hcl hL rfl bb v hg⟩
        · intro L a w' hL hsame hsz hJ hdep hcl
          refine Step.val _ rfl rfl (wanted_none rfl) (.pointer (some ⟨w'.heap.size, 0, none⟩)) (w'.alloc (.cells #[.int .i64 0, .int .i64 0, .slice none 0 0] 26)) (fun ρ hρ => ?_) (hJ.box hRS hcl hL rfl 26 rfl (.int .i64 0) (.int .i64 0) (.slice none 0 0))
          clear hJ hsame hdep hcl hρ hsz
          go_simp
        · intro L a w' hL hsame hsz hJ hdep hcl
          obtain ⟨sv, hsv, hso⟩ := hJ.gridOf (by decide) (dep_of hdep 5 (by kernel_rfl)) rfl
          obtain ⟨sA, sc, rfl, _⟩ := own_form' hso
          have es : a.eval (.tmp 41) = .agg #[.int .i64 ((PG.newG R K PG.plain)).rows, .int .i64 ((PG.newG R K PG.plain)).cols, .slice sA (((PG.newG R K PG.plain)).rows * ((PG.newG R K PG.plain)).cols) sc] := eval_slot (j := 5) (by kernel_rfl) hsv
          have la := dep_of hdep 6 (by kernel_rfl)
          obtain ⟨g, cs, hg, hg0, hb, hs3⟩ := hJ.boxOf (by decide) la rfl
          obtain ⟨c0, c1, c2, rfl⟩ := three_of hs3
          obtain ⟨m0, m1, m2, f0, f1, f2⟩ := hb.three
          have ea : a.eval (.tmp 11) = .pointer (some ⟨g, 0, none⟩) := eval_slot (j := 6) (by kernel_rfl) hg
          refine Step.skip _ rfl (wanted_none rfl) (set3 w' g (.int .i64 ((PG.newG R K PG.plain)).rows) (.int .i64 ((PG.newG R K PG.plain)).cols) (.slice sA (((PG.newG R K PG.plain)).rows * ((PG.newG R K PG.plain)).cols) sc)) (fun ρ hρ => ?_) (hJ.put hRS hcl hL rfl la (dep_of hdep 5 (by kernel_rfl)) hg hsv)
          rw [hρ] at es ea
          clear hJ hsame hdep hcl hρ hsz hg hb hso hsv
          unfold set3
          go_simp
        · intro L a w' hsame hsz hJ hall
          obtain ⟨u, hu, ha⟩ := act_puts hsame
          have h : (GVar w10.heap.size (PG.newG R K PG.plain) (u 6) w') ∧ Below w10.heap.size w10 w' := by
            (try simp only [hu])
            exact (And.intro (hJ.var hall 7 (by decide) rfl rfl (by decide) rfl (by decide) rfl) (hJ.kept.toBelow (Nat.le_refl _) (by simp)))
          have h := hide h
          clear hJ hall hsz hu hsame
          subst ha
          change Exit.then _ _ Exit.normal (Act.put (Act.put (Act.put (Act.put (Act.put (Act.put (Act.put (Act.put (putAll _ u 0 _) (some 36) (u 0)) (some 37) (u 1)) (some 38) (u 2)) (some 39) (u 3)) (some 40) (u 4)) (some 41) (u 5)) (some 11) (u 6)) none (u 7)) _
          simp only [putAll]
          generalize u 0 = v0
          generalize u 1 = v1
          generalize u 2 = v2
          generalize u 3 = v3
          generalize u 4 = v4
          generalize u 5 = v5
          generalize u 6 = v6 at h ⊢
          generalize u 7 = v7
          go_simp
          go_step
          go_meet
          exact h.out
    case rest =>
    obtain ⟨⟨gO, rfl, hgO, hO⟩, bc⟩ := hcut
    have HGO := hide hgO
    have VO := hide hO
    have BC := hide bc
    clear hgO hO bc
    go_upto_block 2 with fail
    go_cut [12] (fun u wx => (∃ o, PG.Upto (G.f row) R K row K o ∧ PG.RightG o ∧ GBox wx o gO) ∧ Below w10.heap.size w10 wx)
    case first =>
      as_aux_lemma =>
        go_wp2_with fail
        go_loopw [12] (fun i wr => ∃ (k : Nat) (o : PG.Gr), k ≤ K ∧ i = .int .i64 k ∧ Hid (PG.Upto (G.f row) R K row k o ∧ PG.RightG o) ∧ Hid (GBox wr o gO) ∧ Hid (Below w10.heap.size w10 wr)) (fun i _ => K - (intOf i).toNat)
        case atStart => exact ⟨0, _, Nat.zero_le _, rfl, hide ⟨PG.upto_new _ _ _ _, PG.right_newG PG.plain_ok (by have := HK.out; omega) (by have := HK.out; omega) (by have := HK.out; omega) (by have := HK.out; omega)⟩, VO, BC⟩
        case round =>
          obtain ⟨k, o, hkK, rfl, HU, VX, bx⟩ := hrel
          clear VO BC
          have HBGr := hide (HBG.out.below bx.out HBG.out.lt)
          have HIGr := hide (HIG.out.low bx.out)
          have mk : wr.cell? ⟨gG, 1, none⟩ = some (.int .i64 K) := HBGr.out.cell 1
          by_cases hlt : k < K
          · obtain ⟨F, hF⟩ : ∃ F, G.f row k = F := ⟨_, rfl⟩
            go_upto_region 14 with fail
            go_cut [13, 14] from 42 to 67 (fun u v wx => (CBox F u wx ∧ v = .bool true) ∧ Below wr.heap.size wr wx)
            case first =>
              as_aux_lemma =>
                have AT := hide (u_atc HG.out.1 HIGr.out row k (by rw [HG.out.2.1]; have := HK.out; omega) (by rw [HG.out.2.2]; omega) hF)
                obtain ⟨m0, m1, m2, -, -, -⟩ := Box.three (a := .int .i64 R) (b := .int .i64 K) (c := .slice AG (R * K) cG) HBGr.out
                clear mk
                go_wp2_with (
                  go_at_call 20
                  go_must (refine AT.out.mono ?_)
                  rintro e w2 ⟨rfl, b2⟩
                  have b2 := hide b2
                  clear m0 m1 m2)
                go_meet
                exact ⟨⟨⟨_, rfl, Box.new _ _ _⟩, rfl⟩, b2.out.alloc (by have := b2.out.size; omega) _⟩
            case rest =>
            obtain ⟨⟨⟨g13, rfl, h13⟩, rfl⟩, bc⟩ := hcut
            have bx := hide (bx.out.trans (bc.mono bx.out.size))
            have VX := hide (VX.out.low bc)
            have H13 := hide h13
            have hrr := hide (HRR.out k hlt)
            rw [hF] at hrr
            have hun := PG.upto_again HRR.out HK.out.2 hlt HU.out.1
            have hUs := HU.out.1
            unfold PG.again at hun
            rw [hF] at hun
            have hsa := wrap_succ (c := k) (by have := HK.out.1.2.2.2; omega)
            have y0 : wc.cell? ⟨g13, 0, none⟩ = some (.int .i32 (PG.rn F)) := H13.out.cell 0
            have y1 : wc.cell? ⟨g13, 1, none⟩ = some (.int .i64 (PG.kd F)) := H13.out.cell 1
            have y2 : wc.cell? ⟨g13, 2, none⟩ = some (.int .i64 (PG.pn F).1) := H13.out.cell 2
            have y3 : wc.cell? ⟨g13, 3, none⟩ = some (.int .i64 (PG.pn F).2.1) := H13.out.cell 3
            have y4 : wc.cell? ⟨g13, 4, none⟩ = some (.int .i64 (PG.pn F).2.2) := H13.out.cell 4
            have HKK := hide (show k < K from hlt)
            have hrn := PG.right_rn HG.out.1 (r := row) (j := k) (by rw [HG.out.2.1]; have := HK.out; omega) (by rw [HG.out.2.2]; omega)
            rw [hF] at hrn
            clear bc h13 mk HBGr HIGr hF
            by_cases hk2 : PG.kd F = 2
            · as_aux_lemma =>
                rw [if_neg (by omega)] at hun
                have hU := hide (And.intro hun HU.out.2)
                rw [hk2] at y1
                clear hun hrr hk2 hUs hrn HU
                go_wp2_with fail
                go_roundw
                case rel => exact ⟨k + 1, o, by omega, by go_num, hU, VX, bx⟩
                case measure =>
                rw [hsa]
                exact meas_succ HKK.out
            · as_aux_lemma =>
                rw [if_pos hk2] at hun
                have hkb : (PG.kd F == 2) = false := by simpa using hk2
                obtain ⟨AO, cO, hbo, -, -, -, hio⟩ := VX.out.open_ hUs.rows hUs.cols
                have HBO := hide hbo
                have PUT := u_put HU.out.2 hio row k (PG.rn F) (PG.pn F) (by have := HK.out; omega) (by have := HK.out; omega) hrn.1 hrn.2 (SP.out.below bx.out SP.out.lt)
                rw [putI_in rfl rfl] at PUT
                have hro := PG.right_putG HU.out.2 hrr.out.1 row k (PG.rn F)
                have hps := PG.put_size o row k (PG.rn F) (PG.pn F)
                rw [hUs.rows, hUs.cols] at hps
                generalize PG.putG o row k (PG.rn F) (PG.pn F) = o' at hun PUT hro hps
                have hU := hide (And.intro hun hro)
                have PUT := hide PUT
                have HPS := hide hps
                clear hun hrr hk2 hUs hrn HU hro hps VX hio hbo
                obtain ⟨m0, m1, m2, -, -, -⟩ := Box.three (a := .int .i64 R) (b := .int .i64 K) (c := .slice AO (R * K) cO) HBO.out
                generalize PG.rn F = f0 at *
                generalize PG.kd F = f1 at *
                obtain ⟨p0, p1, p2⟩ : PG.Pn := PG.pn F
                go_wp2_with (
                  go_at_call 8
                  go_must (refine PUT.out.mono ?_)
                  rintro e w2 ⟨v, rfl, ⟨s, rfl, ho⟩, b2⟩
                  obtain ⟨sA, sc, rfl, _⟩ := own_form' ho
                  have hst := hide (store_grid (B := w10.heap.size) (HBO.out.below b2 HBO.out.lt) rfl rfl rfl ⟨_, rfl, ho⟩ HGO.out)
                  have hb2 := HBO.out.below b2 HBO.out.lt
                  clear m0 m1 m2
                  obtain ⟨m0, m1, m2, f0, f1, f2⟩ := Box.three (a := .int .i64 R) (b := .int .i64 K) (c := .slice AO (R * K) cO) hb2
                  have bx := hide (bx.out.trans (b2.mono bx.out.size))
                  unfold gv
                  clear hb2 b2)
                go_roundw
                case rel => exact ⟨k + 1, o', by have := HKK.out; omega, by go_num, hU, hide hst.out.1, hide (bx.out.trans hst.out.2)⟩
                case measure =>
                rw [hsa]
                exact meas_succ HKK.out
          · have hkb : k = K := by omega
            subst hkb
            go_wp2_with fail
            go_meet
            exact ⟨⟨o, HU.out.1, HU.out.2, VX.out⟩, bx.out⟩
    case rest =>
    obtain ⟨⟨o, hu, hro, hgo⟩, bc⟩ := hcut
    have BB := hide (BB.out.trans (bc.mono BB.out.size))
    have SP := hide (SP.out.keep bc)
    have HBG := hide (HBG.out.below bc HBG.out.lt)
    have HIG := hide (HIG.out.low bc)
    obtain ⟨AO, cO, hbx, -, -, -, hig⟩ := hgo.open_ hu.rows hu.cols
    have HBO := hide (show Box wc gO 26 #[.int .i64 R, .int .i64 K, .slice AO (R * K) cO] from hbx)
    have HIO := hide (show IsG wc o (.agg #[.int .i64 R, .int .i64 K, .slice AO (R * K) cO]) from hig)
    have TXO := hide (show ∀ (w' : World) (v : Value), IsG w' o v → Calls Tryd.prog 10 #[v, .int .i64 row] w' fun e w'' => e = .returned (.string S) ∧ Below w'.heap.size w' w'' from fun w' v h => by
      have := u_text hro h row (by rw [hu.rows]; exact HK.out.2)
      rw [hu.cols] at this
      unfold PG.text at this
      rw [PG.upto_runes hu, HS.out] at this
      exact this)
    have TXN := hide (show ∀ (w' : World) (v : Value), IsG w' G v → Calls Tryd.prog 10 #[v, .int .i64 (-1)] w' fun e w'' => e = .returned (.string { data := #[] }) ∧ Below w'.heap.size w' w'' from fun w' v h => u_text_out HG.out.1 h (-1) (.inl (by omega)))
    have TXR := hide (show ∀ (w' : World) (v : Value), IsG w' G v → Calls Tryd.prog 10 #[v, .int .i64 R] w' fun e w'' => e = .returned (.string { data := #[] }) ∧ Below w'.heap.size w' w'' from fun w' v h => u_text_out HG.out.1 h R (.inr (by rw [HG.out.2.1]; omega)))
    have hal : PG.Alike (PG.resizeG G R K) G := by
      have h := PG.resize_same HG.out.1
      rw [HG.out.2.1, HG.out.2.2] at h
      exact h
    have HAL := hide hal
    have HRZ := hide (show PG.RightG (PG.resizeG G R K) from PG.right_resizeG HG.out.1 (by have := HK.out; omega) (by have := HK.out; omega) (by have := HK.out; omega) (by have := HK.out; omega))
    have hsum2 := HSU.out
    clear bc hgo hbx hig hu hro hal HSU
    go_upto_region 19 with fail
    go_cut [4] (fun u4 wx => (u4 = .bool true) ∧ Below wc.heap.size wc wx)
    case first =>
      as_aux_lemma =>
        refine wp_region_rj (n := 112) [] (fun _ => #[]) [(0, 0, 0, 0), (0, 0, 0, 0), (0, 0, 0, 0), (0, 0, 0, 0), (0, 0, 0, 0), (0, 0, 0, 0), (0, 0, 0, 0), (0, 0, 0, 0), (0, 0, 0, 0), (0, 0, 0, 0), (0, 0, 0, 0), (0, 0, 0, 0), (0, 0, 0, 0), (0, 0, 0, 0), (0, 0, 0, 0), (0, 0, 0, 0), (0, 0, 0, 0), (0, 0, 0, 0), (0, 0, 0, 0), (0, 0, 0, 0), (0, 0, 0, 0), (0, 0, 0, 0), (0, 0, 0, 0), (0, 0, 0, 0), (0, 0, 0, 0), (0, 0, 0, 0), (0, 0, 0, 0), (0, 0, 0, 0), (0, 0, 0, 0), (0, 0, 0, 0), (0, 0, 0, 0), (0, 0, 0, 0), (0, 0, 0, 0), (0, 0, 0, 0), (0, 0, 0, 0), (0, 0, 0, 0), (0, 0, 0, 0), (1, 0, 0, 0), (0, 0, 0, 0), (0, 0, 0, 0), (0, 0, 0, 0), (0, 0, 0, 0), (0, 0, 0, 0), (0, 0, 0, 0), (0, 0, 0, 0)] (fun j => [(.int .i64 c1), (.int .i64 c2), (.int .i64 K), (.pointer (some ⟨gG, 1, none⟩)), (.int .i64 K), (.bool true), (.bool true), (.agg #[.int .i64 R, .int .i64 K, .slice AO (R * K) cO]), (.int .i64 row), (.string S), (.agg #[.int .i64 R, .int .i64 K, .slice AG (R * K) cG]), (.int .i64 row), (.string S), (.bool true), (.bool true), (.bool true), (.agg #[.int .i64 R, .int .i64 K, .slice AG (R * K) cG]), (.string { data := #[] }), (.bool true), (.bool true), (.bool true), (.agg #[.int .i64 R, .int .i64 K, .slice AG (R * K) cG]), (.pointer (some ⟨gG, 0, none⟩)), (.int .i64 R), (.string { data := #[] }), (.bool true), (.bool true), (.bool true), (.agg #[.int .i64 R, .int .i64 K, .slice AG (R * K) cG]), (.bool true), (.bool true), (.bool true), (.agg #[.int .i64 R, .int .i64 K, .slice AG (R * K) cG]), (.pointer (some ⟨gG, 0, none⟩)), (.int .i64 R), (.pointer (some ⟨gG, 1, none⟩)), (.int .i64 K), undef, (.agg #[.int .i64 R, .int .i64 K, .slice AG (R * K) cG]), (.bool true), (.bool true), (.bool true), (.bool true), (.bool true), (.bool true)].getD j undef) (fun j => [PG.dflt, PG.dflt, PG.dflt, PG.dflt, PG.dflt, PG.dflt, PG.dflt, PG.dflt, PG.dflt, PG.dflt, PG.dflt, PG.dflt, PG.dflt, PG.dflt, PG.dflt, PG.dflt, PG.dflt, PG.dflt, PG.dflt, PG.dflt, PG.dflt, PG.dflt, PG.dflt, PG.dflt, PG.dflt, PG.dflt, PG.dflt, PG.dflt, PG.dflt, PG.dflt, PG.dflt, PG.dflt, PG.dflt, PG.dflt, PG.dflt, PG.dflt, PG.dflt, (PG.resizeG G R K), PG.dflt, PG.dflt, PG.dflt, PG.dflt, PG.dflt, PG.dflt, PG.dflt].getD j PG.dflt) (fun _ => 0) (by kernel_rfl) (by kernel_rfl) (by kernel_rfl) rfl (by kernel_rfl) (no4 rfl) (fun i j h => by revert h; exact no4 (p := fun _ => _) rfl i) (fun hRS => cases45 ⟨?_, ?_, ?_, ?_, ?_, ?_, ?_, ?_, ?_, ?_, ?_, ?_, ?_, ?_, ?_, ?_, ?_, ?_, ?_, ?_, ?_, ?_, ?_, ?_, ?_, ?_, ?_, ?_, ?_, ?_, ?_, ?_, ?_, ?_, ?_, ?_, ?_, ?_, ?_, ?_, ?_, ?_, ?_, ?_, ?_⟩) ?_
        · intro L a w' hL hsame hsz hJ hdep hcl
          have e0 : a.eval (.tmp 7) = (.int .i64 c1) := eval_base hsame (by kernel_rfl)
          refine Step.val _ rfl rfl (wanted_none rfl) (.int .i64 c1) w' (fun ρ hρ => ?_) (hJ.val hRS hcl hL rfl (Below.refl _ _) _ rfl)
          rw [hρ] at e0
          clear hJ hsame hdep hcl hρ hsz
          go_simp
        · intro L a w' hL hsame hsz hJ hdep hcl
          have e0 : a.eval (.tmp 8) = (.int .i64 c2) := eval_base hsame (by kernel_rfl)
          refine Step.val _ rfl rfl (wanted_none rfl) (.int .i64 c2) w' (fun ρ hρ => ?_) (hJ.val hRS hcl hL rfl (Below.refl _ _) _ rfl)
          rw [hρ] at e0
          clear hJ hsame hdep hcl hρ hsz
          go_simp
        · intro L a w' hL hsame hsz hJ hdep hcl
          have e0 : a.eval (.tmp 68) = (.int .i64 c1) := eval_slot (j := 0) (by kernel_rfl) (hJ.valOf (by decide) (dep_of hdep 0 (by kernel_rfl)) rfl rfl)
          have e1 : a.eval (.tmp 69) = (.int .i64 c2) := eval_slot (j := 1) (by kernel_rfl) (hJ.valOf (by decide) (dep_of hdep 1 (by kernel_rfl)) rfl rfl)
          refine Step.val _ rfl rfl (wanted_none rfl) (.int .i64 K) w' (fun ρ hρ => ?_) (hJ.val hRS hcl hL rfl (Below.refl _ _) _ rfl)
          rw [hρ] at e0 e1
          clear hJ hsame hdep hcl hρ hsz
          go_simp
        · intro L a w' hL hsame hsz hJ hdep hcl
          have e0 : a.eval (.tmp 5) = (.pointer (some ⟨gG, 0, none⟩)) := eval_base hsame (by kernel_rfl)
          refine Step.val _ rfl rfl (wanted_none rfl) (.pointer (some ⟨gG, 1, none⟩)) w' (fun ρ hρ => ?_) (hJ.val hRS hcl hL rfl (Below.refl _ _) _ rfl)
          rw [hρ] at e0
          clear hJ hsame hdep hcl hρ hsz
          go_simp
        · intro L a w' hL hsame hsz hJ hdep hcl
          have e0 : a.eval (.tmp 71) = (.pointer (some ⟨gG, 1, none⟩)) := eval_slot (j := 3) (by kernel_rfl) (hJ.valOf (by decide) (dep_of hdep 3 (by kernel_rfl)) rfl rfl)
          have hb := hJ.keptBox HBG.out (by simp)
          have q0 : w'.cell? ⟨gG, 1, none⟩ = some (.int .i64 K) := hb.cell 1
          refine Step.val _ rfl rfl (wanted_none rfl) (.int .i64 K) w' (fun ρ hρ => ?_) (hJ.val hRS hcl hL rfl (Below.refl _ _) _ rfl)
          rw [hρ] at e0
          clear hb
          clear hJ hsame hdep hcl hρ hsz
          go_simp
        · intro L a w' hL hsame hsz hJ hdep hcl
          have e0 : a.eval (.tmp 70) = (.int .i64 K) := eval_slot (j := 2) (by kernel_rfl) (hJ.valOf (by decide) (dep_of hdep 2 (by kernel_rfl)) rfl rfl)
          have e1 : a.eval (.tmp 72) = (.int .i64 K) := eval_slot (j := 4) (by kernel_rfl) (hJ.valOf (by decide) (dep_of hdep 4 (by kernel_rfl)) rfl rfl)
          refine Step.val _ rfl rfl (wanted_none rfl) (.bool true) w' (fun ρ hρ => ?_) (hJ.val hRS hcl hL rfl (Below.refl _ _) _ rfl)
          rw [hρ] at e0 e1
          clear hJ hsame hdep hcl hρ hsz
          go_simp
        · intro L a w' hL hsame hsz hJ hdep hcl
          have e0 : a.eval (.tmp 73) = (.bool true) := eval_slot (j := 5) (by kernel_rfl) (hJ.valOf (by decide) (dep_of hdep 5 (by kernel_rfl)) rfl rfl)
          refine Step.val _ rfl rfl (wanted_none rfl) (.bool true) w' (fun ρ hρ => ?_) (hJ.val hRS hcl hL rfl (Below.refl _ _) _ rfl)
          rw [hρ] at e0
          clear hJ hsame hdep hcl hρ hsz
          go_simp
        · intro L a w' hL hsame hsz hJ hdep hcl
          have gd : valOf _ 6 a = .bool true := hJ.valOf (by decide) (dep_of hdep 6 (by kernel_rfl)) rfl rfl
          have e0 : a.eval (.tmp 11) = (.pointer (some ⟨gO, 0, none⟩)) := eval_base hsame (by kernel_rfl)
          have hb := hJ.keptBox HBO.out (by simp)
          have q0 : w'.cell? ⟨gO, 0, none⟩ = some (.int .i64 R) := hb.cell 0
          have q1 : w'.cell? ⟨gO, 1, none⟩ = some (.int .i64 K) := hb.cell 1
          have q2 : w'.cell? ⟨gO, 2, none⟩ = some (.slice AO (R * K) cO) := hb.cell 2
          refine Step.val _ rfl rfl (wanted_some (g := 6) (b := true) rfl gd) (.agg #[.int .i64 R, .int .i64 K, .slice AO (R * K) cO]) w' (fun ρ hρ => ?_) (hJ.val hRS hcl hL rfl (Below.refl _ _) _ rfl)
          rw [hρ] at e0
          clear hb
          clear hJ hsame hdep hcl hρ hsz gd
          go_simp
        · intro L a w' hL hsame hsz hJ hdep hcl
          have gd : valOf _ 6 a = .bool true := hJ.valOf (by decide) (dep_of hdep 6 (by kernel_rfl)) rfl rfl
          have e0 : a.eval (.tmp 6) = (.int .i64 row) := eval_base hsame (by kernel_rfl)
          refine Step.val _ rfl rfl (wanted_some (g := 6) (b := true) rfl gd) (.int .i64 row) w' (fun ρ hρ => ?_) (hJ.val hRS hcl hL rfl (Below.refl _ _) _ rfl)
          rw [hρ] at e0
          clear hJ hsame hdep hcl hρ hsz gd
          go_simp
        · intro L a w' hL hsame hsz hJ hdep hcl
          have gd : valOf _ 6 a = .bool true := hJ.valOf (by decide) (dep_of hdep 6 (by kernel_rfl)) rfl rfl
          have e0 : a.eval (.tmp 75) = (.agg #[.int .i64 R, .int .i64 K, .slice AO (R * K) cO]) := eval_slot (j := 7) (by kernel_rfl) (hJ.valOf (by decide) (dep_of hdep 7 (by kernel_rfl)) rfl rfl)
          have e1 : a.eval (.tmp 76) = (.int .i64 row) := eval_slot (j := 8) (by kernel_rfl) (hJ.valOf (by decide) (dep_of hdep 8 (by kernel_rfl)) rfl rfl)
          refine Step.call _ rfl rfl (wanted_some (g := 6) (b := true) rfl gd) 10 #[.agg #[.int .i64 R, .int .i64 K, .slice AO (R * K) cO], .int .i64 row] (fun ρ hρ => ?_) ?_
          · skip
            rw [hρ] at e0 e1
            have ef : ρ (.func 10) = .func (.func 10) #[] #[] := (hρ _).symm
            clear hJ hsame hdep hcl hρ hsz gd
            go_simp
          · refine (TXO.out w' _ (HIO.out.low (hJ.kept.toBelow (Nat.le_refl _) (by simp)))).mono ?_
            rintro e w2 ⟨rfl, bb⟩
            exact ⟨_, rfl, hJ.val hRS hcl hL rfl bb _ rfl⟩
        · intro L a w' hL hsame hsz hJ hdep hcl
          have gd : valOf _ 6 a = .bool true := hJ.valOf (by decide) (dep_of hdep 6 (by kernel_rfl)) rfl rfl
          have e0 : a.eval (.tmp 5) = (.pointer (some ⟨gG, 0, none⟩)) := eval_base hsame (by kernel_rfl)
          have hb := hJ.keptBox HBG.out (by simp)
          have q0 : w'.cell? ⟨gG, 0, none⟩ = some (.int .i64 R) := hb.cell 0
          have q1 : w'.cell? ⟨gG, 1, none⟩ = some (.int .i64 K) := hb.cell 1
          have q2 : w'.cell? ⟨gG, 2, none⟩ = some (.slice AG (R * K) cG) := hb.cell 2
          refine Step.val _ rfl rfl (wanted_some (g := 6) (b := true) rfl gd) (.agg #[.int .i64 R, .int .i64 K, .slice AG (R * K) cG]) w' (fun ρ hρ => ?_) (hJ.val hRS hcl hL rfl (Below.refl _ _) _ rfl)
          rw [hρ] at e0
          clear hb
          clear hJ hsame hdep hcl hρ hsz gd
          go_simp
        · intro L a w' hL hsame hsz hJ hdep hcl
          have gd : valOf _ 6 a = .bool true := hJ.valOf (by decide) (dep_of hdep 6 (by kernel_rfl)) rfl rfl
          have e0 : a.eval (.tmp 6) = (.int .i64 row) := eval_base hsame (by kernel_rfl)
          refine Step.val _ rfl rfl (wanted_some (g := 6) (b := true) rfl gd) (.int .i64 row) w' (fun ρ hρ => ?_) (hJ.val hRS hcl hL rfl (Below.refl _ _) _ rfl)
          rw [hρ] at e0
          clear hJ hsame hdep hcl hρ hsz gd
          go_simp
        · intro L a w' hL hsame hsz hJ hdep hcl
          have gd : valOf _ 6 a = .bool true := hJ.valOf (by decide) (dep_of hdep 6 (by kernel_rfl)) rfl rfl
          have e0 : a.eval (.tmp 78) = (.agg #[.int .i64 R, .int .i64 K, .slice AG (R * K) cG]) := eval_slot (j := 10) (by kernel_rfl) (hJ.valOf (by decide) (dep_of hdep 10 (by kernel_rfl)) rfl rfl)
          have e1 : a.eval (.tmp 79) = (.int .i64 row) := eval_slot (j := 11) (by kernel_rfl) (hJ.valOf (by decide) (dep_of hdep 11 (by kernel_rfl)) rfl rfl)
          refine Step.call _ rfl rfl (wanted_some (g := 6) (b := true) rfl gd) 10 #[.agg #[.int .i64 R, .int .i64 K, .slice AG (R * K) cG], .int .i64 row] (fun ρ hρ => ?_) ?_
          · skip
            rw [hρ] at e0 e1
            have ef : ρ (.func 10) = .func (.func 10) #[] #[] := (hρ _).symm
            clear hJ hsame hdep hcl hρ hsz gd
            go_simp
          · refine (TXG.out w' _ (HIG.out.low (hJ.kept.toBelow (Nat.le_refl _) (by simp)))).mono ?_
            rintro e w2 ⟨rfl, bb⟩
            exact ⟨_, rfl, hJ.val hRS hcl hL rfl bb _ rfl⟩
        · intro L a w' hL hsame hsz hJ hdep hcl
          have gd : valOf _ 6 a = .bool true := hJ.valOf (by decide) (dep_of hdep 6 (by kernel_rfl)) rfl rfl
          have e0 : a.eval (.tmp 77) = (.string S) := eval_slot (j := 9) (by kernel_rfl) (hJ.valOf (by decide) (dep_of hdep 9 (by kernel_rfl)) rfl rfl)
          have e1 : a.eval (.tmp 80) = (.string S) := eval_slot (j := 12) (by kernel_rfl) (hJ.valOf (by decide) (dep_of hdep 12 (by kernel_rfl)) rfl rfl)
          refine Step.val _ rfl rfl (wanted_some (g := 6) (b := true) rfl gd) (.bool true) w' (fun ρ hρ => ?_) (hJ.val hRS hcl hL rfl (Below.refl _ _) _ rfl)
          rw [hρ] at e0 e1
          clear hJ hsame hdep hcl hρ hsz gd
          go_simp
        · intro L a w' hL hsame hsz hJ hdep hcl
          have e0 : a.eval (.tmp 74) = (.bool true) := eval_slot (j := 6) (by kernel_rfl) (hJ.valOf (by decide) (dep_of hdep 6 (by kernel_rfl)) rfl rfl)
          have e1 : a.eval (.tmp 81) = (.bool true) := eval_slot (j := 13) (by kernel_rfl) (hJ.valOf (by decide) (dep_of hdep 13 (by kernel_rfl)) rfl rfl)
          refine Step.val _ rfl rfl (wanted_none rfl) (.bool true) w' (fun ρ hρ => ?_) (hJ.val hRS hcl hL rfl (Below.refl _ _) _ rfl)
          rw [hρ] at e0 e1
          have ec0 : ρ (.const (.bool false)) = (.bool false) := (hρ _).symm
          clear hJ hsame hdep hcl hρ hsz
          go_simp
        · intro L a w' hL hsame hsz hJ hdep hcl
          have e0 : a.eval (.tmp 82) = (.bool true) := eval_slot (j := 14) (by kernel_rfl) (hJ.valOf (by decide) (dep_of hdep 14 (by kernel_rfl)) rfl rfl)
          refine Step.val _ rfl rfl (wanted_none rfl) (.bool true) w' (fun ρ hρ => ?_) (hJ.val hRS hcl hL rfl (Below.refl _ _) _ rfl)
          rw [hρ] at e0
          clear hJ hsame hdep hcl hρ hsz
          go_simp
        · intro L a w' hL hsame hsz hJ hdep hcl
          have gd : valOf _ 15 a = .bool true := hJ.valOf (by decide) (dep_of hdep 15 (by kernel_rfl)) rfl rfl
          have e0 : a.eval (.tmp 5) = (.pointer (some ⟨gG, 0, none⟩)) := eval_base hsame (by kernel_rfl)
          have hb := hJ.keptBox HBG.out (by simp)
          have q0 : w'.cell? ⟨gG, 0, none⟩ = some (.int .i64 R) := hb.cell 0
          have q1 : w'.cell? ⟨gG, 1, none⟩ = some (.int .i64 K) := hb.cell 1
          have q2 : w'.cell? ⟨gG, 2, none⟩ = some (.slice AG (R * K) cG) := hb.cell 2
          refine Step.val _ rfl rfl (wanted_some (g := 15) (b := true) rfl gd) (.agg #[.int .i64 R, .int .i64 K, .slice AG (R * K) cG]) w' (fun ρ hρ => ?_) (hJ.val hRS hcl hL rfl (Below.refl _ _) _ rfl)
          rw [hρ] at e0
          clear hb
          clear hJ hsame hdep hcl hρ hsz gd
          go_simp
        · intro L a w' hL hsame hsz hJ hdep hcl
          have gd : valOf _ 15 a = .bool true := hJ.valOf (by decide) (dep_of hdep 15 (by kernel_rfl)) rfl rfl
          have e0 : a.eval (.tmp 84) = (.agg #[.int .i64 R, .int .i64 K, .slice AG (R * K) cG]) := eval_slot (j := 16) (by kernel_rfl) (hJ.valOf (by decide) (dep_of hdep 16 (by kernel_rfl)) rfl rfl)
          refine Step.call _ rfl rfl (wanted_some (g := 15) (b := true) rfl gd) 10 #[.agg #[.int .i64 R, .int .i64 K, .slice AG (R * K) cG], .int .i64 (-1)] (fun ρ hρ => ?_) ?_
          · skip
            rw [hρ] at e0
            have ec0 : ρ (.const (.int .i64 (-1))) = (.int .i64 (-1)) := (hρ _).symm
            have ef : ρ (.func 10) = .func (.func 10) #[] #[] := (hρ _).symm
            clear hJ hsame hdep hcl hρ hsz gd
            go_simp
          · refine (TXN.out w' _ (HIG.out.low (hJ.kept.toBelow (Nat.le_refl _) (by simp)))).mono ?_
            rintro e w2 ⟨rfl, bb⟩
            exact ⟨_, rfl, hJ.val hRS hcl hL rfl bb _ rfl⟩
        · intro L a w' hL hsame hsz hJ hdep hcl
          have gd : valOf _ 15 a = .bool true := hJ.valOf (by decide) (dep_of hdep 15 (by kernel_rfl)) rfl rfl
          have e0 : a.eval (.tmp 85) = (.string { data := #[] }) := eval_slot (j := 17) (by kernel_rfl) (hJ.valOf (by decide) (dep_of hdep 17 (by kernel_rfl)) rfl rfl)
          refine Step.val _ rfl rfl (wanted_some (g := 15) (b := true) rfl gd) (.bool true) w' (fun ρ hρ => ?_) (hJ.val hRS hcl hL rfl (Below.refl _ _) _ rfl)
          rw [hρ] at e0
          have ec0 : ρ (.const (.string { data := #[] })) = (.string { data := #[] }) := (hρ _).symm
          clear hJ hsame hdep hcl hρ hsz gd
          go_simp
        · intro L a w' hL hsame hsz hJ hdep hcl
          have e0 : a.eval (.tmp 83) = (.bool true) := eval_slot (j := 15) (by kernel_rfl) (hJ.valOf (by decide) (dep_of hdep 15 (by kernel_rfl)) rfl rfl)
          have e1 : a.eval (.tmp 86) = (.bool true) := eval_slot (j := 18) (by kernel_rfl) (hJ.valOf (by decide) (dep_of hdep 18 (by kernel_rfl)) rfl rfl)
          refine Step.val _ rfl rfl (wanted_none rfl) (.bool true) w' (fun ρ hρ => ?_) (hJ.val hRS hcl hL rfl (Below.refl _ _) _ rfl)
          rw [hρ] at e0 e1
          have ec0 : ρ (.const (.bool false)) = (.bool false) := (hρ _).symm
          clear hJ hsame hdep hcl hρ hsz
          go_simp
        · intro L a w' hL hsame hsz hJ hdep hcl
          have e0 : a.eval (.tmp 87) = (.bool true) := eval_slot (j := 19) (by kernel_rfl) (hJ.valOf (by decide) (dep_of hdep 19 (by kernel_rfl)) rfl rfl)
          refine Step.val _ rfl rfl (wanted_none rfl) (.bool true) w' (fun ρ hρ => ?_) (hJ.val hRS hcl hL rfl (Below.refl _ _) _ rfl)
          rw [hρ] at e0
          clear hJ hsame hdep hcl hρ hsz
          go_simp
        · intro L a w' hL hsame hsz hJ hdep hcl
          have gd : valOf _ 20 a = .bool true := hJ.valOf (by decide) (dep_of hdep 20 (by kernel_rfl)) rfl rfl
          have e0 : a.eval (.tmp 5) = (.pointer (some ⟨gG, 0, none⟩)) := eval_base hsame (by kernel_rfl)
          have hb := hJ.keptBox HBG.out (by simp)
          have q0 : w'.cell? ⟨gG, 0, none⟩ = some (.int .i64 R) := hb.cell 0
          have q1 : w'.cell? ⟨gG, 1, none⟩ = some (.int .i64 K) := hb.cell 1
          have q2 : w'.cell? ⟨gG, 2, none⟩ = some (.slice AG (R * K) cG) := hb.cell 2
          refine Step.val _ rfl rfl (wanted_some (g := 20) (b := true) rfl gd) (.agg #[.int .i64 R, .int .i64 K, .slice AG (R * K) cG]) w' (fun ρ hρ => ?_) (hJ.val hRS hcl hL rfl (Below.refl _ _) _ rfl)
          rw [hρ] at e0
          clear hb
          clear hJ hsame hdep hcl hρ hsz gd
          go_simp
        · intro L a w' hL hsame hsz hJ hdep hcl
          have gd : valOf _ 20 a = .bool true := hJ.valOf (by decide) (dep_of hdep 20 (by kernel_rfl)) rfl rfl
          have e0 : a.eval (.tmp 5) = (.pointer (some ⟨gG, 0, none⟩)) := eval_base hsame (by kernel_rfl)
          refine Step.val _ rfl rfl (wanted_some (g := 20) (b := true) rfl gd) (.pointer (some ⟨gG, 0, none⟩)) w' (fun ρ hρ => ?_) (hJ.val hRS hcl hL rfl (Below.refl _ _) _ rfl)
          rw [hρ] at e0
          clear hJ hsame hdep hcl hρ hsz gd
          go_simp
        · intro L a w' hL hsame hsz hJ hdep hcl
          have gd : valOf _ 20 a = .bool true := hJ.valOf (by decide) (dep_of hdep 20 (by kernel_rfl)) rfl rfl
          have e0 : a.eval (.tmp 90) = (.pointer (some ⟨gG, 0, none⟩)) := eval_slot (j := 22) (by kernel_rfl) (hJ.valOf (by decide) (dep_of hdep 22 (by kernel_rfl)) rfl rfl)
          have hb := hJ.keptBox HBG.out (by simp)
          have q0 : w'.cell? ⟨gG, 0, none⟩ = some (.int .i64 R) := hb.cell 0
          refine Step.val _ rfl rfl (wanted_some (g := 20) (b := true) rfl gd) (.int .i64 R) w' (fun ρ hρ => ?_) (hJ.val hRS hcl hL rfl (Below.refl _ _) _ rfl)
          rw [hρ] at e0
          clear hb
          clear hJ hsame hdep hcl hρ hsz gd
          go_simp
        · intro L a w' hL hsame hsz hJ hdep hcl
          have gd : valOf _ 20 a = .bool true := hJ.valOf (by decide) (dep_of hdep 20 (by kernel_rfl)) rfl rfl
          have e0 : a.eval (.tmp 89) = (.agg #[.int .i64 R, .int .i64 K, .slice AG (R * K) cG]) := eval_slot (j := 21) (by kernel_rfl) (hJ.valOf (by decide) (dep_of hdep 21 (by kernel_rfl)) rfl rfl)
          have e1 : a.eval (.tmp 91) = (.int .i64 R) := eval_slot (j := 23) (by kernel_rfl) (hJ.valOf (by decide) (dep_of hdep 23 (by kernel_rfl)) rfl rfl)
          refine Step.call _ rfl rfl (wanted_some (g := 20) (b := true) rfl gd) 10 #[.agg #[.int .i64 R, .int .i64 K, .slice AG (R * K) cG], .int .i64 R] (fun ρ hρ => ?_) ?_
          · skip
            rw [hρ] at e0 e1
            have ef : ρ (.func 10) = .func (.func 10) #[] #[] := (hρ _).symm
            clear hJ hsame hdep hcl hρ hsz gd
            go_simp
          · refine (TXR.out w' _ (HIG.out.low (hJ.kept.toBelow (Nat.le_refl _) (by simp)))).mono ?_
            rintro e w2 ⟨rfl, bb⟩
            exact ⟨_, rfl, hJ.val hRS hcl hL rfl bb _ rfl⟩
        · intro L a w' hL hsame hsz hJ hdep hcl
          have gd : valOf _ 20 a = .bool true := hJ.valOf (by decide) (dep_of hdep 20 (by kernel_rfl)) rfl rfl
          have e0 : a.eval (.tmp 92) = (.string { data := #[] }) := eval_slot (j := 24) (by kernel_rfl) (hJ.valOf (by decide) (dep_of hdep 24 (by kernel_rfl)) rfl rfl)
          refine Step.val _ rfl rfl (wanted_some (g := 20) (b := true) rfl gd) (.bool true) w' (fun ρ hρ => ?_) (hJ.val hRS hcl hL rfl (Below.refl _ _) _ rfl)
          rw [hρ] at e0
          have ec0 : ρ (.const (.string { data := #[] })) = (.string { data := #[] }) := (hρ _).symm
          clear hJ hsame hdep hcl hρ hsz gd
          go_simp
        · intro L a w' hL hsame hsz hJ hdep hcl
          have e0 : a.eval (.tmp 88) = (.bool true) := eval_slot (j := 20) (by kernel_rfl) (hJ.valOf (by decide) (dep_of hdep 20 (by kernel_rfl)) rfl rfl)
          have e1 : a.eval (.tmp 93) = (.bool true) := eval_slot (j := 25) (by kernel_rfl) (hJ.valOf (by decide) (dep_of hdep 25 (by kernel_rfl)) rfl rfl)
          refine Step.val _ rfl rfl (wanted_none rfl) (.bool true) w' (fun ρ hρ => ?_) (hJ.val hRS hcl hL rfl (Below.refl _ _) _ rfl)
          rw [hρ] at e0 e1
          have ec0 : ρ (.const (.bool false)) = (.bool false) := (hρ _).symm
          clear hJ hsame hdep hcl hρ hsz
          go_simp
        · intro L a w' hL hsame hsz hJ hdep hcl
          have e0 : a.eval (.tmp 94) = (.bool true) := eval_slot (j := 26) (by kernel_rfl) (hJ.valOf (by decide) (dep_of hdep 26 (by kernel_rfl)) rfl rfl)
          refine Step.val _ rfl rfl (wanted_none rfl) (.bool true) w' (fun ρ hρ => ?_) (hJ.val hRS hcl hL rfl (Below.refl _ _) _ rfl)
          rw [hρ] at e0
          clear hJ hsame hdep hcl hρ hsz
          go_simp
        · intro L a w' hL hsame hsz hJ hdep hcl
          have gd : valOf _ 27 a = .bool true := hJ.valOf (by decide) (dep_of hdep 27 (by kernel_rfl)) rfl rfl
          have e0 : a.eval (.tmp 5) = (.pointer (some ⟨gG, 0, none⟩)) := eval_base hsame (by kernel_rfl)
          have hb := hJ.keptBox HBG.out (by simp)
          have q0 : w'.cell? ⟨gG, 0, none⟩ = some (.int .i64 R) := hb.cell 0
          have q1 : w'.cell? ⟨gG, 1, none⟩ = some (.int .i64 K) := hb.cell 1
          have q2 : w'.cell? ⟨gG, 2, none⟩ = some (.slice AG (R * K) cG) := hb.cell 2
          refine Step.val _ rfl rfl (wanted_some (g := 27) (b := true) rfl gd) (.agg #[.int .i64 R, .int .i64 K, .slice AG (R * K) cG]) w' (fun ρ hρ => ?_) (hJ.val hRS hcl hL rfl (Below.refl _ _) _ rfl)
          rw [hρ] at e0
          clear hb
          clear hJ hsame hdep hcl hρ hsz gd
          go_simp
        · intro L a w' hL hsame hsz hJ hdep hcl
          have gd : valOf _ 27 a = .bool true := hJ.valOf (by decide) (dep_of hdep 27 (by kernel_rfl)) rfl rfl
          have e0 : a.eval (.tmp 96) = (.agg #[.int .i64 R, .int .i64 K, .slice AG (R * K) cG]) := eval_slot (j := 28) (by kernel_rfl) (hJ.valOf (by decide) (dep_of hdep 28 (by kernel_rfl)) rfl rfl)
          refine Step.call _ rfl rfl (wanted_some (g := 27) (b := true) rfl gd) 11 #[.agg #[.int .i64 R, .int .i64 K, .slice AG (R * K) cG]] (fun ρ hρ => ?_) ?_
          · skip
            rw [hρ] at e0
            have ef : ρ (.func 11) = .func (.func 11) #[] #[] := (hρ _).symm
            clear hJ hsame hdep hcl hρ hsz gd
            go_simp
          · refine (u_right HG.out.1 (HIG.out.low (hJ.kept.toBelow (Nat.le_refl _) (by simp))) (SP.out.keptS hJ.kept (by simp))).mono ?_
            rintro e w2 ⟨rfl, bb⟩
            exact ⟨_, rfl, hJ.val hRS hcl hL rfl bb _ rfl⟩
        · intro L a w' hL hsame hsz hJ hdep hcl
          have e0 : a.eval (.tmp 95) = (.bool true) := eval_slot (j := 27) (by kernel_rfl) (hJ.valOf (by decide) (dep_of hdep 27 (by kernel_rfl)) rfl rfl)
          have e1 : a.eval (.tmp 97) = (.bool true) := eval_slot (j := 29) (by kernel_rfl) (hJ.valOf (by decide) (dep_of hdep 29 (by kernel_rfl)) rfl rfl)
          refine Step.val _ rfl rfl (wanted_none rfl) (.bool true) w' (fun ρ hρ => ?_) (hJ.val hRS hcl hL rfl (Below.refl _ _) _ rfl)
          rw [hρ] at e0 e1
          have ec0 : ρ (.const (.bool false)) = (.bool false) := (hρ _).symm
          clear hJ hsame hdep hcl hρ hsz
          go_simp
        · intro L a w' hL hsame hsz hJ hdep hcl
          have e0 : a.eval (.tmp 98) = (.bool true) := eval_slot (j := 30) (by kernel_rfl) (hJ.valOf (by decide) (dep_of hdep 30 (by kernel_rfl)) rfl rfl)
          refine Step.val _ rfl rfl (wanted_none rfl) (.bool true) w' (fun ρ hρ => ?_) (hJ.val hRS hcl hL rfl (Below.refl _ _) _ rfl)
          rw [hρ] at e0
          clear hJ hsame hdep hcl hρ hsz
          go_simp
        · intro L a w' hL hsame hsz hJ hdep hcl
          have gd : valOf _ 31 a = .bool true := hJ.valOf (by decide) (dep_of hdep 31 (by kernel_rfl)) rfl rfl
          have e0 : a.eval (.tmp 5) = (.pointer (some ⟨gG, 0, none⟩)) := eval_base hsame (by kernel_rfl)
          have hb := hJ.keptBox HBG.out (by simp)
          have q0 : w'.cell? ⟨gG, 0, none⟩ = some (.int .i64 R) := hb.cell 0
          have q1 : w'.cell? ⟨gG, 1, none⟩ = some (.int .i64 K) := hb.cell 1
          have q2 : w'.cell? ⟨gG, 2, none⟩ = some (.slice AG (R * K) cG) := hb.cell 2
          refine Step.val _ rfl rfl (wanted_some (g := 31) (b := true) rfl gd) (.agg #[.int .i64 R, .int .i64 K, .slice AG (R * K) cG]) w' (fun ρ hρ => ?_) (hJ.val hRS hcl hL rfl (Below.refl _ _) _ rfl)
          rw [hρ] at e0
          clear hb
          clear hJ hsame hdep hcl hρ hsz gd
          go_simp
        · intro L a w' hL hsame hsz hJ hdep hcl
          have gd : valOf _ 31 a = .bool true := hJ.valOf (by decide) (dep_of hdep 31 (by kernel_rfl)) rfl rfl
          have e0 : a.eval (.tmp 5) = (.pointer (some ⟨gG, 0, none⟩)) := eval_base hsame (by kernel_rfl)
          refine Step.val _ rfl rfl (wanted_some (g := 31) (b := true) rfl gd) (.pointer (some ⟨gG, 0, none⟩)) w' (fun ρ hρ => ?_) (hJ.val hRS hcl hL rfl (Below.refl _ _) _ rfl)
          rw [hρ] at e0
          clear hJ hsame hdep hcl hρ hsz gd
          go_simp
        · intro L a w' hL hsame hsz hJ hdep hcl
          have gd : valOf _ 31 a = .bool true := hJ.valOf (by decide) (dep_of hdep 31 (by kernel_rfl)) rfl rfl
          have e0 : a.eval (.tmp 101) = (.pointer (some ⟨gG, 0, none⟩)) := eval_slot (j := 33) (by kernel_rfl) (hJ.valOf (by decide) (dep_of hdep 33 (by kernel_rfl)) rfl rfl)
          have hb := hJ.keptBox HBG.out (by simp)
          have q0 : w'.cell? ⟨gG, 0, none⟩ = some (.int .i64 R) := hb.cell 0
          refine Step.val _ rfl rfl (wanted_some (g := 31) (b := true) rfl gd) (.int .i64 R) w' (fun ρ hρ => ?_) (hJ.val hRS hcl hL rfl (Below.refl _ _) _ rfl)
          rw [hρ] at e0
          clear hb
          clear hJ hsame hdep hcl hρ hsz gd
          go_simp
        · intro L a w' hL hsame hsz hJ hdep hcl
          have gd : valOf _ 31 a = .bool true := hJ.valOf (by decide) (dep_of hdep 31 (by kernel_rfl)) rfl rfl
          have e0 : a.eval (.tmp 5) = (.pointer (some ⟨gG, 0, none⟩)) := eval_base hsame (by kernel_rfl)
          refine Step.val _ rfl rfl (wanted_some (g := 31) (b := true) rfl gd) (.pointer (some ⟨gG, 1, none⟩)) w' (fun ρ hρ => ?_) (hJ.val hRS hcl hL rfl (Below.refl _ _) _ rfl)
          rw [hρ] at e0
          clear hJ hsame hdep hcl hρ hsz gd
          go_simp
        · intro L a w' hL hsame hsz hJ hdep hcl
          have gd : valOf _ 31 a = .bool true := hJ.valOf (by decide) (dep_of hdep 31 (by kernel_rfl)) rfl rfl
          have e0 : a.eval (.tmp 103) = (.pointer (some ⟨gG, 1, none⟩)) := eval_slot (j := 35) (by kernel_rfl) (hJ.valOf (by decide) (dep_of hdep 35 (by kernel_rfl)) rfl rfl)
          have hb := hJ.keptBox HBG.out (by simp)
          have q0 : w'.cell? ⟨gG, 1, none⟩ = some (.int .i64 K) := hb.cell 1
          refine Step.val _ rfl rfl (wanted_some (g := 31) (b := true) rfl gd) (.int .i64 K) w' (fun ρ hρ => ?_) (hJ.val hRS hcl hL rfl (Below.refl _ _) _ rfl)
          rw [hρ] at e0
          clear hb
          clear hJ hsame hdep hcl hρ hsz gd
          go_simp
        · intro L a w' hL hsame hsz hJ hdep hcl
          have gd : valOf _ 31 a = .bool true := hJ.valOf (by decide) (dep_of hdep 31 (by kernel_rfl)) rfl rfl
          have e0 : a.eval (.tmp 100) = (.agg #[.int .i64 R, .int .i64 K, .slice AG (R * K) cG]) := eval_slot (j := 32) (by kernel_rfl) (hJ.valOf (by decide) (dep_of hdep 32 (by kernel_rfl)) rfl rfl)
          have e1 : a.eval (.tmp 102) = (.int .i64 R) := eval_slot (j := 34) (by kernel_rfl) (hJ.valOf (by decide) (dep_of hdep 34 (by kernel_rfl)) rfl rfl)
          have e2 : a.eval (.tmp 104) = (.int .i64 K) := eval_slot (j := 36) (by kernel_rfl) (hJ.valOf (by decide) (dep_of hdep 36 (by kernel_rfl)) rfl rfl)
          refine Step.call _ rfl rfl (wanted_some (g := 31) (b := true) rfl gd) 18 #[.agg #[.int .i64 R, .int .i64 K, .slice AG (R * K) cG], .int .i64 R, .int .i64 K] (fun ρ hρ => ?_) ?_
          · skip
            rw [hρ] at e0 e1 e2
            have ef : ρ (.func 18) = .func (.func 18) #[] #[] := (hρ _).symm
            clear hJ hsame hdep hcl hρ hsz gd
            go_simp
          · refine (u_resize HG.out.1 (HIG.out.low (hJ.kept.toBelow (Nat.le_refl _) (by simp))) R K (by have := HK.out; omega) (by have := HK.out; omega) (by have := HK.out; omega) (by have := HK.out; omega)).mono ?_
            rintro e w2 ⟨v, rfl, hg, bb⟩
            exact ⟨v, rfl, hJ.grid hRS hcl hL rfl bb v hg⟩
        · intro L a w' hL hsame hsz hJ hdep hcl
          have gd : valOf _ 31 a = .bool true := hJ.valOf (by decide) (dep_of hdep 31 (by kernel_rfl)) rfl rfl
          have e0 : a.eval (.tmp 5) = (.pointer (some ⟨gG, 0, none⟩)) := eval_base hsame (by kernel_rfl)
          have hb := hJ.keptBox HBG.out (by simp)
          have q0 : w'.cell? ⟨gG, 0, none⟩ = some (.int .i64 R) := hb.cell 0
          have q1 : w'.cell? ⟨gG, 1, none⟩ = some (.int .i64 K) := hb.cell 1
          have q2 : w'.cell? ⟨gG, 2, none⟩ = some (.slice AG (R * K) cG) := hb.cell 2
          refine Step.val _ rfl rfl (wanted_some (g := 31) (b := true) rfl gd) (.agg #[.int .i64 R, .int .i64 K, .slice AG (R * K) cG]) w' (fun ρ hρ => ?_) (hJ.val hRS hcl hL rfl (Below.refl _ _) _ rfl)
          rw [hρ] at e0
          clear hb
          clear hJ hsame hdep hcl hρ hsz gd
          go_simp
        · intro L a w' hL hsame hsz hJ hdep hcl
          have gd : valOf _ 31 a = .bool true := hJ.valOf (by decide) (dep_of hdep 31 (by kernel_rfl)) rfl rfl
          obtain ⟨v37, hv37, hG37⟩ := hJ.gridAt (j := 37) (by decide) (dep_of hdep 37 (by kernel_rfl)) rfl
          have hG37 : IsG w' (PG.resizeG G R K) v37 := hG37
          have e0 : a.eval (.tmp 105) = v37 := eval_slot (j := 37) (by kernel_rfl) hv37
          have e1 : a.eval (.tmp 106) = (.agg #[.int .i64 R, .int .i64 K, .slice AG (R * K) cG]) := eval_slot (j := 38) (by kernel_rfl) (hJ.valOf (by decide) (dep_of hdep 38 (by kernel_rfl)) rfl rfl)
          refine Step.call _ rfl rfl (wanted_some (g := 31) (b := true) rfl gd) 22 #[v37, .agg #[.int .i64 R, .int .i64 K, .slice AG (R * K) cG]] (fun ρ hρ => ?_) ?_
          · skip
            rw [hρ] at e0 e1
            have ef : ρ (.func 22) = .func (.func 22) #[] #[] := (hρ _).symm
            clear hJ hsame hdep hcl hρ hsz gd
            go_simp
          · refine (u_same HRZ.out hG37 (HIG.out.low (hJ.kept.toBelow (Nat.le_refl _) (by simp))) HAL.out).mono ?_
            rintro e w2 ⟨rfl, bb⟩
            exact ⟨_, rfl, hJ.val hRS hcl hL rfl bb _ rfl⟩
        · intro L a w' hL hsame hsz hJ hdep hcl
          have e0 : a.eval (.tmp 99) = (.bool true) := eval_slot (j := 31) (by kernel_rfl) (hJ.valOf (by decide) (dep_of hdep 31 (by kernel_rfl)) rfl rfl)
          have e1 : a.eval (.tmp 107) = (.bool true) := eval_slot (j := 39) (by kernel_rfl) (hJ.valOf (by decide) (dep_of hdep 39 (by kernel_rfl)) rfl rfl)
          refine Step.val _ rfl rfl (wanted_none rfl) (.bool true) w' (fun ρ hρ => ?_) (hJ.val hRS hcl hL rfl (Below.refl _ _) _ rfl)
          rw [hρ] at e0 e1
          have ec0 : ρ (.const (.bool false)) = (.bool false) := (hρ _).symm
          clear hJ hsame hdep hcl hρ hsz
          go_simp
        · intro L a w' hL hsame hsz hJ hdep hcl
          have e0 : a.eval (.tmp 108) = (.bool true) := eval_slot (j := 40) (by kernel_rfl) (hJ.valOf (by decide) (dep_of hdep 40 (by kernel_rfl)) rfl rfl)
          refine Step.val _ rfl rfl (wanted_none rfl) (.bool true) w' (fun ρ hρ => ?_) (hJ.val hRS hcl hL rfl (Below.refl _ _) _ rfl)
          rw [hρ] at e0
          clear hJ hsame hdep hcl hρ hsz
          go_simp
        · intro L a w' hL hsame hsz hJ hdep hcl
          have gd : valOf _ 41 a = .bool true := hJ.valOf (by decide) (dep_of hdep 41 (by kernel_rfl)) rfl rfl
          refine Step.call _ rfl rfl (wanted_some (g := 41) (b := true) rfl gd) 3 #[] (fun ρ hρ => ?_) ?_
          · skip
            have ef : ρ (.func 3) = .func (.func 3) #[] #[] := (hρ _).symm
            clear hJ hsame hdep hcl hρ hsz gd
            go_simp
          · refine (gridRuns_any w' (SP.out.keptS hJ.kept (by simp))).mono ?_
            rintro e w2 ⟨rfl, bb⟩
            exact ⟨_, rfl, hJ.val hRS hcl hL rfl bb _ rfl⟩
        · intro L a w' hL hsame hsz hJ hdep hcl
          have e0 : a.eval (.tmp 109) = (.bool true) := eval_slot (j := 41) (by kernel_rfl) (hJ.valOf (by decide) (dep_of hdep 41 (by kernel_rfl)) rfl rfl)
          have e1 : a.eval (.tmp 110) = (.bool true) := eval_slot (j := 42) (by kernel_rfl) (hJ.valOf (by decide) (dep_of hdep 42 (by kernel_rfl)) rfl rfl)
          refine Step.val _ rfl rfl (wanted_none rfl) (.bool true) w' (fun ρ hρ => ?_) (hJ.val hRS hcl hL rfl (Below.refl _ _) _ rfl)
          rw [hρ] at e0 e1
          have ec0 : ρ (.const (.bool false)) = (.bool false) := (hρ _).symm
          clear hJ hsame hdep hcl hρ hsz
          go_simp
        · intro L a w' hL hsame hsz hJ hdep hcl
          have e0 : a.eval (.tmp 111) = (.bool true) := eval_slot (j := 43) (by kernel_rfl) (hJ.valOf (by decide) (dep_of hdep 43 (by kernel_rfl)) rfl rfl)
          refine Step.val _ rfl rfl (wanted_none rfl) (.bool true) w' (fun ρ hρ => ?_) (hJ.val hRS hcl hL rfl (Below.refl _ _) _ rfl)
          rw [hρ] at e0
          clear hJ hsame hdep hcl hρ hsz
          go_simp
        · intro L a w' hsame hsz hJ hall
          obtain ⟨u, hu, ha⟩ := act_puts hsame
          have h : (u 44 = .bool true) ∧ Below wc.heap.size wc w' := by
            (try simp only [hu])
            exact (And.intro (hJ.valOf (j := 44) (by decide) (hall 44 (by decide)) rfl rfl) (hJ.kept.toBelow (Nat.le_refl _) (by simp)))
          have h := hide h
          clear hJ hall hsz hu hsame
          subst ha
          change Exit.then _ _ Exit.normal (Act.put (Act.put (Act.put (Act.put (Act.put (Act.put (Act.put (Act.put (Act.put (Act.put (Act.put (Act.put (Act.put (Act.put (Act.put (Act.put (Act.put (Act.put (Act.put (Act.put (Act.put (Act.put (Act.put (Act.put (Act.put (Act.put (Act.put (Act.put (Act.put (Act.put (Act.put (Act.put (Act.put (Act.put (Act.put (Act.put (Act.put (Act.put (Act.put (Act.put (Act.put (Act.put (Act.put (Act.put (Act.put (putAll _ u 0 _) (some 68) (u 0)) (some 69) (u 1)) (some 70) (u 2)) (some 71) (u 3)) (some 72) (u 4)) (some 73) (u 5)) (some 74) (u 6)) (some 75) (u 7)) (some 76) (u 8)) (some 77) (u 9)) (some 78) (u 10)) (some 79) (u 11)) (some 80) (u 12)) (some 81) (u 13)) (some 82) (u 14)) (some 83) (u 15)) (some 84) (u 16)) (some 85) (u 17)) (some 86) (u 18)) (some 87) (u 19)) (some 88) (u 20)) (some 89) (u 21)) (some 90) (u 22)) (some 91) (u 23)) (some 92) (u 24)) (some 93) (u 25)) (some 94) (u 26)) (some 95) (u 27)) (some 96) (u 28)) (some 97) (u 29)) (some 98) (u 30)) (some 99) (u 31)) (some 100) (u 32)) (some 101) (u 33)) (some 102) (u 34)) (some 103) (u 35)) (some 104) (u 36)) (some 105) (u 37)) (some 106) (u 38)) (some 107) (u 39)) (some 108) (u 40)) (some 109) (u 41)) (some 110) (u 42)) (some 111) (u 43)) (some 4) (u 44)) _
          simp only [putAll]
          generalize u 0 = v0
          generalize u 1 = v1
          generalize u 2 = v2
          generalize u 3 = v3
          generalize u 4 = v4
          generalize u 5 = v5
          generalize u 6 = v6
          generalize u 7 = v7
          generalize u 8 = v8
          generalize u 9 = v9
          generalize u 10 = v10
          generalize u 11 = v11
          generalize u 12 = v12
          generalize u 13 = v13
          generalize u 14 = v14
          generalize u 15 = v15
          generalize u 16 = v16
          generalize u 17 = v17
          generalize u 18 = v18
          generalize u 19 = v19
          generalize u 20 = v20
          generalize u 21 = v21
          generalize u 22 = v22
          generalize u 23 = v23
          generalize u 24 = v24
          generalize u 25 = v25
          generalize u 26 = v26
          generalize u 27 = v27
          generalize u 28 = v28
          generalize u 29 = v29
          generalize u 30 = v30
          generalize u 31 = v31
          generalize u 32 = v32
          generalize u 33 = v33
          generalize u 34 = v34
          generalize u 35 = v35
          generalize u 36 = v36
          generalize u 37 = v37
          generalize u 38 = v38
          generalize u 39 = v39
          generalize u 40 = v40
          generalize u 41 = v41
          generalize u 42 = v42
          generalize u 43 = v43
          generalize u 44 = v44 at h ⊢
          go_simp
          go_step
          go_meet
          exact h.out
    case rest =>
    obtain ⟨rfl, bc⟩ := hcut
    have BB := hide (BB.out.trans (bc.mono BB.out.size))
    have SP := hide (SP.out.keep bc)
    have HBG := hide (HBG.out.below bc HBG.out.lt)
    have HIG := hide (HIG.out.low bc)
    have HBO := hide (HBO.out.below bc HBO.out.lt)
    have HIO := hide (HIO.out.low bc)
    go_wp2_with fail
    go_ret
    exact ⟨rfl, BB.out⟩
theorem gridTexts_any (rw_ cl : Int) (Ap : Option Addr) (np cp : Nat) (lp : List Int) (At : Option Addr) (nt ct : Nat) (lt : List Int) (r : Int) (w : World)
    (hrw : (Lit.int .i64 rw_).wf = true) (hcl : (Lit.int .i64 cl).wf = true) (hA : Arg .i64 w Ap np cp lp) (hB : Arg .i64 w At nt ct lt) (hr : (Lit.int .i64 r).wf = true) (hs : Spans w) :
    Calls Tryd.prog 6 #[.agg #[.int .i64 rw_, .int .i64 cl, .slice Ap np cp, .slice At nt ct], .int .i64 r] w fun e w' => e = .returned (.bool true) ∧ Below w.heap.size w w' :=
  gridTexts_core rw_ cl Ap np cp lp At nt ct lt r w (bounds_i64 hrw) (bounds_i64 hcl) hA hB (bounds_i64 hr) hs
end Go.Proofs.YtfeapcneebofjaaDoor
