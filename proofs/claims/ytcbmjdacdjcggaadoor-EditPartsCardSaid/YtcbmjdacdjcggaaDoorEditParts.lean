/- EditParts: by one, so often, is by as many at once; more than there are is all. -/
import Derived.Test.YtcbmjdacdjcggaaDoorEditRuns
import Derived.Test.YtcbmjdacdjcggaaDoorKeepPen
import Derived.Test.YtcbmjdacdjcggaaDoorGridPlaysP
set_option maxRecDepth 100000
namespace Go.Proofs.YtcbmjdacdjcggaaDoor
open Go.RowKit
set_option linter.unusedVariables false
theorem wrap_predP {R : Nat} (h : R ≤ 100) : IntKind.i64.wrap ((R : Int) - 1) = (R : Int) - 1 := IntWalk.i64_in _ (by omega)
set_option maxHeartbeats 16000000 in
theorem editParts_core (rw_ cl : Int) (Ap : Option Addr) (np cp : Nat) (lp : List Int) (At : Option Addr) (nt ct : Nat) (lt : List Int) (c m a0 a1 a2 : Int) (w : World)
    (hrw : -9223372036854775808 ≤ rw_ ∧ rw_ ≤ 9223372036854775807) (hcl : -9223372036854775808 ≤ cl ∧ cl ≤ 9223372036854775807) (hA : Arg .i64 w Ap np cp lp) (hB : Arg .i64 w At nt ct lt)
    (hc : -9223372036854775808 ≤ c ∧ c ≤ 9223372036854775807) (hm : -9223372036854775808 ≤ m ∧ m ≤ 9223372036854775807)
    (ha0 : -9223372036854775808 ≤ a0 ∧ a0 ≤ 9223372036854775807) (ha1 : -9223372036854775808 ≤ a1 ∧ a1 ≤ 9223372036854775807) (ha2 : -9223372036854775808 ≤ a2 ∧ a2 ≤ 9223372036854775807) (hs : Spans w) :
    Calls Tryd.prog 7 #[.agg #[.int .i64 rw_, .int .i64 cl, .slice Ap np cp, .slice At nt ct], .int .i64 c, .int .i64 m, .agg #[.int .i64 a0, .int .i64 a1, .int .i64 a2]] w fun e w' => e = .returned (.bool true) ∧ Below w.heap.size w w' := by
  have hP := C.kpen_right a0 a1 a2
  have KP := hide (fun w' => keepPen_any a0 a1 a2 w' ha0.1 ha0.2 ha1.1 ha1.2 ha2.1 ha2.2)
  generalize C.kcol a0 = pa at hP KP
  generalize C.kcol a1 = pb at hP KP
  generalize a2 % 256 = pc at hP KP
  have hP : PG.okPen (pa, pb, pc) := hP
  have HP := hide hP
  obtain ⟨R, hR⟩ : ∃ R : Nat, 1 + rw_ % (5 - 1 + 1) = (R : Int) := ⟨(1 + rw_ % 5).toNat, by omega⟩
  obtain ⟨K, hK⟩ : ∃ K : Nat, 1 + cl % (9 - 1 + 1) = (K : Int) := ⟨(1 + cl % 9).toNat, by omega⟩
  have hR1 : 1 ≤ R ∧ R ≤ 5 ∧ 1 ≤ K ∧ K ≤ 9 := by omega
  have hGG := keepG_right lp lt (R := R) (K := K) hR1.1 hR1.2.1 hR1.2.2.1 hR1.2.2.2
  have K1 := hide (fun (w' : World) (b : Below w.heap.size w w') => u_keepGrid rw_ cl R K np cp nt ct lp lt Ap At w w' b hR hK hrw hcl hA hB)
  have hsz : (PG.ofL R K (PG.keepCells lp lt R K)).rows = R ∧ (PG.ofL R K (PG.keepCells lp lt R K)).cols = K := ⟨rfl, rfl⟩
  generalize PG.ofL R K (PG.keepCells lp lt R K) = G at hGG K1 hsz
  have within : ∀ (z : Int) (N : Nat), 1 ≤ N → ∃ k : Nat, 0 + z % ((N : Int) - 1 - 0 + 1) = k ∧ k < N := fun z N hN => by
    have e : (N : Int) - 1 - 0 + 1 = N := by omega
    have h1 := Int.emod_nonneg z (show (N : Int) ≠ 0 by omega)
    have h2 := Int.emod_lt_of_pos z (show (0 : Int) < N by omega)
    rw [e]
    exact ⟨(z % (N : Int)).toNat, by omega, by omega⟩
  obtain ⟨col, hcol, hcK⟩ := within c K hR1.2.2.1
  obtain ⟨mm, hmm⟩ : ∃ k : Nat, 0 + m % (6 - 0 + 1) = k := ⟨(m % 7).toNat, by omega⟩
  have KC := hide (fun w' => within_is c 0 ((K : Int) - 1) col hcol w' hc.1 hc.2 (by omega) (by omega) (by omega))
  have KM := hide (fun w' => within_is m 0 6 mm hmm w' hm.1 hm.2 (by omega) (by omega) (by omega))
  have HK := hide (show (1 ≤ R ∧ R ≤ 5 ∧ 1 ≤ K ∧ K ≤ 9) ∧ col < K ∧ mm ≤ 6 from ⟨hR1, hcK, by omega⟩)
  have HG := hide (show PG.RightG G ∧ G.rows = R ∧ G.cols = K from ⟨hGG, hsz⟩)
  have SP := hide hs
  have HA := hide hA
  have HB := hide hB
  clear hrw hcl hc hm ha0 ha1 ha2 hs hcol hcK hmm hR hK hR1 hGG hsz within hP hA hB
  go_enter Tryd.func7, Tryd.ntmps7
  go_upto_region 1 with fail
  have bb : Below w.heap.size w ((w.alloc (.cells #[.int .i64 rw_, .int .i64 cl, .slice Ap np cp, .slice At nt ct] 36)).alloc (.cells #[.int .i64 a0, .int .i64 a1, .int .i64 a2] 39)) := ((Below.refl _ _).alloc (Nat.le_refl _) _).alloc (by simp) _
  have bX := (Box.new w 36 #[.int .i64 rw_, .int .i64 cl, .slice Ap np cp, .slice At nt ct]).alloc (.cells #[.int .i64 a0, .int .i64 a1, .int .i64 a2] 39)
  have bY := Box.new (w.alloc (.cells #[.int .i64 rw_, .int .i64 cl, .slice Ap np cp, .slice At nt ct] 36)) 39 #[.int .i64 a0, .int .i64 a1, .int .i64 a2]
  rw [World.size_alloc] at bY
  generalize (w.alloc (.cells #[.int .i64 rw_, .int .i64 cl, .slice Ap np cp, .slice At nt ct] 36)).alloc (.cells #[.int .i64 a0, .int .i64 a1, .int .i64 a2] 39) = w1 at bb bX bY ⊢
  obtain ⟨gX, hgX⟩ : ∃ g, w.heap.size = g := ⟨_, rfl⟩
  obtain ⟨gY, hgY⟩ : ∃ g, w.heap.size + 1 = g := ⟨_, rfl⟩
  have BB := hide bb
  have SP := hide (SP.out.keep bb)
  rw [hgY] at bY ⊢
  rw [hgX] at bX ⊢
  have BX := hide bX
  have BY := hide bY
  clear bb bX bY hgX hgY
  go_cut [9, 10] (fun u9 u10 wx => (GVar w1.heap.size G u9 wx ∧ (∃ g, u10 = .pointer (some ⟨g, 0, none⟩) ∧ w1.heap.size ≤ g ∧ Box wx g 23 #[.int .i64 pa, .int .i64 pb, .int .i64 pc])) ∧ Below w1.heap.size w1 wx)
  case first =>
    as_aux_lemma =>
      refine wp_region_rj (n := 150) [] (fun _ => #[]) [(0, 0, 0, 0), (1, 0, 0, 0), (0, 0, 0, 0), (0, 0, 0, 0), (2, 0, 0, 27), (2, 0, 0, 23), (3, 4, 1, 27), (3, 5, 3, 23)] (fun j => [(.agg #[.int .i64 rw_, .int .i64 cl, .slice Ap np cp, .slice At nt ct]), undef, (.agg #[.int .i64 a0, .int .i64 a1, .int .i64 a2]), (.agg #[.int .i64 pa, .int .i64 pb, .int .i64 pc]), undef, undef, undef, undef].getD j undef) (fun j => [PG.dflt, G, PG.dflt, PG.dflt, PG.dflt, PG.dflt, PG.dflt, PG.dflt].getD j PG.dflt) (fun _ => 0) (by kernel_rfl) (by kernel_rfl) (by kernel_rfl) rfl (by kernel_rfl) (no4 rfl) (fun i j h => by revert h; exact no4 (p := fun _ => _) rfl i) (fun hRS => cases8 ⟨?_, ?_, ?_, ?_, ?_, ?_, ?_, ?_⟩) ?_
      · intro L a w' hL hsame hsz hJ hdep hcl
        have e0 : a.eval (.tmp 4) = (.pointer (some ⟨gX, 0, none⟩)) := eval_base hsame (by kernel_rfl)
        have hb := hJ.keptBox BX.out (by simp)
        have q0 : w'.cell? ⟨gX, 0, none⟩ = some (.int .i64 rw_) := hb.cell 0
        have q1 : w'.cell? ⟨gX, 1, none⟩ = some (.int .i64 cl) := hb.cell 1
        have q2 : w'.cell? ⟨gX, 2, none⟩ = some (.slice Ap np cp) := hb.cell 2
        have q3 : w'.cell? ⟨gX, 3, none⟩ = some (.slice At nt ct) := hb.cell 3
        refine Step.val _ rfl rfl (wanted_none rfl) (.agg #[.int .i64 rw_, .int .i64 cl, .slice Ap np cp, .slice At nt ct]) w' (fun ρ hρ => ?_) (hJ.val hRS hcl hL rfl (Below.refl _ _) _ rfl)
        rw [hρ] at e0
        clear hb
        clear hJ hsame hdep hcl hρ hsz
        go_simp
      · intro L a w' hL hsame hsz hJ hdep hcl
        have e0 : a.eval (.tmp 22) = (.agg #[.int .i64 rw_, .int .i64 cl, .slice Ap np cp, .slice At nt ct]) := eval_slot (j := 0) (by kernel_rfl) (hJ.valOf (by decide) (dep_of hdep 0 (by kernel_rfl)) rfl rfl)
        refine Step.call _ rfl rfl (wanted_none rfl) 16 #[.agg #[.int .i64 rw_, .int .i64 cl, .slice Ap np cp, .slice At nt ct]] (fun ρ hρ => ?_) ?_
        · skip
          rw [hρ] at e0
          have ef : ρ (.func 16) = .func (.func 16) #[] #[] := (hρ _).symm
          clear hJ hsame hdep hcl hρ hsz
          go_simp
        · refine (K1.out w' (BB.out.trans ((hJ.kept.toBelow (Nat.le_refl _) (by simp)).mono BB.out.size))).mono ?_
          rintro e w2 ⟨v, rfl, hg, bb⟩
          exact ⟨v, rfl, hJ.grid hRS hcl hL rfl bb v hg⟩
      · intro L a w' hL hsame hsz hJ hdep hcl
        have e0 : a.eval (.tmp 7) = (.pointer (some ⟨gY, 0, none⟩)) := eval_base hsame (by kernel_rfl)
        have hb := hJ.keptBox BY.out (by simp)
        have q0 : w'.cell? ⟨gY, 0, none⟩ = some (.int .i64 a0) := hb.cell 0
        have q1 : w'.cell? ⟨gY, 1, none⟩ = some (.int .i64 a1) := hb.cell 1
        have q2 : w'.cell? ⟨gY, 2, none⟩ = some (.int .i64 a2) := hb.cell 2
        refine Step.val _ rfl rfl (wanted_none rfl) (.agg #[.int .i64 a0, .int .i64 a1, .int .i64 a2]) w' (fun ρ hρ => ?_) (hJ.val hRS hcl hL rfl (Below.refl _ _) _ rfl)
        rw [hρ] at e0
        clear hb
        clear hJ hsame hdep hcl hρ hsz
        go_simp
      · intro L a w' hL hsame hsz hJ hdep hcl
        have e0 : a.eval (.tmp 24) = (.agg #[.int .i64 a0, .int .i64 a1, .int .i64 a2]) := eval_slot (j := 2) (by kernel_rfl) (hJ.valOf (by decide) (dep_of hdep 2 (by kernel_rfl)) rfl rfl)
        refine Step.call _ rfl rfl (wanted_none rfl) 17 #[.agg #[.int .i64 a0, .int .i64 a1, .int .i64 a2]] (fun ρ hρ => ?_) ?_
        · skip
          rw [hρ] at e0
          have ef : ρ (.func 17) = .func (.func 17) #[] #[] := (hρ _).symm
          clear hJ hsame hdep hcl hρ hsz
          go_simp
        · refine (KP.out w').mono ?_
          rintro e w2 ⟨rfl, bb⟩
          exact ⟨_, rfl, hJ.val hRS hcl hL rfl bb _ rfl⟩
      · intro L a w' hL hsame hsz hJ hdep hcl
        refine Step.val _ rfl rfl (wanted_none rfl) (.pointer (some ⟨w'.heap.size, 0, none⟩)) (w'.alloc (.cells #[.int .i64 0, .int .i64 0, .slice none 0 0] 27)) (fun ρ hρ => ?_) (hJ.box hRS hcl hL rfl 27 rfl (.int .i64 0) (.int .i64 0) (.slice none 0 0))
        clear hJ hsame hdep hcl hρ hsz
        go_simp
      · intro L a w' hL hsame hsz hJ hdep hcl
        refine Step.val _ rfl rfl (wanted_none rfl) (.pointer (some ⟨w'.heap.size, 0, none⟩)) (w'.alloc (.cells #[.int .i64 0, .int .i64 0, .int .i64 0] 23)) (fun ρ hρ => ?_) (hJ.box hRS hcl hL rfl 23 rfl (.int .i64 0) (.int .i64 0) (.int .i64 0))
        clear hJ hsame hdep hcl hρ hsz
        go_simp
      · intro L a w' hL hsame hsz hJ hdep hcl
        obtain ⟨sv, hsv, hso⟩ := hJ.gridOf (by decide) (dep_of hdep 1 (by kernel_rfl)) rfl
        obtain ⟨sA, sc, rfl, _⟩ := own_form' hso
        have es : a.eval (.tmp 23) = .agg #[.int .i64 (G).rows, .int .i64 (G).cols, .slice sA ((G).rows * (G).cols) sc] := eval_slot (j := 1) (by kernel_rfl) hsv
        have la := dep_of hdep 4 (by kernel_rfl)
        obtain ⟨g, cs, hg, hg0, hb, hs3⟩ := hJ.boxOf (by decide) la rfl
        obtain ⟨c0, c1, c2, rfl⟩ := three_of hs3
        obtain ⟨m0, m1, m2, f0, f1, f2⟩ := hb.three
        have ea : a.eval (.tmp 9) = .pointer (some ⟨g, 0, none⟩) := eval_slot (j := 4) (by kernel_rfl) hg
        refine Step.skip _ rfl (wanted_none rfl) (set3 w' g (.int .i64 (G).rows) (.int .i64 (G).cols) (.slice sA ((G).rows * (G).cols) sc)) (fun ρ hρ => ?_) (hJ.put hRS hcl hL rfl la (dep_of hdep 1 (by kernel_rfl)) hg hsv)
        rw [hρ] at es ea
        clear hJ hsame hdep hcl hρ hsz hg hb hso hsv
        unfold set3
        go_simp
      · intro L a w' hL hsame hsz hJ hdep hcl
        have hsv := hJ.valOf (j := 3) (by decide) (dep_of hdep 3 (by kernel_rfl)) rfl rfl
        have es : a.eval (.tmp 25) = .agg #[.int .i64 pa, .int .i64 pb, .int .i64 pc] := eval_slot (j := 3) (by kernel_rfl) hsv
        have la := dep_of hdep 5 (by kernel_rfl)
        obtain ⟨g, cs, hg, hg0, hb, hs3⟩ := hJ.boxOf (by decide) la rfl
        obtain ⟨c0, c1, c2, rfl⟩ := three_of hs3
        obtain ⟨m0, m1, m2, f0, f1, f2⟩ := hb.three
        have ea : a.eval (.tmp 10) = .pointer (some ⟨g, 0, none⟩) := eval_slot (j := 5) (by kernel_rfl) hg
        refine Step.skip _ rfl (wanted_none rfl) (set3 w' g (.int .i64 pa) (.int .i64 pb) (.int .i64 pc)) (fun ρ hρ => ?_) (hJ.put hRS hcl hL rfl la (dep_of hdep 3 (by kernel_rfl)) hg hsv)
        rw [hρ] at es ea
        clear hJ hsame hdep hcl hρ hsz hg hb hsv
        unfold set3
        go_simp
      · intro L a w' hsame hsz hJ hall
        obtain ⟨u, hu, ha⟩ := act_puts hsame
        have h : (GVar w1.heap.size G (u 4) w' ∧ (∃ g, u 5 = .pointer (some ⟨g, 0, none⟩) ∧ w1.heap.size ≤ g ∧ Box w' g 23 #[.int .i64 pa, .int .i64 pb, .int .i64 pc])) ∧ Below w1.heap.size w1 w' := by
          (try simp only [hu])
          exact (And.intro (And.intro (hJ.var hall 6 (by decide) rfl rfl (by decide) rfl (by decide) rfl) (hJ.var0 hall 7 (by decide) rfl rfl (by decide) rfl (by decide) rfl rfl)) (hJ.kept.toBelow (Nat.le_refl _) (by simp)))
        have h := hide h
        clear hJ hall hsz hu hsame
        subst ha
        change Exit.then _ _ Exit.normal (Act.put (Act.put (Act.put (Act.put (Act.put (Act.put (Act.put (Act.put (putAll _ u 0 _) (some 22) (u 0)) (some 23) (u 1)) (some 24) (u 2)) (some 25) (u 3)) (some 9) (u 4)) (some 10) (u 5)) none (u 6)) none (u 7)) _
        simp only [putAll]
        generalize u 0 = v0
        generalize u 1 = v1
        generalize u 2 = v2
        generalize u 3 = v3
        generalize u 4 = v4 at h ⊢
        generalize u 5 = v5 at h ⊢
        generalize u 6 = v6
        generalize u 7 = v7
        go_simp
        go_step
        go_meet
        exact h.out
  case rest =>
  obtain ⟨⟨⟨gG, rfl, hgG, hG⟩, ⟨gP, rfl, hgP, hP⟩⟩, bc⟩ := hcut
  have hgp : gP ≠ gG := fun e => by
    obtain ⟨s, h1, -⟩ := hG
    exact absurd (box_type (e ▸ h1) hP) (by decide)
  have HGP := hide hgp
  have HGG := hide hgG
  have HT := hide hG
  have BP := hide (show Box wc gP 23 #[.int .i64 pa, .int .i64 pb, .int .i64 pc] from hP)
  have BC := hide bc
  clear hgp hgG hG hP bc hgP BX BY K1 KP
  go_upto_block 0 with fail
  go_cut [11] (fun _ wx => (∃ Gx, PG.RightG Gx ∧ Gx.rows = R ∧ Gx.cols = K ∧ (∀ i, i < R → PG.Singles (Gx.f i) K) ∧ GBox wx Gx gG ∧ Box wx gP 23 #[.int .i64 pa, .int .i64 pb, .int .i64 pc]) ∧ Below w1.heap.size w1 wx)
  case first =>
    as_aux_lemma =>
      go_wp2_with fail
      go_loopw [11] (fun i wr => ∃ (y : Nat) (Gx : PG.Gr), y ≤ R ∧ i = .int .i64 y ∧ Hid (PG.RightG Gx ∧ Gx.rows = R ∧ Gx.cols = K ∧ ∀ i, i < y → PG.Singles (Gx.f i) K) ∧ Hid (GBox wr Gx gG) ∧ Hid (Box wr gP 23 #[.int .i64 pa, .int .i64 pb, .int .i64 pc]) ∧ Hid (Below w1.heap.size w1 wr)) (fun i _ => R - (intOf i).toNat)
      case atStart => exact ⟨0, G, by omega, rfl, hide ⟨HG.out.1, HG.out.2.1, HG.out.2.2, fun i hi => by omega⟩, HT, BP, BC⟩
      case round =>
        clear HT BP BC
        obtain ⟨y, Gx, hyR, rfl, HX, HT, BP, bx⟩ := hrel
        obtain ⟨A0, c0, hb0, -, -, -, hi0⟩ := HT.out.open_ HX.out.2.1 HX.out.2.2.1
        have mk0 : wr.cell? ⟨gG, 0, none⟩ = some (.int .i64 R) := hb0.cell 0
        have hb5 : R ≤ 5 := HK.out.1.2.1
        have hb9 : K ≤ 9 := HK.out.1.2.2.2
        clear hb0 hi0
        by_cases hy : y < R
        · have HY := hide hy
          go_wp2_with fail
          clear mk0
          go_loopw [12] (fun i wi => ∃ (x : Nat) (Gx : PG.Gr), x ≤ K ∧ i = .int .i64 x ∧ Hid (PG.RightG Gx ∧ Gx.rows = R ∧ Gx.cols = K ∧ (∀ i, i < y → PG.Singles (Gx.f i) K) ∧ ∀ j, j < x → PG.kd (Gx.f y j) = 0) ∧ Hid (GBox wi Gx gG) ∧ Hid (Box wi gP 23 #[.int .i64 pa, .int .i64 pb, .int .i64 pc]) ∧ Hid (Below w1.heap.size w1 wi)) (fun i _ => K - (intOf i).toNat)
          case atStart => exact ⟨0, Gx, by omega, rfl, hide ⟨HX.out.1, HX.out.2.1, HX.out.2.2.1, HX.out.2.2.2, fun j hj => by omega⟩, HT, BP, bx⟩
          case round =>
            clear HX HT BP bx
            obtain ⟨x, Gx, hxK, rfl, HX, HT, BP, bx⟩ := hrel
            rename World => wi
            obtain ⟨AG, cG, hbg, -, -, -, hig⟩ := HT.out.open_ HX.out.2.1 HX.out.2.2.1
            have HBG := hide (show Box wi gG 27 #[.int .i64 R, .int .i64 K, .slice AG (R * K) cG] from hbg)
            have HIG := hide (show IsG wi Gx (.agg #[.int .i64 R, .int .i64 K, .slice AG (R * K) cG]) from hig)
            clear hbg hig HT
            have mk1 : wi.cell? ⟨gG, 1, none⟩ = some (.int .i64 K) := HBG.out.cell 1
            by_cases hx : x < K
            · obtain ⟨F, hF⟩ : ∃ F, Gx.f y x = F := ⟨_, rfl⟩
              have HXK := hide hx
              have hov := PG.put_over (g := Gx) (r := y) (x := x) (by rw [HX.out.2.1]; exact HY.out) (by rw [HX.out.2.2.1]; exact hx) HX.out.2.2.2.2
              have hrp := (HX.out.1.2.2.2.2 y (by rw [HX.out.2.1]; exact HY.out) x (by rw [HX.out.2.2.1]; exact hx)).1
              have hpr := PG.right_putG HX.out.1 hrp y x 119
              have hps := PG.put_size Gx y x 119 (PG.pn (Gx.f y x))
              rw [hF] at hov hps hpr hrp
              have HOV := hide hov
              have HPR := hide hpr
              have HPS := hide hps
              clear hov hrp hpr hps
              go_upto_region 8 with fail
              clear mk1
              go_cut [13, 14] from 32 to 53 (fun u v wx => (CBox F u wx ∧ v = .bool true) ∧ Below wi.heap.size wi wx)
              case first =>
                as_aux_lemma =>
                  have AT := hide (u_atc HX.out.1 HIG.out y x (by rw [HX.out.2.1]; exact HY.out) (by rw [HX.out.2.2.1]; exact HXK.out) hF)
                  obtain ⟨m0, m1, m2, -, -, -⟩ := Box.three (a := .int .i64 R) (b := .int .i64 K) (c := .slice AG (R * K) cG) HBG.out
                  go_wp2_with (
                    go_at_call 27
                    go_must (refine AT.out.mono ?_)
                    rintro e w2 ⟨rfl, b2⟩
                    have b2 := hide b2
                    clear m0 m1 m2)
                  go_meet
                  exact ⟨⟨⟨_, rfl, Box.new _ _ _⟩, rfl⟩, b2.out.alloc (by have := b2.out.size; omega) _⟩
              case rest =>
              obtain ⟨⟨⟨g13, rfl, h13⟩, rfl⟩, bc⟩ := hcut
              have bx := hide (bx.out.trans (bc.mono bx.out.size))
              have HBG := hide (HBG.out.below bc HBG.out.lt)
              have HIG := hide (HIG.out.low bc)
              have BP := hide (BP.out.below bc BP.out.lt)
              have H13 := hide h13
              clear bc h13
              have y1 : wc.cell? ⟨g13, 1, none⟩ = some (.int .i64 (PG.kd F)) := H13.out.cell 1
              by_cases hk : PG.kd F = 0
              · rw [hk] at y1
                have HN := hide (show ∀ j, j < x + 1 → PG.kd (Gx.f y j) = 0 from fun j hj => by
                  by_cases e : j = x
                  · rw [e, hF]
                    exact hk
                  · exact HX.out.2.2.2.2 j (by omega))
                have HT := hide (show GBox wc Gx gG from ⟨_, by rw [HX.out.2.1, HX.out.2.2.1]; exact HBG.out, by rw [HX.out.2.1, HX.out.2.2.1]; exact HIG.out⟩)
                clear hk hF
                go_wp2_with fail
                go_roundw
                case rel => exact ⟨x + 1, Gx, by have := HXK.out; omega, by go_num, hide ⟨HX.out.1, HX.out.2.1, HX.out.2.2.1, HX.out.2.2.2.1, HN.out⟩, HT, BP, bx⟩
                case measure => exact meas_succ HXK.out
              · have y0 : wc.cell? ⟨g13, 0, none⟩ = some (.int .i32 (PG.rn F)) := H13.out.cell 0
                have y2 : wc.cell? ⟨g13, 2, none⟩ = some (.int .i64 (PG.pn F).1) := H13.out.cell 2
                have y3 : wc.cell? ⟨g13, 3, none⟩ = some (.int .i64 (PG.pn F).2.1) := H13.out.cell 3
                have y4 : wc.cell? ⟨g13, 4, none⟩ = some (.int .i64 (PG.pn F).2.2) := H13.out.cell 4
                have hkb : (PG.kd F == 0) = false := by simpa using hk
                have PUT := u_put HX.out.1 HIG.out y x 119 (PG.pn F) (by have := HY.out; omega) (by have := HXK.out; omega) (by omega) (by omega) (SP.out.below bx.out SP.out.lt)
                rw [putI_in rfl rfl] at PUT
                have hrows : ∀ i, i < y → PG.Singles ((PG.putG Gx y x 119 (PG.pn F)).f i) K := fun i hi => by
                  rw [HOV.out.2 i (by omega)]
                  exact HX.out.2.2.2.1 i hi
                have HN := hide (show PG.RightG (PG.putG Gx y x 119 (PG.pn F)) ∧ (PG.putG Gx y x 119 (PG.pn F)).rows = R ∧ (PG.putG Gx y x 119 (PG.pn F)).cols = K ∧ (∀ i, i < y → PG.Singles ((PG.putG Gx y x 119 (PG.pn F)).f i) K) ∧ ∀ j, j < x + 1 → PG.kd ((PG.putG Gx y x 119 (PG.pn F)).f y j) = 0 from ⟨HPR.out, HPS.out.1.trans HX.out.2.1, HPS.out.2.trans HX.out.2.2.1, hrows, HOV.out.1⟩)
                clear HOV HPR HPS hk hF HX hrows
                generalize PG.putG Gx y x 119 (PG.pn F) = G2 at PUT HN
                have PUT := hide PUT
                obtain ⟨m0, m1, m2, -, -, -⟩ := Box.three (a := .int .i64 R) (b := .int .i64 K) (c := .slice AG (R * K) cG) HBG.out
                go_wp2_with (
                  go_at_call 10
                  go_must (refine PUT.out.mono ?_)
                  rintro e w2 ⟨v, rfl, ⟨s, rfl, ho⟩, b2⟩
                  obtain ⟨sA, sc, rfl, _⟩ := own_form' ho
                  have hst := hide (store_grid (B := w1.heap.size) (HBG.out.below b2 HBG.out.lt) rfl rfl rfl ⟨_, rfl, ho⟩ HGG.out)
                  have BPn := hide (set3_far (BP.out.below b2 BP.out.lt) HGP.out (.int .i64 G2.rows) (.int .i64 G2.cols) (.slice sA (G2.rows * G2.cols) sc))
                  have hb2 := HBG.out.below b2 HBG.out.lt
                  clear m0 m1 m2
                  obtain ⟨m0, m1, m2, f0, f1, f2⟩ := Box.three (a := .int .i64 R) (b := .int .i64 K) (c := .slice AG (R * K) cG) hb2
                  have bx := hide (bx.out.trans (b2.mono bx.out.size))
                  unfold gv
                  clear hb2 b2)
                go_roundw
                case rel => exact ⟨x + 1, G2, by have := HXK.out; omega, by go_num, HN, hide hst.out.1, BPn, hide (bx.out.trans hst.out.2)⟩
                case measure => exact meas_succ HXK.out
            · obtain rfl : x = K := by omega
              have HT := hide (show GBox wi Gx gG from ⟨_, by rw [HX.out.2.1, HX.out.2.2.1]; exact HBG.out, by rw [HX.out.2.1, HX.out.2.2.1]; exact HIG.out⟩)
              have HN := hide (show ∀ i, i < y + 1 → PG.Singles (Gx.f i) x from fun i hi => by
                by_cases e : i = y
                · rw [e]
                  exact fun j hj => HX.out.2.2.2.2 j hj
                · exact HX.out.2.2.2.1 i (by omega))
              go_wp2_with fail
              go_roundw
              case rel => exact ⟨y + 1, Gx, by have := HY.out; omega, by go_num, hide ⟨HX.out.1, HX.out.2.1, HX.out.2.2.1, HN.out⟩, HT, BP, bx⟩
              case measure => exact meas_succ HY.out
        · obtain rfl : y = R := by omega
          go_wp2_with fail
          go_meet
          exact ⟨⟨Gx, HX.out.1, HX.out.2.1, HX.out.2.2.1, HX.out.2.2.2, HT.out, BP.out⟩, bx.out⟩
  case rest =>
  obtain ⟨⟨Gx, hr, h1, h2, hsg, hT, hP⟩, bc⟩ := hcut
  clear HT BP BC
  have BB := hide (BB.out.trans (bc.mono BB.out.size))
  have SP := hide (SP.out.keep bc)
  obtain ⟨AG, cG, hbx, -, -, -, hig⟩ := hT.open_ h1 h2
  have HBG := hide (show Box wc gG 27 #[.int .i64 R, .int .i64 K, .slice AG (R * K) cG] from hbx)
  have HIG := hide (show IsG wc Gx (.agg #[.int .i64 R, .int .i64 K, .slice AG (R * K) cG]) from hig)
  have BP := hide (show Box wc gP 23 #[.int .i64 pa, .int .i64 pb, .int .i64 pc] from hP)
  have HX := hide (show PG.RightG Gx ∧ Gx.rows = R ∧ Gx.cols = K ∧ PG.Singles (Gx.f 0) K from ⟨hr, h1, h2, hsg 0 (by have := HK.out; omega)⟩)
  clear bc hT hP hbx hig hr h1 h2 hsg
  have hsK := wrap_predP (R := K) (by have := HK.out; omega)
  go_upto_region 11 with fail
  go_cut [15, 16] (fun u15 u16 wx => (u15 = .int .i64 mm ∧ u16 = .int .i64 col) ∧ Below wc.heap.size wc wx)
  case first =>
    as_aux_lemma =>
      refine wp_region_rj (n := 150) [] (fun _ => #[]) [(0, 0, 0, 0), (0, 0, 0, 0), (0, 0, 0, 0), (0, 0, 0, 0), (0, 0, 0, 0), (0, 0, 0, 0), (0, 0, 0, 0), (0, 0, 0, 0), (0, 0, 0, 0)] (fun j => [(.int .i64 m), (.int .i64 mm), (.int .i64 c), (.pointer (some ⟨gG, 1, none⟩)), (.int .i64 K), (.int .i64 ((K : Int) - 1)), (.int .i64 col), (.int .i64 mm), (.int .i64 col)].getD j undef) (fun j => [PG.dflt, PG.dflt, PG.dflt, PG.dflt, PG.dflt, PG.dflt, PG.dflt, PG.dflt, PG.dflt].getD j PG.dflt) (fun _ => 0) (by kernel_rfl) (by kernel_rfl) (by kernel_rfl) rfl (by kernel_rfl) (no4 rfl) (fun i j h => by revert h; exact no4 (p := fun _ => _) rfl i) (fun hRS => cases9 ⟨?_, ?_, ?_, ?_, ?_, ?_, ?_, ?_, ?_⟩) ?_
      · intro L a w' hL hsame hsz hJ hdep hcl
        have e0 : a.eval (.tmp 2) = (.int .i64 m) := eval_base hsame (by kernel_rfl)
        refine Step.val _ rfl rfl (wanted_none rfl) (.int .i64 m) w' (fun ρ hρ => ?_) (hJ.val hRS hcl hL rfl (Below.refl _ _) _ rfl)
        rw [hρ] at e0
        clear hJ hsame hdep hcl hρ hsz
        go_simp
      · intro L a w' hL hsame hsz hJ hdep hcl
        have e0 : a.eval (.tmp 54) = (.int .i64 m) := eval_slot (j := 0) (by kernel_rfl) (hJ.valOf (by decide) (dep_of hdep 0 (by kernel_rfl)) rfl rfl)
        refine Step.call _ rfl rfl (wanted_none rfl) 18 #[.int .i64 m, .int .i64 0, .int .i64 6] (fun ρ hρ => ?_) ?_
        · skip
          rw [hρ] at e0
          have ec0 : ρ (.const (.int .i64 0)) = (.int .i64 0) := (hρ _).symm
          have ec1 : ρ (.const (.int .i64 6)) = (.int .i64 6) := (hρ _).symm
          have ef : ρ (.func 18) = .func (.func 18) #[] #[] := (hρ _).symm
          clear hJ hsame hdep hcl hρ hsz
          go_simp
        · refine (KM.out w').mono ?_
          rintro e w2 ⟨rfl, rfl⟩
          exact ⟨_, rfl, hJ.val hRS hcl hL rfl (Below.refl _ _) _ rfl⟩
      · intro L a w' hL hsame hsz hJ hdep hcl
        have e0 : a.eval (.tmp 1) = (.int .i64 c) := eval_base hsame (by kernel_rfl)
        refine Step.val _ rfl rfl (wanted_none rfl) (.int .i64 c) w' (fun ρ hρ => ?_) (hJ.val hRS hcl hL rfl (Below.refl _ _) _ rfl)
        rw [hρ] at e0
        clear hJ hsame hdep hcl hρ hsz
        go_simp
      · intro L a w' hL hsame hsz hJ hdep hcl
        have e0 : a.eval (.tmp 9) = (.pointer (some ⟨gG, 0, none⟩)) := eval_base hsame (by kernel_rfl)
        refine Step.val _ rfl rfl (wanted_none rfl) (.pointer (some ⟨gG, 1, none⟩)) w' (fun ρ hρ => ?_) (hJ.val hRS hcl hL rfl (Below.refl _ _) _ rfl)
        rw [hρ] at e0
        clear hJ hsame hdep hcl hρ hsz
        go_simp
      · intro L a w' hL hsame hsz hJ hdep hcl
        have e0 : a.eval (.tmp 57) = (.pointer (some ⟨gG, 1, none⟩)) := eval_slot (j := 3) (by kernel_rfl) (hJ.valOf (by decide) (dep_of hdep 3 (by kernel_rfl)) rfl rfl)
        have hb := hJ.keptBox HBG.out (by simp)
        have q0 : w'.cell? ⟨gG, 1, none⟩ = some (.int .i64 K) := hb.cell 1
        refine Step.val _ rfl rfl (wanted_none rfl) (.int .i64 K) w' (fun ρ hρ => ?_) (hJ.val hRS hcl hL rfl (Below.refl _ _) _ rfl)
        rw [hρ] at e0
        clear hb
        clear hJ hsame hdep hcl hρ hsz
        go_simp
      · intro L a w' hL hsame hsz hJ hdep hcl
        have e0 : a.eval (.tmp 58) = (.int .i64 K) := eval_slot (j := 4) (by kernel_rfl) (hJ.valOf (by decide) (dep_of hdep 4 (by kernel_rfl)) rfl rfl)
        refine Step.val _ rfl rfl (wanted_none rfl) (.int .i64 ((K : Int) - 1)) w' (fun ρ hρ => ?_) (hJ.val hRS hcl hL rfl (Below.refl _ _) _ rfl)
        rw [hρ] at e0
        have ec0 : ρ (.const (.int .i64 1)) = (.int .i64 1) := (hρ _).symm
        clear hJ hsame hdep hcl hρ hsz
        go_simp
      · intro L a w' hL hsame hsz hJ hdep hcl
        have e0 : a.eval (.tmp 56) = (.int .i64 c) := eval_slot (j := 2) (by kernel_rfl) (hJ.valOf (by decide) (dep_of hdep 2 (by kernel_rfl)) rfl rfl)
        have e2 : a.eval (.tmp 59) = (.int .i64 ((K : Int) - 1)) := eval_slot (j := 5) (by kernel_rfl) (hJ.valOf (by decide) (dep_of hdep 5 (by kernel_rfl)) rfl rfl)
        refine Step.call _ rfl rfl (wanted_none rfl) 18 #[.int .i64 c, .int .i64 0, .int .i64 ((K : Int) - 1)] (fun ρ hρ => ?_) ?_
        · skip
          rw [hρ] at e0 e2
          have ec0 : ρ (.const (.int .i64 0)) = (.int .i64 0) := (hρ _).symm
          have ef : ρ (.func 18) = .func (.func 18) #[] #[] := (hρ _).symm
          clear hJ hsame hdep hcl hρ hsz
          go_simp
        · refine (KC.out w').mono ?_
          rintro e w2 ⟨rfl, rfl⟩
          exact ⟨_, rfl, hJ.val hRS hcl hL rfl (Below.refl _ _) _ rfl⟩
      · intro L a w' hL hsame hsz hJ hdep hcl
        have e0 : a.eval (.tmp 55) = (.int .i64 mm) := eval_slot (j := 1) (by kernel_rfl) (hJ.valOf (by decide) (dep_of hdep 1 (by kernel_rfl)) rfl rfl)
        refine Step.val _ rfl rfl (wanted_none rfl) (.int .i64 mm) w' (fun ρ hρ => ?_) (hJ.val hRS hcl hL rfl (Below.refl _ _) _ rfl)
        rw [hρ] at e0
        clear hJ hsame hdep hcl hρ hsz
        go_simp
      · intro L a w' hL hsame hsz hJ hdep hcl
        have e0 : a.eval (.tmp 60) = (.int .i64 col) := eval_slot (j := 6) (by kernel_rfl) (hJ.valOf (by decide) (dep_of hdep 6 (by kernel_rfl)) rfl rfl)
        refine Step.val _ rfl rfl (wanted_none rfl) (.int .i64 col) w' (fun ρ hρ => ?_) (hJ.val hRS hcl hL rfl (Below.refl _ _) _ rfl)
        rw [hρ] at e0
        clear hJ hsame hdep hcl hρ hsz
        go_simp
      · intro L a w' hsame hsz hJ hall
        obtain ⟨u, hu, ha⟩ := act_puts hsame
        have h : (u 7 = .int .i64 mm ∧ u 8 = .int .i64 col) ∧ Below wc.heap.size wc w' := by
          (try simp only [hu])
          exact (And.intro (And.intro (hJ.valOf (j := 7) (by decide) (hall 7 (by decide)) rfl rfl) (hJ.valOf (j := 8) (by decide) (hall 8 (by decide)) rfl rfl)) (hJ.kept.toBelow (Nat.le_refl _) (by simp)))
        have h := hide h
        clear hJ hall hsz hu hsame
        subst ha
        change Exit.then _ _ Exit.normal (Act.put (Act.put (Act.put (Act.put (Act.put (Act.put (Act.put (Act.put (Act.put (putAll _ u 0 _) (some 54) (u 0)) (some 55) (u 1)) (some 56) (u 2)) (some 57) (u 3)) (some 58) (u 4)) (some 59) (u 5)) (some 60) (u 6)) (some 15) (u 7)) (some 16) (u 8)) _
        simp only [putAll]
        generalize u 0 = v0
        generalize u 1 = v1
        generalize u 2 = v2
        generalize u 3 = v3
        generalize u 4 = v4
        generalize u 5 = v5
        generalize u 6 = v6
        generalize u 7 = v7 at h ⊢
        generalize u 8 = v8 at h ⊢
        go_simp
        go_step
        go_meet
        exact h.out
  case rest =>
  obtain ⟨⟨rfl, rfl⟩, bc⟩ := hcut
  have BB := hide (BB.out.trans (bc.mono BB.out.size))
  have SP := hide (SP.out.keep bc)
  have HBG := hide (HBG.out.below bc HBG.out.lt)
  have HIG := hide (HIG.out.low bc)
  have BP := hide (BP.out.below bc BP.out.lt)
  clear bc KM KC hsK
  go_upto_region 12 with fail
  go_cut [17, 18, 19, 20] (fun u17 u18 u19 u20 wx => (((∃ g, u17 = .pointer (some ⟨g, 0, none⟩) ∧ wc.heap.size ≤ g ∧ Box wx g 27 #[.int .i64 R, .int .i64 K, .slice AG (R * K) cG]) ∧ (∃ g, u18 = .pointer (some ⟨g, 0, none⟩) ∧ wc.heap.size ≤ g ∧ Box wx g 27 #[.int .i64 R, .int .i64 K, .slice AG (R * K) cG]) ∧ (∃ g, u19 = .pointer (some ⟨g, 0, none⟩) ∧ wc.heap.size ≤ g ∧ Box wx g 27 #[.int .i64 R, .int .i64 K, .slice AG (R * K) cG]) ∧ (∃ g, u20 = .pointer (some ⟨g, 0, none⟩) ∧ wc.heap.size ≤ g ∧ Box wx g 27 #[.int .i64 R, .int .i64 K, .slice AG (R * K) cG])) ∧ (u17 ≠ u18 ∧ u17 ≠ u19 ∧ u17 ≠ u20 ∧ u18 ≠ u19 ∧ u18 ≠ u20 ∧ u19 ≠ u20)) ∧ Below wc.heap.size wc wx)
  case first =>
    as_aux_lemma =>
      refine wp_region_rj (n := 150) [] (fun _ => #[]) [(0, 0, 0, 0), (0, 0, 0, 0), (0, 0, 0, 0), (0, 0, 0, 0), (2, 0, 0, 27), (2, 0, 0, 27), (2, 0, 0, 27), (2, 0, 0, 27), (3, 4, 0, 27), (3, 5, 1, 27), (3, 6, 2, 27), (3, 7, 3, 27)] (fun j => [(.agg #[.int .i64 R, .int .i64 K, .slice AG (R * K) cG]), (.agg #[.int .i64 R, .int .i64 K, .slice AG (R * K) cG]), (.agg #[.int .i64 R, .int .i64 K, .slice AG (R * K) cG]), (.agg #[.int .i64 R, .int .i64 K, .slice AG (R * K) cG]), undef, undef, undef, undef, undef, undef, undef, undef].getD j undef) (fun j => [PG.dflt, PG.dflt, PG.dflt, PG.dflt, PG.dflt, PG.dflt, PG.dflt, PG.dflt, PG.dflt, PG.dflt, PG.dflt, PG.dflt].getD j PG.dflt) (fun _ => 0) (by kernel_rfl) (by kernel_rfl) (by kernel_rfl) rfl (by kernel_rfl) (no4 rfl) (fun i j h => by revert h; exact no4 (p := fun _ => _) rfl i) (fun hRS => cases12 ⟨?_, ?_, ?_, ?_, ?_, ?_, ?_, ?_, ?_, ?_, ?_, ?_⟩) ?_
      · intro L a w' hL hsame hsz hJ hdep hcl
        have e0 : a.eval (.tmp 9) = (.pointer (some ⟨gG, 0, none⟩)) := eval_base hsame (by kernel_rfl)
        have hb := hJ.keptBox HBG.out (by simp)
        have q0 : w'.cell? ⟨gG, 0, none⟩ = some (.int .i64 R) := hb.cell 0
        have q1 : w'.cell? ⟨gG, 1, none⟩ = some (.int .i64 K) := hb.cell 1
        have q2 : w'.cell? ⟨gG, 2, none⟩ = some (.slice AG (R * K) cG) := hb.cell 2
        refine Step.val _ rfl rfl (wanted_none rfl) (.agg #[.int .i64 R, .int .i64 K, .slice AG (R * K) cG]) w' (fun ρ hρ => ?_) (hJ.val hRS hcl hL rfl (Below.refl _ _) _ rfl)
        rw [hρ] at e0
        clear hb
        clear hJ hsame hdep hcl hρ hsz
        go_simp
      · intro L a w' hL hsame hsz hJ hdep hcl
        have e0 : a.eval (.tmp 9) = (.pointer (some ⟨gG, 0, none⟩)) := eval_base hsame (by kernel_rfl)
        have hb := hJ.keptBox HBG.out (by simp)
        have q0 : w'.cell? ⟨gG, 0, none⟩ = some (.int .i64 R) := hb.cell 0
        have q1 : w'.cell? ⟨gG, 1, none⟩ = some (.int .i64 K) := hb.cell 1
        have q2 : w'.cell? ⟨gG, 2, none⟩ = some (.slice AG (R * K) cG) := hb.cell 2
        refine Step.val _ rfl rfl (wanted_none rfl) (.agg #[.int .i64 R, .int .i64 K, .slice AG (R * K) cG]) w' (fun ρ hρ => ?_) (hJ.val hRS hcl hL rfl (Below.refl _ _) _ rfl)
        rw [hρ] at e0
        clear hb
        clear hJ hsame hdep hcl hρ hsz
        go_simp
      · intro L a w' hL hsame hsz hJ hdep hcl
        have e0 : a.eval (.tmp 9) = (.pointer (some ⟨gG, 0, none⟩)) := eval_base hsame (by kernel_rfl)
        have hb := hJ.keptBox HBG.out (by simp)
        have q0 : w'.cell? ⟨gG, 0, none⟩ = some (.int .i64 R) := hb.cell 0
        have q1 : w'.cell? ⟨gG, 1, none⟩ = some (.int .i64 K) := hb.cell 1
        have q2 : w'.cell? ⟨gG, 2, none⟩ = some (.slice AG (R * K) cG) := hb.cell 2
        refine Step.val _ rfl rfl (wanted_none rfl) (.agg #[.int .i64 R, .int .i64 K, .slice AG (R * K) cG]) w' (fun ρ hρ => ?_) (hJ.val hRS hcl hL rfl (Below.refl _ _) _ rfl)
        rw [hρ] at e0
        clear hb
        clear hJ hsame hdep hcl hρ hsz
        go_simp
      · intro L a w' hL hsame hsz hJ hdep hcl
        have e0 : a.eval (.tmp 9) = (.pointer (some ⟨gG, 0, none⟩)) := eval_base hsame (by kernel_rfl)
        have hb := hJ.keptBox HBG.out (by simp)
        have q0 : w'.cell? ⟨gG, 0, none⟩ = some (.int .i64 R) := hb.cell 0
        have q1 : w'.cell? ⟨gG, 1, none⟩ = some (.int .i64 K) := hb.cell 1
        have q2 : w'.cell? ⟨gG, 2, none⟩ = some (.slice AG (R * K) cG) := hb.cell 2
        refine Step.val _ rfl rfl (wanted_none rfl) (.agg #[.int .i64 R, .int .i64 K, .slice AG (R * K) cG]) w' (fun ρ hρ => ?_) (hJ.val hRS hcl hL rfl (Below.refl _ _) _ rfl)
        rw [hρ] at e0
        clear hb
        clear hJ hsame hdep hcl hρ hsz
        go_simp
      · intro L a w' hL hsame hsz hJ hdep hcl
        refine Step.val _ rfl rfl (wanted_none rfl) (.pointer (some ⟨w'.heap.size, 0, none⟩)) (w'.alloc (.cells #[.int .i64 0, .int .i64 0, .slice none 0 0] 27)) (fun ρ hρ => ?_) (hJ.box hRS hcl hL rfl 27 rfl (.int .i64 0) (.int .i64 0) (.slice none 0 0))
        clear hJ hsame hdep hcl hρ hsz
        go_simp
      · intro L a w' hL hsame hsz hJ hdep hcl
        refine Step.val _ rfl rfl (wanted_none rfl) (.pointer (some ⟨w'.heap.size, 0, none⟩)) (w'.alloc (.cells #[.int .i64 0, .int .i64 0, .slice none 0 0] 27)) (fun ρ hρ => ?_) (hJ.box hRS hcl hL rfl 27 rfl (.int .i64 0) (.int .i64 0) (.slice none 0 0))
        clear hJ hsame hdep hcl hρ hsz
        go_simp
      · intro L a w' hL hsame hsz hJ hdep hcl
        refine Step.val _ rfl rfl (wanted_none rfl) (.pointer (some ⟨w'.heap.size, 0, none⟩)) (w'.alloc (.cells #[.int .i64 0, .int .i64 0, .slice none 0 0] 27)) (fun ρ hρ => ?_) (hJ.box hRS hcl hL rfl 27 rfl (.int .i64 0) (.int .i64 0) (.slice none 0 0))
        clear hJ hsame hdep hcl hρ hsz
        go_simp
      · intro L a w' hL hsame hsz hJ hdep hcl
        refine Step.val _ rfl rfl (wanted_none rfl) (.pointer (some ⟨w'.heap.size, 0, none⟩)) (w'.alloc (.cells #[.int .i64 0, .int .i64 0, .slice none 0 0] 27)) (fun ρ hρ => ?_) (hJ.box hRS hcl hL rfl 27 rfl (.int .i64 0) (.int .i64 0) (.slice none 0 0))
        clear hJ hsame hdep hcl hρ hsz
        go_simp
      · intro L a w' hL hsame hsz hJ hdep hcl
        have hsv := hJ.valOf (j := 0) (by decide) (dep_of hdep 0 (by kernel_rfl)) rfl rfl
        have es : a.eval (.tmp 61) = .agg #[.int .i64 R, .int .i64 K, .slice AG (R * K) cG] := eval_slot (j := 0) (by kernel_rfl) hsv
        have la := dep_of hdep 4 (by kernel_rfl)
        obtain ⟨g, cs, hg, hg0, hb, hs3⟩ := hJ.boxOf (by decide) la rfl
        obtain ⟨c0, c1, c2, rfl⟩ := three_of hs3
        obtain ⟨m0, m1, m2, f0, f1, f2⟩ := hb.three
        have ea : a.eval (.tmp 17) = .pointer (some ⟨g, 0, none⟩) := eval_slot (j := 4) (by kernel_rfl) hg
        refine Step.skip _ rfl (wanted_none rfl) (set3 w' g (.int .i64 R) (.int .i64 K) (.slice AG (R * K) cG)) (fun ρ hρ => ?_) (hJ.put hRS hcl hL rfl la (dep_of hdep 0 (by kernel_rfl)) hg hsv)
        rw [hρ] at es ea
        clear hJ hsame hdep hcl hρ hsz hg hb hsv
        unfold set3
        go_simp
      · intro L a w' hL hsame hsz hJ hdep hcl
        have hsv := hJ.valOf (j := 1) (by decide) (dep_of hdep 1 (by kernel_rfl)) rfl rfl
        have es : a.eval (.tmp 62) = .agg #[.int .i64 R, .int .i64 K, .slice AG (R * K) cG] := eval_slot (j := 1) (by kernel_rfl) hsv
        have la := dep_of hdep 5 (by kernel_rfl)
        obtain ⟨g, cs, hg, hg0, hb, hs3⟩ := hJ.boxOf (by decide) la rfl
        obtain ⟨c0, c1, c2, rfl⟩ := three_of hs3
        obtain ⟨m0, m1, m2, f0, f1, f2⟩ := hb.three
        have ea : a.eval (.tmp 18) = .pointer (some ⟨g, 0, none⟩) := eval_slot (j := 5) (by kernel_rfl) hg
        refine Step.skip _ rfl (wanted_none rfl) (set3 w' g (.int .i64 R) (.int .i64 K) (.slice AG (R * K) cG)) (fun ρ hρ => ?_) (hJ.put hRS hcl hL rfl la (dep_of hdep 1 (by kernel_rfl)) hg hsv)
        rw [hρ] at es ea
        clear hJ hsame hdep hcl hρ hsz hg hb hsv
        unfold set3
        go_simp
      · intro L a w' hL hsame hsz hJ hdep hcl
        have hsv := hJ.valOf (j := 2) (by decide) (dep_of hdep 2 (by kernel_rfl)) rfl rfl
        have es : a.eval (.tmp 63) = .agg #[.int .i64 R, .int .i64 K, .slice AG (R * K) cG] := eval_slot (j := 2) (by kernel_rfl) hsv
        have la := dep_of hdep 6 (by kernel_rfl)
        obtain ⟨g, cs, hg, hg0, hb, hs3⟩ := hJ.boxOf (by decide) la rfl
        obtain ⟨c0, c1, c2, rfl⟩ := three_of hs3
        obtain ⟨m0, m1, m2, f0, f1, f2⟩ := hb.three
        have ea : a.eval (.tmp 19) = .pointer (some ⟨g, 0, none⟩) := eval_slot (j := 6) (by kernel_rfl) hg
        refine Step.skip _ rfl (wanted_none rfl) (set3 w' g (.int .i64 R) (.int .i64 K) (.slice AG (R * K) cG)) (fun ρ hρ => ?_) (hJ.put hRS hcl hL rfl la (dep_of hdep 2 (by kernel_rfl)) hg hsv)
        rw [hρ] at es ea
        clear hJ hsame hdep hcl hρ hsz hg hb hsv
        unfold set3
        go_simp
      · intro L a w' hL hsame hsz hJ hdep hcl
        have hsv := hJ.valOf (j := 3) (by decide) (dep_of hdep 3 (by kernel_rfl)) rfl rfl
        have es : a.eval (.tmp 64) = .agg #[.int .i64 R, .int .i64 K, .slice AG (R * K) cG] := eval_slot (j := 3) (by kernel_rfl) hsv
        have la := dep_of hdep 7 (by kernel_rfl)
        obtain ⟨g, cs, hg, hg0, hb, hs3⟩ := hJ.boxOf (by decide) la rfl
        obtain ⟨c0, c1, c2, rfl⟩ := three_of hs3
        obtain ⟨m0, m1, m2, f0, f1, f2⟩ := hb.three
        have ea : a.eval (.tmp 20) = .pointer (some ⟨g, 0, none⟩) := eval_slot (j := 7) (by kernel_rfl) hg
        refine Step.skip _ rfl (wanted_none rfl) (set3 w' g (.int .i64 R) (.int .i64 K) (.slice AG (R * K) cG)) (fun ρ hρ => ?_) (hJ.put hRS hcl hL rfl la (dep_of hdep 3 (by kernel_rfl)) hg hsv)
        rw [hρ] at es ea
        clear hJ hsame hdep hcl hρ hsz hg hb hsv
        unfold set3
        go_simp
      · intro L a w' hsame hsz hJ hall
        obtain ⟨u, hu, ha⟩ := act_puts hsame
        have h : (((∃ g, (u 4) = .pointer (some ⟨g, 0, none⟩) ∧ wc.heap.size ≤ g ∧ Box w' g 27 #[.int .i64 R, .int .i64 K, .slice AG (R * K) cG]) ∧ (∃ g, (u 5) = .pointer (some ⟨g, 0, none⟩) ∧ wc.heap.size ≤ g ∧ Box w' g 27 #[.int .i64 R, .int .i64 K, .slice AG (R * K) cG]) ∧ (∃ g, (u 6) = .pointer (some ⟨g, 0, none⟩) ∧ wc.heap.size ≤ g ∧ Box w' g 27 #[.int .i64 R, .int .i64 K, .slice AG (R * K) cG]) ∧ (∃ g, (u 7) = .pointer (some ⟨g, 0, none⟩) ∧ wc.heap.size ≤ g ∧ Box w' g 27 #[.int .i64 R, .int .i64 K, .slice AG (R * K) cG])) ∧ ((u 4) ≠ (u 5) ∧ (u 4) ≠ (u 6) ∧ (u 4) ≠ (u 7) ∧ (u 5) ≠ (u 6) ∧ (u 5) ≠ (u 7) ∧ (u 6) ≠ (u 7))) ∧ Below wc.heap.size wc w' := by
          (try simp only [hu])
          exact (And.intro ⟨⟨(hJ.var0 hall 8 (by decide) rfl rfl (by decide) rfl (by decide) rfl rfl), (hJ.var0 hall 9 (by decide) rfl rfl (by decide) rfl (by decide) rfl rfl), (hJ.var0 hall 10 (by decide) rfl rfl (by decide) rfl (by decide) rfl rfl), (hJ.var0 hall 11 (by decide) rfl rfl (by decide) rfl (by decide) rfl rfl)⟩, (hJ.dist 4 5 rfl rfl (hall 4 (by decide)) (hall 5 (by decide)) (by decide)), (hJ.dist 4 6 rfl rfl (hall 4 (by decide)) (hall 6 (by decide)) (by decide)), (hJ.dist 4 7 rfl rfl (hall 4 (by decide)) (hall 7 (by decide)) (by decide)), (hJ.dist 5 6 rfl rfl (hall 5 (by decide)) (hall 6 (by decide)) (by decide)), (hJ.dist 5 7 rfl rfl (hall 5 (by decide)) (hall 7 (by decide)) (by decide)), (hJ.dist 6 7 rfl rfl (hall 6 (by decide)) (hall 7 (by decide)) (by decide))⟩ (hJ.kept.toBelow (Nat.le_refl _) (by simp)))
        have h := hide h
        clear hJ hall hsz hu hsame
        subst ha
        change Exit.then _ _ Exit.normal (Act.put (Act.put (Act.put (Act.put (Act.put (Act.put (Act.put (Act.put (Act.put (Act.put (Act.put (Act.put (putAll _ u 0 _) (some 61) (u 0)) (some 62) (u 1)) (some 63) (u 2)) (some 64) (u 3)) (some 17) (u 4)) (some 18) (u 5)) (some 19) (u 6)) (some 20) (u 7)) none (u 8)) none (u 9)) none (u 10)) none (u 11)) _
        simp only [putAll]
        generalize u 0 = v0
        generalize u 1 = v1
        generalize u 2 = v2
        generalize u 3 = v3
        generalize u 4 = v4 at h ⊢
        generalize u 5 = v5 at h ⊢
        generalize u 6 = v6 at h ⊢
        generalize u 7 = v7 at h ⊢
        generalize u 8 = v8
        generalize u 9 = v9
        generalize u 10 = v10
        generalize u 11 = v11
        go_simp
        go_step
        go_meet
        exact h.out
  case rest =>
  obtain ⟨⟨⟨⟨gU, rfl, lU, bU⟩, ⟨gD, rfl, lD, bD⟩, ⟨gI, rfl, lI, bI⟩, ⟨gE, rfl, lE, bE⟩⟩, d1, d2, d3, d4, d5, d6⟩, bc⟩ := hcut
  have DIST := hide (show gU ≠ gD ∧ gU ≠ gI ∧ gU ≠ gE ∧ gD ≠ gI ∧ gD ≠ gE ∧ gI ≠ gE from ⟨fun e => d1 (by rw [e]), fun e => d2 (by rw [e]), fun e => d3 (by rw [e]), fun e => d4 (by rw [e]), fun e => d5 (by rw [e]), fun e => d6 (by rw [e])⟩)
  have LOW := hide (show gG < gU ∧ gG < gD ∧ gG < gI ∧ gG < gE ∧ gP < gU ∧ gP < gD ∧ gP < gI ∧ gP < gE ∧ 0 < gU ∧ 0 < gD ∧ 0 < gI ∧ 0 < gE from by
    have h1 := HBG.out.lt
    have h2 := BP.out.lt
    have h3 := SP.out.lt
    omega)
  have igx := HIG.out.low bc
  have gb : ∀ g, Box wc g 27 #[.int .i64 R, .int .i64 K, .slice AG (R * K) cG] → GBox wc Gx g := fun g h => ⟨_, by rw [HX.out.2.1, HX.out.2.2.1]; exact h, by rw [HX.out.2.1, HX.out.2.2.1]; exact igx⟩
  have VU := hide (gb gU bU)
  have VD := hide (gb gD bD)
  have VI := hide (gb gI bI)
  have VE := hide (gb gE bE)
  have BC := hide bc
  have HL := hide (show _ ≤ gU ∧ _ ≤ gD ∧ _ ≤ gI ∧ _ ≤ gE from ⟨lU, lD, lI, lE⟩)
  clear d1 d2 d3 d4 d5 d6 bU bD bI bE igx gb bc lU lD lI lE
  rename World => w6
  go_upto_block 4 with fail
  go_cut [66] (fun _ wx => (GBox wx (PG.upN Gx ((R : Int) - 1) (pa, pb, pc) mm) gU ∧ GBox wx (PG.downN Gx ((R : Int) - 1) (pa, pb, pc) mm) gD ∧ GBox wx (PG.insN Gx col (pa, pb, pc) mm) gI ∧ GBox wx (PG.delN Gx col (pa, pb, pc) mm) gE) ∧ Below wc.heap.size wc wx)
  case first =>
    as_aux_lemma =>
      go_wp2_with fail
      go_loopw [66] (fun i wr => ∃ k : Nat, k ≤ mm ∧ i = .int .i64 k ∧ Hid (GBox wr (PG.upN Gx ((R : Int) - 1) (pa, pb, pc) k) gU) ∧ Hid (GBox wr (PG.downN Gx ((R : Int) - 1) (pa, pb, pc) k) gD) ∧ Hid (GBox wr (PG.insN Gx col (pa, pb, pc) k) gI) ∧ Hid (GBox wr (PG.delN Gx col (pa, pb, pc) k) gE) ∧ Hid (Below wc.heap.size wc wr)) (fun i _ => mm - (intOf i).toNat)
      case atStart => exact ⟨0, Nat.zero_le _, rfl, VU, VD, VI, VE, BC⟩
      case round =>
        clear VU VD VI VE BC
        obtain ⟨k, hkm, rfl, VU, VD, VI, VE, bx⟩ := hrel
        have hb6 : mm ≤ 6 := HK.out.2.2
        by_cases hlt : k < mm
        · have HKM := hide hlt
          have QU := hide (PG.right_upN HX.out.1 HP.out ((R : Int) - 1) k)
          have QD := hide (PG.right_downN HX.out.1 HP.out ((R : Int) - 1) k)
          have QI := hide (PG.right_insN HX.out.1 HP.out col k)
          have QE := hide (PG.right_delN HX.out.1 HP.out col k)
          obtain ⟨AU, cU, hbU, -, -, -, hiU⟩ := VU.out.open_ (QU.out.2.1.trans HX.out.2.1) (QU.out.2.2.trans HX.out.2.2.1)
          have BU := hide (show Box wr gU 27 #[.int .i64 R, .int .i64 K, .slice AU (R * K) cU] from hbU)
          have IU := hide (show IsG wr (PG.upN Gx ((R : Int) - 1) (pa, pb, pc) k) (.agg #[.int .i64 R, .int .i64 K, .slice AU (R * K) cU]) from hiU)
          clear hbU hiU
          obtain ⟨AD, cD, hbD, -, -, -, hiD⟩ := VD.out.open_ (QD.out.2.1.trans HX.out.2.1) (QD.out.2.2.trans HX.out.2.2.1)
          have BD := hide (show Box wr gD 27 #[.int .i64 R, .int .i64 K, .slice AD (R * K) cD] from hbD)
          have ID := hide (show IsG wr (PG.downN Gx ((R : Int) - 1) (pa, pb, pc) k) (.agg #[.int .i64 R, .int .i64 K, .slice AD (R * K) cD]) from hiD)
          clear hbD hiD
          obtain ⟨AI, cI, hbI, -, -, -, hiI⟩ := VI.out.open_ (QI.out.2.1.trans HX.out.2.1) (QI.out.2.2.trans HX.out.2.2.1)
          have BI := hide (show Box wr gI 27 #[.int .i64 R, .int .i64 K, .slice AI (R * K) cI] from hbI)
          have II := hide (show IsG wr (PG.insN Gx col (pa, pb, pc) k) (.agg #[.int .i64 R, .int .i64 K, .slice AI (R * K) cI]) from hiI)
          clear hbI hiI
          obtain ⟨AE, cE, hbE, -, -, -, hiE⟩ := VE.out.open_ (QE.out.2.1.trans HX.out.2.1) (QE.out.2.2.trans HX.out.2.2.1)
          have BE := hide (show Box wr gE 27 #[.int .i64 R, .int .i64 K, .slice AE (R * K) cE] from hbE)
          have IE := hide (show IsG wr (PG.delN Gx col (pa, pb, pc) k) (.agg #[.int .i64 R, .int .i64 K, .slice AE (R * K) cE]) from hiE)
          clear hbE hiE
          have NR := hide (show NoRow wr [some gU, some gD, some gI, some gE] from fun x hx => by
            simp only [List.mem_cons, List.not_mem_nil, or_false, Option.some.injEq] at hx
            rcases hx with rfl | rfl | rfl | rfl
            · exact ⟨_, _, BU.out, by decide⟩
            · exact ⟨_, _, BD.out, by decide⟩
            · exact ⟨_, _, BI.out, by decide⟩
            · exact ⟨_, _, BE.out, by decide⟩)
          have nG := hide (show some gG ∉ [some gU, some gD, some gI, some gE] from by have := LOW.out; simp; omega)
          have nP := hide (show some gP ∉ [some gU, some gD, some gI, some gE] from by have := LOW.out; simp; omega)
          have nS := hide (show some 0 ∉ [some gU, some gD, some gI, some gE] from by have := LOW.out; simp; omega)
          have HBGr := hide (HBG.out.below bx.out HBG.out.lt)
          have BPr := hide (BP.out.below bx.out BP.out.lt)
          clear VU VD VI VE
          go_upto_region 15 with fail
          clear hlt
          have hsR := wrap_predP (R := R) (by have := HK.out; omega)
          refine wp_region_rj (n := 150) [some gU, some gD, some gI, some gE] (fun j => if j = 20 then #[.int .i64 R, .int .i64 K, .slice AU (R * K) cU] else if j = 21 then #[.int .i64 R, .int .i64 K, .slice AD (R * K) cD] else if j = 22 then #[.int .i64 R, .int .i64 K, .slice AI (R * K) cI] else #[.int .i64 R, .int .i64 K, .slice AE (R * K) cE]) [(0, 0, 0, 0), (0, 0, 0, 0), (0, 0, 0, 0), (0, 0, 0, 0), (0, 0, 0, 0), (1, 0, 0, 0), (0, 0, 0, 0), (0, 0, 0, 0), (0, 0, 0, 0), (0, 0, 0, 0), (0, 0, 0, 0), (1, 0, 0, 0), (0, 0, 0, 0), (0, 0, 0, 0), (0, 0, 0, 0), (1, 0, 0, 0), (0, 0, 0, 0), (0, 0, 0, 0), (0, 0, 0, 0), (1, 0, 0, 0), (4, 0, 5, 27), (4, 0, 11, 27), (4, 0, 15, 27), (4, 0, 19, 27)] (fun j => [(.agg #[.int .i64 R, .int .i64 K, .slice AU (R * K) cU]), (.pointer (some ⟨gG, 0, none⟩)), (.int .i64 R), (.int .i64 ((R : Int) - 1)), (.agg #[.int .i64 pa, .int .i64 pb, .int .i64 pc]), undef, (.agg #[.int .i64 R, .int .i64 K, .slice AD (R * K) cD]), (.pointer (some ⟨gG, 0, none⟩)), (.int .i64 R), (.int .i64 ((R : Int) - 1)), (.agg #[.int .i64 pa, .int .i64 pb, .int .i64 pc]), undef, (.agg #[.int .i64 R, .int .i64 K, .slice AI (R * K) cI]), (.int .i64 col), (.agg #[.int .i64 pa, .int .i64 pb, .int .i64 pc]), undef, (.agg #[.int .i64 R, .int .i64 K, .slice AE (R * K) cE]), (.int .i64 col), (.agg #[.int .i64 pa, .int .i64 pb, .int .i64 pc]), undef, undef, undef, undef, undef].getD j undef) (fun j => [PG.dflt, PG.dflt, PG.dflt, PG.dflt, PG.dflt, (PG.scrollI (PG.upN Gx ((R : Int) - 1) (pa, pb, pc) k) 0 ((R : Int) - 1) 1 (pa, pb, pc)), PG.dflt, PG.dflt, PG.dflt, PG.dflt, PG.dflt, (PG.scrollI (PG.downN Gx ((R : Int) - 1) (pa, pb, pc) k) 0 ((R : Int) - 1) (-1) (pa, pb, pc)), PG.dflt, PG.dflt, PG.dflt, (PG.shiftI (PG.insN Gx col (pa, pb, pc) k) 0 col 1 (pa, pb, pc)), PG.dflt, PG.dflt, PG.dflt, (PG.shiftI (PG.delN Gx col (pa, pb, pc) k) 0 col (-1) (pa, pb, pc)), PG.dflt, PG.dflt, PG.dflt, PG.dflt].getD j PG.dflt) (fun j => if j = 20 then gU else if j = 21 then gD else if j = 22 then gI else gE) (by kernel_rfl) (by kernel_rfl) (by kernel_rfl) rfl (by kernel_rfl) (fun j hk => by have hj := onlyL (ks := [20, 21, 22, 23]) (by kernel_rfl) j hk; simp only [List.mem_cons, List.not_mem_nil, or_false] at hj; rcases hj with rfl | rfl | rfl | rfl; exact ⟨by simp, rfl, BU.out⟩; exact ⟨by simp, rfl, BD.out⟩; exact ⟨by simp, rfl, BI.out⟩; exact ⟨by simp, rfl, BE.out⟩) (fun i j h h' e => by have hi := onlyL (ks := [20, 21, 22, 23]) (by kernel_rfl) i h; have hj := onlyL (ks := [20, 21, 22, 23]) (by kernel_rfl) j h'; simp only [List.mem_cons, List.not_mem_nil, or_false] at hi hj; have hd := DIST.out; rcases hi with rfl | rfl | rfl | rfl <;> rcases hj with rfl | rfl | rfl | rfl <;> first | exact absurd rfl e | (simp; omega)) (fun hRS => cases24 ⟨?_, ?_, ?_, ?_, ?_, ?_, ?_, ?_, ?_, ?_, ?_, ?_, ?_, ?_, ?_, ?_, ?_, ?_, ?_, ?_, ?_, ?_, ?_, ?_⟩) ?_
          · intro L a w' hL hsame hsz hJ hdep hcl
            have e0 : a.eval (.tmp 17) = (.pointer (some ⟨gU, 0, none⟩)) := eval_base hsame (by kernel_rfl)
            have hb := (show Box w' gU 27 #[.int .i64 R, .int .i64 K, .slice AU (R * K) cU] from hJ.old 20 rfl (late hcl hL (by kernel_rfl)))
            have q0 : w'.cell? ⟨gU, 0, none⟩ = some (.int .i64 R) := hb.cell 0
            have q1 : w'.cell? ⟨gU, 1, none⟩ = some (.int .i64 K) := hb.cell 1
            have q2 : w'.cell? ⟨gU, 2, none⟩ = some (.slice AU (R * K) cU) := hb.cell 2
            refine Step.val _ rfl rfl (wanted_none rfl) (.agg #[.int .i64 R, .int .i64 K, .slice AU (R * K) cU]) w' (fun ρ hρ => ?_) (hJ.val hRS hcl hL rfl (Below.refl _ _) _ rfl)
            rw [hρ] at e0
            clear hb
            clear hJ hsame hdep hcl hρ hsz
            go_simp
          · intro L a w' hL hsame hsz hJ hdep hcl
            have e0 : a.eval (.tmp 9) = (.pointer (some ⟨gG, 0, none⟩)) := eval_base hsame (by kernel_rfl)
            refine Step.val _ rfl rfl (wanted_none rfl) (.pointer (some ⟨gG, 0, none⟩)) w' (fun ρ hρ => ?_) (hJ.val hRS hcl hL rfl (Below.refl _ _) _ rfl)
            rw [hρ] at e0
            clear hJ hsame hdep hcl hρ hsz
            go_simp
          · intro L a w' hL hsame hsz hJ hdep hcl
            have e0 : a.eval (.tmp 69) = (.pointer (some ⟨gG, 0, none⟩)) := eval_slot (j := 1) (by kernel_rfl) (hJ.valOf (by decide) (dep_of hdep 1 (by kernel_rfl)) rfl rfl)
            have hb := hJ.keptBox HBGr.out nG.out
            have q0 : w'.cell? ⟨gG, 0, none⟩ = some (.int .i64 R) := hb.cell 0
            refine Step.val _ rfl rfl (wanted_none rfl) (.int .i64 R) w' (fun ρ hρ => ?_) (hJ.val hRS hcl hL rfl (Below.refl _ _) _ rfl)
            rw [hρ] at e0
            clear hb
            clear hJ hsame hdep hcl hρ hsz
            go_simp
          · intro L a w' hL hsame hsz hJ hdep hcl
            have e0 : a.eval (.tmp 70) = (.int .i64 R) := eval_slot (j := 2) (by kernel_rfl) (hJ.valOf (by decide) (dep_of hdep 2 (by kernel_rfl)) rfl rfl)
            refine Step.val _ rfl rfl (wanted_none rfl) (.int .i64 ((R : Int) - 1)) w' (fun ρ hρ => ?_) (hJ.val hRS hcl hL rfl (Below.refl _ _) _ rfl)
            rw [hρ] at e0
            have ec0 : ρ (.const (.int .i64 1)) = (.int .i64 1) := (hρ _).symm
            clear hJ hsame hdep hcl hρ hsz
            go_simp
          · intro L a w' hL hsame hsz hJ hdep hcl
            have e0 : a.eval (.tmp 10) = (.pointer (some ⟨gP, 0, none⟩)) := eval_base hsame (by kernel_rfl)
            have hb := hJ.keptBox BPr.out nP.out
            have q0 : w'.cell? ⟨gP, 0, none⟩ = some (.int .i64 pa) := hb.cell 0
            have q1 : w'.cell? ⟨gP, 1, none⟩ = some (.int .i64 pb) := hb.cell 1
            have q2 : w'.cell? ⟨gP, 2, none⟩ = some (.int .i64 pc) := hb.cell 2
            refine Step.val _ rfl rfl (wanted_none rfl) (.agg #[.int .i64 pa, .int .i64 pb, .int .i64 pc]) w' (fun ρ hρ => ?_) (hJ.val hRS hcl hL rfl (Below.refl _ _) _ rfl)
            rw [hρ] at e0
            clear hb
            clear hJ hsame hdep hcl hρ hsz
            go_simp
          · intro L a w' hL hsame hsz hJ hdep hcl
            have e0 : a.eval (.tmp 68) = (.agg #[.int .i64 R, .int .i64 K, .slice AU (R * K) cU]) := eval_slot (j := 0) (by kernel_rfl) (hJ.valOf (by decide) (dep_of hdep 0 (by kernel_rfl)) rfl rfl)
            have e2 : a.eval (.tmp 71) = (.int .i64 ((R : Int) - 1)) := eval_slot (j := 3) (by kernel_rfl) (hJ.valOf (by decide) (dep_of hdep 3 (by kernel_rfl)) rfl rfl)
            have e4 : a.eval (.tmp 72) = (.agg #[.int .i64 pa, .int .i64 pb, .int .i64 pc]) := eval_slot (j := 4) (by kernel_rfl) (hJ.valOf (by decide) (dep_of hdep 4 (by kernel_rfl)) rfl rfl)
            refine Step.call _ rfl rfl (wanted_none rfl) 11 #[.agg #[.int .i64 R, .int .i64 K, .slice AU (R * K) cU], .int .i64 0, .int .i64 ((R : Int) - 1), .int .i64 1, .agg #[.int .i64 pa, .int .i64 pb, .int .i64 pc]] (fun ρ hρ => ?_) ?_
            · skip
              rw [hρ] at e0 e2 e4
              have ec0 : ρ (.const (.int .i64 0)) = (.int .i64 0) := (hρ _).symm
              have ec1 : ρ (.const (.int .i64 1)) = (.int .i64 1) := (hρ _).symm
              have ef : ρ (.func 11) = .func (.func 11) #[] #[] := (hρ _).symm
              clear hJ hsame hdep hcl hρ hsz
              go_simp
            · refine (u_up QU.out.1 (IU.out.keptS NR.out hJ.kept) 0 ((R : Int) - 1) 1 (pa, pb, pc) HP.out (by omega) (by have := HK.out; omega) (by omega)).mono ?_
              rintro e w2 ⟨v, rfl, hg, bb⟩
              exact ⟨v, rfl, hJ.grid hRS hcl hL rfl bb v hg⟩
          · intro L a w' hL hsame hsz hJ hdep hcl
            have e0 : a.eval (.tmp 18) = (.pointer (some ⟨gD, 0, none⟩)) := eval_base hsame (by kernel_rfl)
            have hb := (show Box w' gD 27 #[.int .i64 R, .int .i64 K, .slice AD (R * K) cD] from hJ.old 21 rfl (late hcl hL (by kernel_rfl)))
            have q0 : w'.cell? ⟨gD, 0, none⟩ = some (.int .i64 R) := hb.cell 0
            have q1 : w'.cell? ⟨gD, 1, none⟩ = some (.int .i64 K) := hb.cell 1
            have q2 : w'.cell? ⟨gD, 2, none⟩ = some (.slice AD (R * K) cD) := hb.cell 2
            refine Step.val _ rfl rfl (wanted_none rfl) (.agg #[.int .i64 R, .int .i64 K, .slice AD (R * K) cD]) w' (fun ρ hρ => ?_) (hJ.val hRS hcl hL rfl (Below.refl _ _) _ rfl)
            rw [hρ] at e0
            clear hb
            clear hJ hsame hdep hcl hρ hsz
            go_simp
          · intro L a w' hL hsame hsz hJ hdep hcl
            have e0 : a.eval (.tmp 9) = (.pointer (some ⟨gG, 0, none⟩)) := eval_base hsame (by kernel_rfl)
            refine Step.val _ rfl rfl (wanted_none rfl) (.pointer (some ⟨gG, 0, none⟩)) w' (fun ρ hρ => ?_) (hJ.val hRS hcl hL rfl (Below.refl _ _) _ rfl)
            rw [hρ] at e0
            clear hJ hsame hdep hcl hρ hsz
            go_simp
          · intro L a w' hL hsame hsz hJ hdep hcl
            have e0 : a.eval (.tmp 75) = (.pointer (some ⟨gG, 0, none⟩)) := eval_slot (j := 7) (by kernel_rfl) (hJ.valOf (by decide) (dep_of hdep 7 (by kernel_rfl)) rfl rfl)
            have hb := hJ.keptBox HBGr.out nG.out
            have q0 : w'.cell? ⟨gG, 0, none⟩ = some (.int .i64 R) := hb.cell 0
            refine Step.val _ rfl rfl (wanted_none rfl) (.int .i64 R) w' (fun ρ hρ => ?_) (hJ.val hRS hcl hL rfl (Below.refl _ _) _ rfl)
            rw [hρ] at e0
            clear hb
            clear hJ hsame hdep hcl hρ hsz
            go_simp
          · intro L a w' hL hsame hsz hJ hdep hcl
            have e0 : a.eval (.tmp 76) = (.int .i64 R) := eval_slot (j := 8) (by kernel_rfl) (hJ.valOf (by decide) (dep_of hdep 8 (by kernel_rfl)) rfl rfl)
            refine Step.val _ rfl rfl (wanted_none rfl) (.int .i64 ((R : Int) - 1)) w' (fun ρ hρ => ?_) (hJ.val hRS hcl hL rfl (Below.refl _ _) _ rfl)
            rw [hρ] at e0
            have ec0 : ρ (.const (.int .i64 1)) = (.int .i64 1) := (hρ _).symm
            clear hJ hsame hdep hcl hρ hsz
            go_simp
          · intro L a w' hL hsame hsz hJ hdep hcl
            have e0 : a.eval (.tmp 10) = (.pointer (some ⟨gP, 0, none⟩)) := eval_base hsame (by kernel_rfl)
            have hb := hJ.keptBox BPr.out nP.out
            have q0 : w'.cell? ⟨gP, 0, none⟩ = some (.int .i64 pa) := hb.cell 0
            have q1 : w'.cell? ⟨gP, 1, none⟩ = some (.int .i64 pb) := hb.cell 1
            have q2 : w'.cell? ⟨gP, 2, none⟩ = some (.int .i64 pc) := hb.cell 2
            refine Step.val _ rfl rfl (wanted_none rfl) (.agg #[.int .i64 pa, .int .i64 pb, .int .i64 pc]) w' (fun ρ hρ => ?_) (hJ.val hRS hcl hL rfl (Below.refl _ _) _ rfl)
            rw [hρ] at e0
            clear hb
            clear hJ hsame hdep hcl hρ hsz
            go_simp
          · intro L a w' hL hsame hsz hJ hdep hcl
            have e0 : a.eval (.tmp 74) = (.agg #[.int .i64 R, .int .i64 K, .slice AD (R * K) cD]) := eval_slot (j := 6) (by kernel_rfl) (hJ.valOf (by decide) (dep_of hdep 6 (by kernel_rfl)) rfl rfl)
            have e2 : a.eval (.tmp 77) = (.int .i64 ((R : Int) - 1)) := eval_slot (j := 9) (by kernel_rfl) (hJ.valOf (by decide) (dep_of hdep 9 (by kernel_rfl)) rfl rfl)
            have e4 : a.eval (.tmp 78) = (.agg #[.int .i64 pa, .int .i64 pb, .int .i64 pc]) := eval_slot (j := 10) (by kernel_rfl) (hJ.valOf (by decide) (dep_of hdep 10 (by kernel_rfl)) rfl rfl)
            refine Step.call _ rfl rfl (wanted_none rfl) 21 #[.agg #[.int .i64 R, .int .i64 K, .slice AD (R * K) cD], .int .i64 0, .int .i64 ((R : Int) - 1), .int .i64 1, .agg #[.int .i64 pa, .int .i64 pb, .int .i64 pc]] (fun ρ hρ => ?_) ?_
            · skip
              rw [hρ] at e0 e2 e4
              have ec0 : ρ (.const (.int .i64 0)) = (.int .i64 0) := (hρ _).symm
              have ec1 : ρ (.const (.int .i64 1)) = (.int .i64 1) := (hρ _).symm
              have ef : ρ (.func 21) = .func (.func 21) #[] #[] := (hρ _).symm
              clear hJ hsame hdep hcl hρ hsz
              go_simp
            · refine (u_down QD.out.1 (ID.out.keptS NR.out hJ.kept) 0 ((R : Int) - 1) 1 (pa, pb, pc) HP.out (by omega) (by have := HK.out; omega) (by omega)).mono ?_
              rintro e w2 ⟨v, rfl, hg, bb⟩
              exact ⟨v, rfl, hJ.grid hRS hcl hL rfl bb v hg⟩
          · intro L a w' hL hsame hsz hJ hdep hcl
            have e0 : a.eval (.tmp 19) = (.pointer (some ⟨gI, 0, none⟩)) := eval_base hsame (by kernel_rfl)
            have hb := (show Box w' gI 27 #[.int .i64 R, .int .i64 K, .slice AI (R * K) cI] from hJ.old 22 rfl (late hcl hL (by kernel_rfl)))
            have q0 : w'.cell? ⟨gI, 0, none⟩ = some (.int .i64 R) := hb.cell 0
            have q1 : w'.cell? ⟨gI, 1, none⟩ = some (.int .i64 K) := hb.cell 1
            have q2 : w'.cell? ⟨gI, 2, none⟩ = some (.slice AI (R * K) cI) := hb.cell 2
            refine Step.val _ rfl rfl (wanted_none rfl) (.agg #[.int .i64 R, .int .i64 K, .slice AI (R * K) cI]) w' (fun ρ hρ => ?_) (hJ.val hRS hcl hL rfl (Below.refl _ _) _ rfl)
            rw [hρ] at e0
            clear hb
            clear hJ hsame hdep hcl hρ hsz
            go_simp
          · intro L a w' hL hsame hsz hJ hdep hcl
            have e0 : a.eval (.tmp 16) = (.int .i64 col) := eval_base hsame (by kernel_rfl)
            refine Step.val _ rfl rfl (wanted_none rfl) (.int .i64 col) w' (fun ρ hρ => ?_) (hJ.val hRS hcl hL rfl (Below.refl _ _) _ rfl)
            rw [hρ] at e0
            clear hJ hsame hdep hcl hρ hsz
            go_simp
          · intro L a w' hL hsame hsz hJ hdep hcl
            have e0 : a.eval (.tmp 10) = (.pointer (some ⟨gP, 0, none⟩)) := eval_base hsame (by kernel_rfl)
            have hb := hJ.keptBox BPr.out nP.out
            have q0 : w'.cell? ⟨gP, 0, none⟩ = some (.int .i64 pa) := hb.cell 0
            have q1 : w'.cell? ⟨gP, 1, none⟩ = some (.int .i64 pb) := hb.cell 1
            have q2 : w'.cell? ⟨gP, 2, none⟩ = some (.int .i64 pc) := hb.cell 2
            refine Step.val _ rfl rfl (wanted_none rfl) (.agg #[.int .i64 pa, .int .i64 pb, .int .i64 pc]) w' (fun ρ hρ => ?_) (hJ.val hRS hcl hL rfl (Below.refl _ _) _ rfl)
            rw [hρ] at e0
            clear hb
            clear hJ hsame hdep hcl hρ hsz
            go_simp
          · intro L a w' hL hsame hsz hJ hdep hcl
            have e0 : a.eval (.tmp 80) = (.agg #[.int .i64 R, .int .i64 K, .slice AI (R * K) cI]) := eval_slot (j := 12) (by kernel_rfl) (hJ.valOf (by decide) (dep_of hdep 12 (by kernel_rfl)) rfl rfl)
            have e2 : a.eval (.tmp 81) = (.int .i64 col) := eval_slot (j := 13) (by kernel_rfl) (hJ.valOf (by decide) (dep_of hdep 13 (by kernel_rfl)) rfl rfl)
            have e4 : a.eval (.tmp 82) = (.agg #[.int .i64 pa, .int .i64 pb, .int .i64 pc]) := eval_slot (j := 14) (by kernel_rfl) (hJ.valOf (by decide) (dep_of hdep 14 (by kernel_rfl)) rfl rfl)
            refine Step.call _ rfl rfl (wanted_none rfl) 13 #[.agg #[.int .i64 R, .int .i64 K, .slice AI (R * K) cI], .int .i64 0, .int .i64 col, .int .i64 1, .agg #[.int .i64 pa, .int .i64 pb, .int .i64 pc]] (fun ρ hρ => ?_) ?_
            · skip
              rw [hρ] at e0 e2 e4
              have ec0 : ρ (.const (.int .i64 0)) = (.int .i64 0) := (hρ _).symm
              have ec1 : ρ (.const (.int .i64 1)) = (.int .i64 1) := (hρ _).symm
              have ef : ρ (.func 13) = .func (.func 13) #[] #[] := (hρ _).symm
              clear hJ hsame hdep hcl hρ hsz
              go_simp
            · refine (u_insert QI.out.1 (II.out.keptS NR.out hJ.kept) 0 col 1 (pa, pb, pc) HP.out (by omega) (by have := HK.out; omega) (by omega)).mono ?_
              rintro e w2 ⟨v, rfl, hg, bb⟩
              exact ⟨v, rfl, hJ.grid hRS hcl hL rfl bb v hg⟩
          · intro L a w' hL hsame hsz hJ hdep hcl
            have e0 : a.eval (.tmp 20) = (.pointer (some ⟨gE, 0, none⟩)) := eval_base hsame (by kernel_rfl)
            have hb := (show Box w' gE 27 #[.int .i64 R, .int .i64 K, .slice AE (R * K) cE] from hJ.old 23 rfl (late hcl hL (by kernel_rfl)))
            have q0 : w'.cell? ⟨gE, 0, none⟩ = some (.int .i64 R) := hb.cell 0
            have q1 : w'.cell? ⟨gE, 1, none⟩ = some (.int .i64 K) := hb.cell 1
            have q2 : w'.cell? ⟨gE, 2, none⟩ = some (.slice AE (R * K) cE) := hb.cell 2
            refine Step.val _ rfl rfl (wanted_none rfl) (.agg #[.int .i64 R, .int .i64 K, .slice AE (R * K) cE]) w' (fun ρ hρ => ?_) (hJ.val hRS hcl hL rfl (Below.refl _ _) _ rfl)
            rw [hρ] at e0
            clear hb
            clear hJ hsame hdep hcl hρ hsz
            go_simp
          · intro L a w' hL hsame hsz hJ hdep hcl
            have e0 : a.eval (.tmp 16) = (.int .i64 col) := eval_base hsame (by kernel_rfl)
            refine Step.val _ rfl rfl (wanted_none rfl) (.int .i64 col) w' (fun ρ hρ => ?_) (hJ.val hRS hcl hL rfl (Below.refl _ _) _ rfl)
            rw [hρ] at e0
            clear hJ hsame hdep hcl hρ hsz
            go_simp
          · intro L a w' hL hsame hsz hJ hdep hcl
            have e0 : a.eval (.tmp 10) = (.pointer (some ⟨gP, 0, none⟩)) := eval_base hsame (by kernel_rfl)
            have hb := hJ.keptBox BPr.out nP.out
            have q0 : w'.cell? ⟨gP, 0, none⟩ = some (.int .i64 pa) := hb.cell 0
            have q1 : w'.cell? ⟨gP, 1, none⟩ = some (.int .i64 pb) := hb.cell 1
            have q2 : w'.cell? ⟨gP, 2, none⟩ = some (.int .i64 pc) := hb.cell 2
            refine Step.val _ rfl rfl (wanted_none rfl) (.agg #[.int .i64 pa, .int .i64 pb, .int .i64 pc]) w' (fun ρ hρ => ?_) (hJ.val hRS hcl hL rfl (Below.refl _ _) _ rfl)
            rw [hρ] at e0
            clear hb
            clear hJ hsame hdep hcl hρ hsz
            go_simp
          · intro L a w' hL hsame hsz hJ hdep hcl
            have e0 : a.eval (.tmp 84) = (.agg #[.int .i64 R, .int .i64 K, .slice AE (R * K) cE]) := eval_slot (j := 16) (by kernel_rfl) (hJ.valOf (by decide) (dep_of hdep 16 (by kernel_rfl)) rfl rfl)
            have e2 : a.eval (.tmp 85) = (.int .i64 col) := eval_slot (j := 17) (by kernel_rfl) (hJ.valOf (by decide) (dep_of hdep 17 (by kernel_rfl)) rfl rfl)
            have e4 : a.eval (.tmp 86) = (.agg #[.int .i64 pa, .int .i64 pb, .int .i64 pc]) := eval_slot (j := 18) (by kernel_rfl) (hJ.valOf (by decide) (dep_of hdep 18 (by kernel_rfl)) rfl rfl)
            refine Step.call _ rfl rfl (wanted_none rfl) 15 #[.agg #[.int .i64 R, .int .i64 K, .slice AE (R * K) cE], .int .i64 0, .int .i64 col, .int .i64 1, .agg #[.int .i64 pa, .int .i64 pb, .int .i64 pc]] (fun ρ hρ => ?_) ?_
            · skip
              rw [hρ] at e0 e2 e4
              have ec0 : ρ (.const (.int .i64 0)) = (.int .i64 0) := (hρ _).symm
              have ec1 : ρ (.const (.int .i64 1)) = (.int .i64 1) := (hρ _).symm
              have ef : ρ (.func 15) = .func (.func 15) #[] #[] := (hρ _).symm
              clear hJ hsame hdep hcl hρ hsz
              go_simp
            · refine (u_delete QE.out.1 (IE.out.keptS NR.out hJ.kept) 0 col 1 (pa, pb, pc) HP.out (by omega) (by have := HK.out; omega) (by omega)).mono ?_
              rintro e w2 ⟨v, rfl, hg, bb⟩
              exact ⟨v, rfl, hJ.grid hRS hcl hL rfl bb v hg⟩
          · intro L a w' hL hsame hsz hJ hdep hcl
            obtain ⟨sv, hsv, hso⟩ := hJ.gridOf (by decide) (dep_of hdep 5 (by kernel_rfl)) rfl
            obtain ⟨sA, sc, rfl, _⟩ := own_form' hso
            have es : a.eval (.tmp 73) = .agg #[.int .i64 ((PG.scrollI (PG.upN Gx ((R : Int) - 1) (pa, pb, pc) k) 0 ((R : Int) - 1) 1 (pa, pb, pc))).rows, .int .i64 ((PG.scrollI (PG.upN Gx ((R : Int) - 1) (pa, pb, pc) k) 0 ((R : Int) - 1) 1 (pa, pb, pc))).cols, .slice sA (((PG.scrollI (PG.upN Gx ((R : Int) - 1) (pa, pb, pc) k) 0 ((R : Int) - 1) 1 (pa, pb, pc))).rows * ((PG.scrollI (PG.upN Gx ((R : Int) - 1) (pa, pb, pc) k) 0 ((R : Int) - 1) 1 (pa, pb, pc))).cols) sc] := eval_slot (j := 5) (by kernel_rfl) hsv
            have hb : Box w' gU 27 #[.int .i64 R, .int .i64 K, .slice AU (R * K) cU] := hJ.old 20 rfl hL
            obtain ⟨m0, m1, m2, f0, f1, f2⟩ := Box.three (a := (.int .i64 R)) (b := (.int .i64 K)) (c := (.slice AU (R * K) cU)) hb
            have ea : a.eval (.tmp 17) = .pointer (some ⟨gU, 0, none⟩) := eval_base hsame (by kernel_rfl)
            refine Step.skip _ rfl (wanted_none rfl) (set3 w' gU (.int .i64 ((PG.scrollI (PG.upN Gx ((R : Int) - 1) (pa, pb, pc) k) 0 ((R : Int) - 1) 1 (pa, pb, pc))).rows) (.int .i64 ((PG.scrollI (PG.upN Gx ((R : Int) - 1) (pa, pb, pc) k) 0 ((R : Int) - 1) 1 (pa, pb, pc))).cols) (.slice sA (((PG.scrollI (PG.upN Gx ((R : Int) - 1) (pa, pb, pc) k) 0 ((R : Int) - 1) 1 (pa, pb, pc))).rows * ((PG.scrollI (PG.upN Gx ((R : Int) - 1) (pa, pb, pc) k) 0 ((R : Int) - 1) 1 (pa, pb, pc))).cols) sc)) (fun ρ hρ => ?_) (hJ.set hRS hcl hL rfl (dep_of hdep 5 (by kernel_rfl)) hsv)
            rw [hρ] at es ea
            clear hJ hsame hdep hcl hρ hsz hb hso hsv
            unfold set3
            go_simp
          · intro L a w' hL hsame hsz hJ hdep hcl
            obtain ⟨sv, hsv, hso⟩ := hJ.gridOf (by decide) (dep_of hdep 11 (by kernel_rfl)) rfl
            obtain ⟨sA, sc, rfl, _⟩ := own_form' hso
            have es : a.eval (.tmp 79) = .agg #[.int .i64 ((PG.scrollI (PG.downN Gx ((R : Int) - 1) (pa, pb, pc) k) 0 ((R : Int) - 1) (-1) (pa, pb, pc))).rows, .int .i64 ((PG.scrollI (PG.downN Gx ((R : Int) - 1) (pa, pb, pc) k) 0 ((R : Int) - 1) (-1) (pa, pb, pc))).cols, .slice sA (((PG.scrollI (PG.downN Gx ((R : Int) - 1) (pa, pb, pc) k) 0 ((R : Int) - 1) (-1) (pa, pb, pc))).rows * ((PG.scrollI (PG.downN Gx ((R : Int) - 1) (pa, pb, pc) k) 0 ((R : Int) - 1) (-1) (pa, pb, pc))).cols) sc] := eval_slot (j := 11) (by kernel_rfl) hsv
            have hb : Box w' gD 27 #[.int .i64 R, .int .i64 K, .slice AD (R * K) cD] := hJ.old 21 rfl hL
            obtain ⟨m0, m1, m2, f0, f1, f2⟩ := Box.three (a := (.int .i64 R)) (b := (.int .i64 K)) (c := (.slice AD (R * K) cD)) hb
            have ea : a.eval (.tmp 18) = .pointer (some ⟨gD, 0, none⟩) := eval_base hsame (by kernel_rfl)
            refine Step.skip _ rfl (wanted_none rfl) (set3 w' gD (.int .i64 ((PG.scrollI (PG.downN Gx ((R : Int) - 1) (pa, pb, pc) k) 0 ((R : Int) - 1) (-1) (pa, pb, pc))).rows) (.int .i64 ((PG.scrollI (PG.downN Gx ((R : Int) - 1) (pa, pb, pc) k) 0 ((R : Int) - 1) (-1) (pa, pb, pc))).cols) (.slice sA (((PG.scrollI (PG.downN Gx ((R : Int) - 1) (pa, pb, pc) k) 0 ((R : Int) - 1) (-1) (pa, pb, pc))).rows * ((PG.scrollI (PG.downN Gx ((R : Int) - 1) (pa, pb, pc) k) 0 ((R : Int) - 1) (-1) (pa, pb, pc))).cols) sc)) (fun ρ hρ => ?_) (hJ.set hRS hcl hL rfl (dep_of hdep 11 (by kernel_rfl)) hsv)
            rw [hρ] at es ea
            clear hJ hsame hdep hcl hρ hsz hb hso hsv
            unfold set3
            go_simp
          · intro L a w' hL hsame hsz hJ hdep hcl
            obtain ⟨sv, hsv, hso⟩ := hJ.gridOf (by decide) (dep_of hdep 15 (by kernel_rfl)) rfl
            obtain ⟨sA, sc, rfl, _⟩ := own_form' hso
            have es : a.eval (.tmp 83) = .agg #[.int .i64 ((PG.shiftI (PG.insN Gx col (pa, pb, pc) k) 0 col 1 (pa, pb, pc))).rows, .int .i64 ((PG.shiftI (PG.insN Gx col (pa, pb, pc) k) 0 col 1 (pa, pb, pc))).cols, .slice sA (((PG.shiftI (PG.insN Gx col (pa, pb, pc) k) 0 col 1 (pa, pb, pc))).rows * ((PG.shiftI (PG.insN Gx col (pa, pb, pc) k) 0 col 1 (pa, pb, pc))).cols) sc] := eval_slot (j := 15) (by kernel_rfl) hsv
            have hb : Box w' gI 27 #[.int .i64 R, .int .i64 K, .slice AI (R * K) cI] := hJ.old 22 rfl hL
            obtain ⟨m0, m1, m2, f0, f1, f2⟩ := Box.three (a := (.int .i64 R)) (b := (.int .i64 K)) (c := (.slice AI (R * K) cI)) hb
            have ea : a.eval (.tmp 19) = .pointer (some ⟨gI, 0, none⟩) := eval_base hsame (by kernel_rfl)
            refine Step.skip _ rfl (wanted_none rfl) (set3 w' gI (.int .i64 ((PG.shiftI (PG.insN Gx col (pa, pb, pc) k) 0 col 1 (pa, pb, pc))).rows) (.int .i64 ((PG.shiftI (PG.insN Gx col (pa, pb, pc) k) 0 col 1 (pa, pb, pc))).cols) (.slice sA (((PG.shiftI (PG.insN Gx col (pa, pb, pc) k) 0 col 1 (pa, pb, pc))).rows * ((PG.shiftI (PG.insN Gx col (pa, pb, pc) k) 0 col 1 (pa, pb, pc))).cols) sc)) (fun ρ hρ => ?_) (hJ.set hRS hcl hL rfl (dep_of hdep 15 (by kernel_rfl)) hsv)
            rw [hρ] at es ea
            clear hJ hsame hdep hcl hρ hsz hb hso hsv
            unfold set3
            go_simp
          · intro L a w' hL hsame hsz hJ hdep hcl
            obtain ⟨sv, hsv, hso⟩ := hJ.gridOf (by decide) (dep_of hdep 19 (by kernel_rfl)) rfl
            obtain ⟨sA, sc, rfl, _⟩ := own_form' hso
            have es : a.eval (.tmp 87) = .agg #[.int .i64 ((PG.shiftI (PG.delN Gx col (pa, pb, pc) k) 0 col (-1) (pa, pb, pc))).rows, .int .i64 ((PG.shiftI (PG.delN Gx col (pa, pb, pc) k) 0 col (-1) (pa, pb, pc))).cols, .slice sA (((PG.shiftI (PG.delN Gx col (pa, pb, pc) k) 0 col (-1) (pa, pb, pc))).rows * ((PG.shiftI (PG.delN Gx col (pa, pb, pc) k) 0 col (-1) (pa, pb, pc))).cols) sc] := eval_slot (j := 19) (by kernel_rfl) hsv
            have hb : Box w' gE 27 #[.int .i64 R, .int .i64 K, .slice AE (R * K) cE] := hJ.old 23 rfl hL
            obtain ⟨m0, m1, m2, f0, f1, f2⟩ := Box.three (a := (.int .i64 R)) (b := (.int .i64 K)) (c := (.slice AE (R * K) cE)) hb
            have ea : a.eval (.tmp 20) = .pointer (some ⟨gE, 0, none⟩) := eval_base hsame (by kernel_rfl)
            refine Step.skip _ rfl (wanted_none rfl) (set3 w' gE (.int .i64 ((PG.shiftI (PG.delN Gx col (pa, pb, pc) k) 0 col (-1) (pa, pb, pc))).rows) (.int .i64 ((PG.shiftI (PG.delN Gx col (pa, pb, pc) k) 0 col (-1) (pa, pb, pc))).cols) (.slice sA (((PG.shiftI (PG.delN Gx col (pa, pb, pc) k) 0 col (-1) (pa, pb, pc))).rows * ((PG.shiftI (PG.delN Gx col (pa, pb, pc) k) 0 col (-1) (pa, pb, pc))).cols) sc)) (fun ρ hρ => ?_) (hJ.set hRS hcl hL rfl (dep_of hdep 19 (by kernel_rfl)) hsv)
            rw [hρ] at es ea
            clear hJ hsame hdep hcl hρ hsz hb hso hsv
            unfold set3
            go_simp
          · intro L a w' hsame hsz hJ hall
            obtain ⟨u, hu, ha⟩ := act_puts hsame
            have h : ((GBox w' (PG.scrollI (PG.upN Gx ((R : Int) - 1) (pa, pb, pc) k) 0 ((R : Int) - 1) 1 (pa, pb, pc)) gU ∧ GBox w' (PG.scrollI (PG.downN Gx ((R : Int) - 1) (pa, pb, pc) k) 0 ((R : Int) - 1) (-1) (pa, pb, pc)) gD ∧ GBox w' (PG.shiftI (PG.insN Gx col (pa, pb, pc) k) 0 col 1 (pa, pb, pc)) gI ∧ GBox w' (PG.shiftI (PG.delN Gx col (pa, pb, pc) k) 0 col (-1) (pa, pb, pc)) gE)) ∧ Below wc.heap.size wr w' := by
              (try simp only [hu])
              exact (And.intro ⟨(hJ.var4 hall 20 (by decide) rfl rfl (by decide) rfl), (hJ.var4 hall 21 (by decide) rfl rfl (by decide) rfl), (hJ.var4 hall 22 (by decide) rfl rfl (by decide) rfl), (hJ.var4 hall 23 (by decide) rfl rfl (by decide) rfl)⟩ (hJ.kept.toBelow bx.out.size (by have := HL.out; simp; omega)))
            have h := hide h
            clear hJ hall hsz hu hsame
            subst ha
            change Exit.inBlock _ _ Exit.normal (Act.put (Act.put (Act.put (Act.put (Act.put (Act.put (Act.put (Act.put (Act.put (Act.put (Act.put (Act.put (Act.put (Act.put (Act.put (Act.put (Act.put (Act.put (Act.put (Act.put (Act.put (Act.put (Act.put (Act.put (putAll _ u 0 _) (some 68) (u 0)) (some 69) (u 1)) (some 70) (u 2)) (some 71) (u 3)) (some 72) (u 4)) (some 73) (u 5)) (some 74) (u 6)) (some 75) (u 7)) (some 76) (u 8)) (some 77) (u 9)) (some 78) (u 10)) (some 79) (u 11)) (some 80) (u 12)) (some 81) (u 13)) (some 82) (u 14)) (some 83) (u 15)) (some 84) (u 16)) (some 85) (u 17)) (some 86) (u 18)) (some 87) (u 19)) none (u 20)) none (u 21)) none (u 22)) none (u 23)) _
            simp only [putAll]
            generalize u 0 = v0
            generalize u 1 = v1
            generalize u 2 = v2
            generalize u 3 = v3
            generalize u 4 = v4
            generalize u 5 = v5
            generalize u 6 = v6
            generalize u 7 = v7
            generalize u 8 = v8
            generalize u 9 = v9
            generalize u 10 = v10
            generalize u 11 = v11
            generalize u 12 = v12
            generalize u 13 = v13
            generalize u 14 = v14
            generalize u 15 = v15
            generalize u 16 = v16
            generalize u 17 = v17
            generalize u 18 = v18
            generalize u 19 = v19
            generalize u 20 = v20
            generalize u 21 = v21
            generalize u 22 = v22
            generalize u 23 = v23
            go_simp
            clear hsR
            obtain ⟨⟨x1, x2, x3, x4⟩, bxx⟩ := h.out
            have VU := hide x1
            have VD := hide x2
            have VI := hide x3
            have VE := hide x4
            have bx := hide (bx.out.trans bxx)
            clear x1 x2 x3 x4 bxx h
            (try simp only [Exit.then, Exit.inBlock])
            go_wp2_with fail
            go_roundw
            case rel => exact ⟨k + 1, by have := HKM.out; omega, by go_num, VU, VD, VI, VE, bx⟩
            case measure => exact meas_succ HKM.out
        · obtain rfl : k = mm := by omega
          go_wp2_with fail
          go_meet
          exact ⟨⟨VU.out, VD.out, VI.out, VE.out⟩, bx.out⟩
  case rest =>
  obtain ⟨⟨vU, vD, vI, vE⟩, bc⟩ := hcut
  clear VU VD VI VE BC HL LOW DIST
  have BB := hide (BB.out.trans (bc.mono BB.out.size))
  have SP := hide (SP.out.keep bc)
  have HBG := hide (HBG.out.below bc HBG.out.lt)
  have HIG := hide (HIG.out.low bc)
  have BP := hide (BP.out.below bc BP.out.lt)
  have VU := hide vU
  have VD := hide vD
  have VI := hide vI
  have VE := hide vE
  have QU := hide (PG.right_upN HX.out.1 HP.out ((R : Int) - 1) mm)
  have QD := hide (PG.right_downN HX.out.1 HP.out ((R : Int) - 1) mm)
  have QI := hide (PG.right_insN HX.out.1 HP.out col mm)
  have QE := hide (PG.right_delN HX.out.1 HP.out col mm)
  clear bc vU vD vI vE
  obtain ⟨AU, cU, hbU, -, -, -, hiU⟩ := VU.out.open_ (QU.out.2.1.trans HX.out.2.1) (QU.out.2.2.trans HX.out.2.2.1)
  have BU := hide (show Box wc gU 27 #[.int .i64 R, .int .i64 K, .slice AU (R * K) cU] from hbU)
  have IU := hide (show IsG wc (PG.upN Gx ((R : Int) - 1) (pa, pb, pc) mm) (.agg #[.int .i64 R, .int .i64 K, .slice AU (R * K) cU]) from hiU)
  clear hbU hiU
  obtain ⟨AD, cD, hbD, -, -, -, hiD⟩ := VD.out.open_ (QD.out.2.1.trans HX.out.2.1) (QD.out.2.2.trans HX.out.2.2.1)
  have BD := hide (show Box wc gD 27 #[.int .i64 R, .int .i64 K, .slice AD (R * K) cD] from hbD)
  have ID := hide (show IsG wc (PG.downN Gx ((R : Int) - 1) (pa, pb, pc) mm) (.agg #[.int .i64 R, .int .i64 K, .slice AD (R * K) cD]) from hiD)
  clear hbD hiD
  obtain ⟨AI, cI, hbI, -, -, -, hiI⟩ := VI.out.open_ (QI.out.2.1.trans HX.out.2.1) (QI.out.2.2.trans HX.out.2.2.1)
  have BI := hide (show Box wc gI 27 #[.int .i64 R, .int .i64 K, .slice AI (R * K) cI] from hbI)
  have II := hide (show IsG wc (PG.insN Gx col (pa, pb, pc) mm) (.agg #[.int .i64 R, .int .i64 K, .slice AI (R * K) cI]) from hiI)
  clear hbI hiI
  obtain ⟨AE, cE, hbE, -, -, -, hiE⟩ := VE.out.open_ (QE.out.2.1.trans HX.out.2.1) (QE.out.2.2.trans HX.out.2.2.1)
  have BE := hide (show Box wc gE 27 #[.int .i64 R, .int .i64 K, .slice AE (R * K) cE] from hbE)
  have IE := hide (show IsG wc (PG.delN Gx col (pa, pb, pc) mm) (.agg #[.int .i64 R, .int .i64 K, .slice AE (R * K) cE]) from hiE)
  clear hbE hiE
  clear VU VD VI VE
  go_upto_region 17 with fail
  go_cut [21] (fun u wx => GVar wc.heap.size (PG.lineI Gx 0 col 0 (pa, pb, pc)) u wx ∧ Below wc.heap.size wc wx)
  case first =>
    as_aux_lemma =>
      obtain ⟨m0, m1, m2, -, -, -⟩ := Box.three (a := .int .i64 R) (b := .int .i64 K) (c := .slice AG (R * K) cG) HBG.out
      obtain ⟨q0, q1, q2, -, -, -⟩ := BP.out.three
      have IN := hide (u_line HX.out.1 HIG.out 0 col 0 (pa, pb, pc) HP.out (by omega) (by have := HK.out; omega))
      go_wp2_with (
        go_at_call 24
        go_must (refine IN.out.mono ?_)
        rintro e w3 ⟨v, rfl, ⟨s, rfl, ho⟩, b3⟩
        obtain ⟨sA, sc, rfl, _⟩ := own_form' ho
        have b3 := hide b3
        have ho := hide ho
        clear m0 m1 m2 q0 q1 q2
        unfold gv)
      go_meet
      exact ⟨⟨_, rfl, b3.out.size, _, Box.new _ _ _, _, rfl, own_low ho.out ((Below.refl _ _).alloc (Nat.le_refl _) _)⟩, b3.out.alloc (by have := b3.out.size; omega) _⟩
  case rest =>
  obtain ⟨⟨gL, rfl, -, hL'⟩, bc⟩ := hcut
  have BB := hide (BB.out.trans (bc.mono BB.out.size))
  have SP := hide (SP.out.keep bc)
  have HBG := hide (HBG.out.below bc HBG.out.lt)
  have HIG := hide (HIG.out.low bc)
  have BP := hide (BP.out.below bc BP.out.lt)
  have BU := hide (BU.out.below bc BU.out.lt)
  have IU := hide (IU.out.low bc)
  have BD := hide (BD.out.below bc BD.out.lt)
  have ID := hide (ID.out.low bc)
  have BI := hide (BI.out.below bc BI.out.lt)
  have II := hide (II.out.low bc)
  have BE := hide (BE.out.below bc BE.out.lt)
  have IE := hide (IE.out.low bc)
  obtain ⟨AL, cL, hbl, -, -, -, hil⟩ := hL'.open_ ((PG.lineI_size ..).1.trans HX.out.2.1) ((PG.lineI_size ..).2.trans HX.out.2.2.1)
  have BL := hide (show Box wc gL 27 #[.int .i64 R, .int .i64 K, .slice AL (R * K) cL] from hbl)
  have IL := hide (show IsG wc (PG.lineI Gx 0 col 0 (pa, pb, pc)) (.agg #[.int .i64 R, .int .i64 K, .slice AL (R * K) cL]) from hil)
  clear bc hL' hbl hil
  have hr0 : 0 < Gx.rows := by have := HX.out.2.1; have := HK.out; omega
  have hc0 : col < Gx.cols := by have := HX.out.2.2.1; have := HK.out; omega
  have hsi : PG.Singles (Gx.f 0) Gx.cols := by rw [HX.out.2.2.1]; exact HX.out.2.2.2
  have hrows := HX.out.2.1
  have A1 := PG.upN_is (g := Gx) (by omega) (pa, pb, pc) mm
  have A2 := PG.downN_is (g := Gx) (by omega) (pa, pb, pc) mm
  rw [hrows] at A1 A2
  have A3 := PG.insN_is (pa, pb, pc) hr0 hc0 hsi mm
  have A4 := PG.delN_is (pa, pb, pc) hr0 hc0 hsi mm
  have hle : (PG.lineI Gx 0 col 0 (pa, pb, pc)) = PG.wipeG Gx 0 col Gx.cols (pa, pb, pc) := if_pos ⟨by omega, by omega, by omega⟩
  have A5 : PG.Alike (PG.shiftI Gx 0 col 65535 (pa, pb, pc)) (PG.lineI Gx 0 col 0 (pa, pb, pc)) := by
    rw [PG.shiftI_at, hle]
    exact PG.shift_all (pa, pb, pc) hr0 hc0 hsi (.inl (by have := HX.out.2.2.1; have := HK.out; omega))
  have A6 : PG.Alike (PG.shiftI Gx 0 col (-99) (pa, pb, pc)) (PG.lineI Gx 0 col 0 (pa, pb, pc)) := by
    rw [PG.shiftI_at, hle]
    exact PG.shift_all (pa, pb, pc) hr0 hc0 hsi (.inr (by have := HX.out.2.2.1; have := HK.out; omega))
  have A1 := hide A1
  have A2 := hide A2
  have A3 := hide A3
  have A4 := hide A4
  have A5 := hide A5
  have A6 := hide A6
  clear hr0 hc0 hsi hrows hle
  have hsR := wrap_predP (R := R) (by have := HK.out; omega)
  go_upto_region 18 with fail
  go_cut [8] (fun u8 wx => (u8 = .bool true) ∧ Below wc.heap.size wc wx)
  case first =>
    as_aux_lemma =>
      refine wp_region_rj (n := 150) [] (fun _ => #[]) [(0, 0, 0, 0), (0, 0, 0, 0), (0, 0, 0, 0), (0, 0, 0, 0), (0, 0, 0, 0), (0, 0, 0, 0), (0, 0, 0, 0), (1, 0, 0, 0), (0, 0, 0, 0), (0, 0, 0, 0), (0, 0, 0, 0), (0, 0, 0, 0), (0, 0, 0, 0), (0, 0, 0, 0), (0, 0, 0, 0), (0, 0, 0, 0), (0, 0, 0, 0), (1, 0, 0, 0), (0, 0, 0, 0), (0, 0, 0, 0), (0, 0, 0, 0), (0, 0, 0, 0), (0, 0, 0, 0), (0, 0, 0, 0), (0, 0, 0, 0), (0, 0, 0, 0), (1, 0, 0, 0), (0, 0, 0, 0), (0, 0, 0, 0), (0, 0, 0, 0), (0, 0, 0, 0), (0, 0, 0, 0), (0, 0, 0, 0), (0, 0, 0, 0), (0, 0, 0, 0), (1, 0, 0, 0), (0, 0, 0, 0), (0, 0, 0, 0), (0, 0, 0, 0), (0, 0, 0, 0), (0, 0, 0, 0), (0, 0, 0, 0), (1, 0, 0, 0), (0, 0, 0, 0), (0, 0, 0, 0), (0, 0, 0, 0), (0, 0, 0, 0), (0, 0, 0, 0), (0, 0, 0, 0), (0, 0, 0, 0), (1, 0, 0, 0), (0, 0, 0, 0), (0, 0, 0, 0), (0, 0, 0, 0), (0, 0, 0, 0), (0, 0, 0, 0), (0, 0, 0, 0), (0, 0, 0, 0)] (fun j => [(.agg #[.int .i64 R, .int .i64 K, .slice AU (R * K) cU]), (.agg #[.int .i64 R, .int .i64 K, .slice AG (R * K) cG]), (.pointer (some ⟨gG, 0, none⟩)), (.int .i64 R), (.int .i64 ((R : Int) - 1)), (.int .i64 mm), (.agg #[.int .i64 pa, .int .i64 pb, .int .i64 pc]), undef, (.bool true), (.bool true), (.agg #[.int .i64 R, .int .i64 K, .slice AD (R * K) cD]), (.agg #[.int .i64 R, .int .i64 K, .slice AG (R * K) cG]), (.pointer (some ⟨gG, 0, none⟩)), (.int .i64 R), (.int .i64 ((R : Int) - 1)), (.int .i64 mm), (.agg #[.int .i64 pa, .int .i64 pb, .int .i64 pc]), undef, (.bool true), (.bool true), (.bool true), (.agg #[.int .i64 R, .int .i64 K, .slice AI (R * K) cI]), (.agg #[.int .i64 R, .int .i64 K, .slice AG (R * K) cG]), (.int .i64 col), (.int .i64 mm), (.agg #[.int .i64 pa, .int .i64 pb, .int .i64 pc]), undef, (.bool true), (.bool true), (.bool true), (.agg #[.int .i64 R, .int .i64 K, .slice AE (R * K) cE]), (.agg #[.int .i64 R, .int .i64 K, .slice AG (R * K) cG]), (.int .i64 col), (.int .i64 mm), (.agg #[.int .i64 pa, .int .i64 pb, .int .i64 pc]), undef, (.bool true), (.bool true), (.bool true), (.agg #[.int .i64 R, .int .i64 K, .slice AG (R * K) cG]), (.int .i64 col), (.agg #[.int .i64 pa, .int .i64 pb, .int .i64 pc]), undef, (.agg #[.int .i64 R, .int .i64 K, .slice AL (R * K) cL]), (.bool true), (.bool true), (.bool true), (.agg #[.int .i64 R, .int .i64 K, .slice AG (R * K) cG]), (.int .i64 col), (.agg #[.int .i64 pa, .int .i64 pb, .int .i64 pc]), undef, (.agg #[.int .i64 R, .int .i64 K, .slice AL (R * K) cL]), (.bool true), (.bool true), (.bool true), (.bool true), (.bool true), (.bool true)].getD j undef) (fun j => [PG.dflt, PG.dflt, PG.dflt, PG.dflt, PG.dflt, PG.dflt, PG.dflt, (PG.scrollI Gx 0 ((R : Int) - 1) mm (pa, pb, pc)), PG.dflt, PG.dflt, PG.dflt, PG.dflt, PG.dflt, PG.dflt, PG.dflt, PG.dflt, PG.dflt, (PG.scrollI Gx 0 ((R : Int) - 1) (-(mm : Int)) (pa, pb, pc)), PG.dflt, PG.dflt, PG.dflt, PG.dflt, PG.dflt, PG.dflt, PG.dflt, PG.dflt, (PG.shiftI Gx 0 col mm (pa, pb, pc)), PG.dflt, PG.dflt, PG.dflt, PG.dflt, PG.dflt, PG.dflt, PG.dflt, PG.dflt, (PG.shiftI Gx 0 col (-(mm : Int)) (pa, pb, pc)), PG.dflt, PG.dflt, PG.dflt, PG.dflt, PG.dflt, PG.dflt, (PG.shiftI Gx 0 col 65535 (pa, pb, pc)), PG.dflt, PG.dflt, PG.dflt, PG.dflt, PG.dflt, PG.dflt, PG.dflt, (PG.shiftI Gx 0 col (-99) (pa, pb, pc)), PG.dflt, PG.dflt, PG.dflt, PG.dflt, PG.dflt, PG.dflt, PG.dflt].getD j PG.dflt) (fun _ => 0) (by kernel_rfl) (by kernel_rfl) (by kernel_rfl) rfl (by kernel_rfl) (no4 rfl) (fun i j h => by revert h; exact no4 (p := fun _ => _) rfl i) (fun hRS => cases58 ⟨?_, ?_, ?_, ?_, ?_, ?_, ?_, ?_, ?_, ?_, ?_, ?_, ?_, ?_, ?_, ?_, ?_, ?_, ?_, ?_, ?_, ?_, ?_, ?_, ?_, ?_, ?_, ?_, ?_, ?_, ?_, ?_, ?_, ?_, ?_, ?_, ?_, ?_, ?_, ?_, ?_, ?_, ?_, ?_, ?_, ?_, ?_, ?_, ?_, ?_, ?_, ?_, ?_, ?_, ?_, ?_, ?_, ?_⟩) ?_
      · intro L a w' hL hsame hsz hJ hdep hcl
        have e0 : a.eval (.tmp 17) = (.pointer (some ⟨gU, 0, none⟩)) := eval_base hsame (by kernel_rfl)
        have hb := hJ.keptBox BU.out (by simp)
        have q0 : w'.cell? ⟨gU, 0, none⟩ = some (.int .i64 R) := hb.cell 0
        have q1 : w'.cell? ⟨gU, 1, none⟩ = some (.int .i64 K) := hb.cell 1
        have q2 : w'.cell? ⟨gU, 2, none⟩ = some (.slice AU (R * K) cU) := hb.cell 2
        refine Step.val _ rfl rfl (wanted_none rfl) (.agg #[.int .i64 R, .int .i64 K, .slice AU (R * K) cU]) w' (fun ρ hρ => ?_) (hJ.val hRS hcl hL rfl (Below.refl _ _) _ rfl)
        rw [hρ] at e0
        clear hb
        clear hJ hsame hdep hcl hρ hsz
        go_simp
      · intro L a w' hL hsame hsz hJ hdep hcl
        have e0 : a.eval (.tmp 9) = (.pointer (some ⟨gG, 0, none⟩)) := eval_base hsame (by kernel_rfl)
        have hb := hJ.keptBox HBG.out (by simp)
        have q0 : w'.cell? ⟨gG, 0, none⟩ = some (.int .i64 R) := hb.cell 0
        have q1 : w'.cell? ⟨gG, 1, none⟩ = some (.int .i64 K) := hb.cell 1
        have q2 : w'.cell? ⟨gG, 2, none⟩ = some (.slice AG (R * K) cG) := hb.cell 2
        refine Step.val _ rfl rfl (wanted_none rfl) (.agg #[.int .i64 R, .int .i64 K, .slice AG (R * K) cG]) w' (fun ρ hρ => ?_) (hJ.val hRS hcl hL rfl (Below.refl _ _) _ rfl)
        rw [hρ] at e0
        clear hb
        clear hJ hsame hdep hcl hρ hsz
        go_simp
      · intro L a w' hL hsame hsz hJ hdep hcl
        have e0 : a.eval (.tmp 9) = (.pointer (some ⟨gG, 0, none⟩)) := eval_base hsame (by kernel_rfl)
        refine Step.val _ rfl rfl (wanted_none rfl) (.pointer (some ⟨gG, 0, none⟩)) w' (fun ρ hρ => ?_) (hJ.val hRS hcl hL rfl (Below.refl _ _) _ rfl)
        rw [hρ] at e0
        clear hJ hsame hdep hcl hρ hsz
        go_simp
      · intro L a w' hL hsame hsz hJ hdep hcl
        have e0 : a.eval (.tmp 95) = (.pointer (some ⟨gG, 0, none⟩)) := eval_slot (j := 2) (by kernel_rfl) (hJ.valOf (by decide) (dep_of hdep 2 (by kernel_rfl)) rfl rfl)
        have hb := hJ.keptBox HBG.out (by simp)
        have q0 : w'.cell? ⟨gG, 0, none⟩ = some (.int .i64 R) := hb.cell 0
        refine Step.val _ rfl rfl (wanted_none rfl) (.int .i64 R) w' (fun ρ hρ => ?_) (hJ.val hRS hcl hL rfl (Below.refl _ _) _ rfl)
        rw [hρ] at e0
        clear hb
        clear hJ hsame hdep hcl hρ hsz
        go_simp
      · intro L a w' hL hsame hsz hJ hdep hcl
        have e0 : a.eval (.tmp 96) = (.int .i64 R) := eval_slot (j := 3) (by kernel_rfl) (hJ.valOf (by decide) (dep_of hdep 3 (by kernel_rfl)) rfl rfl)
        refine Step.val _ rfl rfl (wanted_none rfl) (.int .i64 ((R : Int) - 1)) w' (fun ρ hρ => ?_) (hJ.val hRS hcl hL rfl (Below.refl _ _) _ rfl)
        rw [hρ] at e0
        have ec0 : ρ (.const (.int .i64 1)) = (.int .i64 1) := (hρ _).symm
        clear hJ hsame hdep hcl hρ hsz
        go_simp
      · intro L a w' hL hsame hsz hJ hdep hcl
        have e0 : a.eval (.tmp 15) = (.int .i64 mm) := eval_base hsame (by kernel_rfl)
        refine Step.val _ rfl rfl (wanted_none rfl) (.int .i64 mm) w' (fun ρ hρ => ?_) (hJ.val hRS hcl hL rfl (Below.refl _ _) _ rfl)
        rw [hρ] at e0
        clear hJ hsame hdep hcl hρ hsz
        go_simp
      · intro L a w' hL hsame hsz hJ hdep hcl
        have e0 : a.eval (.tmp 10) = (.pointer (some ⟨gP, 0, none⟩)) := eval_base hsame (by kernel_rfl)
        have hb := hJ.keptBox BP.out (by simp)
        have q0 : w'.cell? ⟨gP, 0, none⟩ = some (.int .i64 pa) := hb.cell 0
        have q1 : w'.cell? ⟨gP, 1, none⟩ = some (.int .i64 pb) := hb.cell 1
        have q2 : w'.cell? ⟨gP, 2, none⟩ = some (.int .i64 pc) := hb.cell 2
        refine Step.val _ rfl rfl (wanted_none rfl) (.agg #[.int .i64 pa, .int .i64 pb, .int .i64 pc]) w' (fun ρ hρ => ?_) (hJ.val hRS hcl hL rfl (Below.refl _ _) _ rfl)
        rw [hρ] at e0
        clear hb
        clear hJ hsame hdep hcl hρ hsz
        go_simp
      · intro L a w' hL hsame hsz hJ hdep hcl
        have e0 : a.eval (.tmp 94) = (.agg #[.int .i64 R, .int .i64 K, .slice AG (R * K) cG]) := eval_slot (j := 1) (by kernel_rfl) (hJ.valOf (by decide) (dep_of hdep 1 (by kernel_rfl)) rfl rfl)
        have e2 : a.eval (.tmp 97) = (.int .i64 ((R : Int) - 1)) := eval_slot (j := 4) (by kernel_rfl) (hJ.valOf (by decide) (dep_of hdep 4 (by kernel_rfl)) rfl rfl)
        have e3 : a.eval (.tmp 98) = (.int .i64 mm) := eval_slot (j := 5) (by kernel_rfl) (hJ.valOf (by decide) (dep_of hdep 5 (by kernel_rfl)) rfl rfl)
        have e4 : a.eval (.tmp 99) = (.agg #[.int .i64 pa, .int .i64 pb, .int .i64 pc]) := eval_slot (j := 6) (by kernel_rfl) (hJ.valOf (by decide) (dep_of hdep 6 (by kernel_rfl)) rfl rfl)
        refine Step.call _ rfl rfl (wanted_none rfl) 11 #[.agg #[.int .i64 R, .int .i64 K, .slice AG (R * K) cG], .int .i64 0, .int .i64 ((R : Int) - 1), .int .i64 mm, .agg #[.int .i64 pa, .int .i64 pb, .int .i64 pc]] (fun ρ hρ => ?_) ?_
        · skip
          rw [hρ] at e0 e2 e3 e4
          have ec0 : ρ (.const (.int .i64 0)) = (.int .i64 0) := (hρ _).symm
          have ef : ρ (.func 11) = .func (.func 11) #[] #[] := (hρ _).symm
          clear hJ hsame hdep hcl hρ hsz
          go_simp
        · refine (u_up HX.out.1 (HIG.out.low (hJ.kept.toBelow (Nat.le_refl _) (by simp))) 0 ((R : Int) - 1) mm (pa, pb, pc) HP.out (by omega) (by have := HK.out; omega) (by have := HK.out; omega)).mono ?_
          rintro e w2 ⟨v, rfl, hg, bb⟩
          exact ⟨v, rfl, hJ.grid hRS hcl hL rfl bb v hg⟩
      · intro L a w' hL hsame hsz hJ hdep hcl
        have e0 : a.eval (.tmp 93) = (.agg #[.int .i64 R, .int .i64 K, .slice AU (R * K) cU]) := eval_slot (j := 0) (by kernel_rfl) (hJ.valOf (by decide) (dep_of hdep 0 (by kernel_rfl)) rfl rfl)
        obtain ⟨v7, hv7, hG7⟩ := hJ.gridAt (j := 7) (by decide) (dep_of hdep 7 (by kernel_rfl)) rfl
        have hG7 : IsG w' (PG.scrollI Gx 0 ((R : Int) - 1) mm (pa, pb, pc)) v7 := hG7
        have e1 : a.eval (.tmp 100) = v7 := eval_slot (j := 7) (by kernel_rfl) hv7
        refine Step.call _ rfl rfl (wanted_none rfl) 28 #[.agg #[.int .i64 R, .int .i64 K, .slice AU (R * K) cU], v7] (fun ρ hρ => ?_) ?_
        · skip
          rw [hρ] at e0 e1
          have ef : ρ (.func 28) = .func (.func 28) #[] #[] := (hρ _).symm
          clear hJ hsame hdep hcl hρ hsz
          go_simp
        · refine (u_same QU.out.1 (IU.out.low (hJ.kept.toBelow (Nat.le_refl _) (by simp))) hG7 A1.out).mono ?_
          rintro e w2 ⟨rfl, bb⟩
          exact ⟨_, rfl, hJ.val hRS hcl hL rfl bb _ rfl⟩
      · intro L a w' hL hsame hsz hJ hdep hcl
        have e0 : a.eval (.tmp 101) = (.bool true) := eval_slot (j := 8) (by kernel_rfl) (hJ.valOf (by decide) (dep_of hdep 8 (by kernel_rfl)) rfl rfl)
        refine Step.val _ rfl rfl (wanted_none rfl) (.bool true) w' (fun ρ hρ => ?_) (hJ.val hRS hcl hL rfl (Below.refl _ _) _ rfl)
        rw [hρ] at e0
        clear hJ hsame hdep hcl hρ hsz
        go_simp
      · intro L a w' hL hsame hsz hJ hdep hcl
        have gd : valOf _ 9 a = .bool true := hJ.valOf (by decide) (dep_of hdep 9 (by kernel_rfl)) rfl rfl
        have e0 : a.eval (.tmp 18) = (.pointer (some ⟨gD, 0, none⟩)) := eval_base hsame (by kernel_rfl)
        have hb := hJ.keptBox BD.out (by simp)
        have q0 : w'.cell? ⟨gD, 0, none⟩ = some (.int .i64 R) := hb.cell 0
        have q1 : w'.cell? ⟨gD, 1, none⟩ = some (.int .i64 K) := hb.cell 1
        have q2 : w'.cell? ⟨gD, 2, none⟩ = some (.slice AD (R * K) cD) := hb.cell 2
        refine Step.val _ rfl rfl (wanted_some (g := 9) (b := true) rfl gd) (.agg #[.int .i64 R, .int .i64 K, .slice AD (R * K) cD]) w' (fun ρ hρ => ?_) (hJ.val hRS hcl hL rfl (Below.refl _ _) _ rfl)
        rw [hρ] at e0
        clear hb
        clear hJ hsame hdep hcl hρ hsz gd
        go_simp
      · intro L a w' hL hsame hsz hJ hdep hcl
        have gd : valOf _ 9 a = .bool true := hJ.valOf (by decide) (dep_of hdep 9 (by kernel_rfl)) rfl rfl
        have e0 : a.eval (.tmp 9) = (.pointer (some ⟨gG, 0, none⟩)) := eval_base hsame (by kernel_rfl)
        have hb := hJ.keptBox HBG.out (by simp)
        have q0 : w'.cell? ⟨gG, 0, none⟩ = some (.int .i64 R) := hb.cell 0
        have q1 : w'.cell? ⟨gG, 1, none⟩ = some (.int .i64 K) := hb.cell 1
        have q2 : w'.cell? ⟨gG, 2, none⟩ = some (.slice AG (R * K) cG) := hb.cell 2
        refine Step.val _ rfl rfl (wanted_some (g := 9) (b := true) rfl gd) (.agg #[.int .i64 R, .int .i64 K, .slice AG (R * K) cG]) w' (fun ρ hρ => ?_) (hJ.val hRS hcl hL rfl (Below.refl _ _) _ rfl)
        rw [hρ] at e0
        clear hb
        clear hJ hsame hdep hcl hρ hsz gd
        go_simp
      · intro L a w' hL hsame hsz hJ hdep hcl
        have gd : valOf _ 9 a = .bool true := hJ.valOf (by decide) (dep_of hdep 9 (by kernel_rfl)) rfl rfl
        have e0 : a.eval (.tmp 9) = (.pointer (some ⟨gG, 0, none⟩)) := eval_base hsame (by kernel_rfl)
        refine Step.val _ rfl rfl (wanted_some (g := 9) (b := true) rfl gd) (.pointer (some ⟨gG, 0, none⟩)) w' (fun ρ hρ => ?_) (hJ.val hRS hcl hL rfl (Below.refl _ _) _ rfl)
        rw [hρ] at e0
        clear hJ hsame hdep hcl hρ hsz gd
        go_simp
      · intro L a w' hL hsame hsz hJ hdep hcl
        have gd : valOf _ 9 a = .bool true := hJ.valOf (by decide) (dep_of hdep 9 (by kernel_rfl)) rfl rfl
        have e0 : a.eval (.tmp 105) = (.pointer (some ⟨gG, 0, none⟩)) := eval_slot (j := 12) (by kernel_rfl) (hJ.valOf (by decide) (dep_of hdep 12 (by kernel_rfl)) rfl rfl)
        have hb := hJ.keptBox HBG.out (by simp)
        have q0 : w'.cell? ⟨gG, 0, none⟩ = some (.int .i64 R) := hb.cell 0
        refine Step.val _ rfl rfl (wanted_some (g := 9) (b := true) rfl gd) (.int .i64 R) w' (fun ρ hρ => ?_) (hJ.val hRS hcl hL rfl (Below.refl _ _) _ rfl)
        rw [hρ] at e0
        clear hb
        clear hJ hsame hdep hcl hρ hsz gd
        go_simp
      · intro L a w' hL hsame hsz hJ hdep hcl
        have gd : valOf _ 9 a = .bool true := hJ.valOf (by decide) (dep_of hdep 9 (by kernel_rfl)) rfl rfl
        have e0 : a.eval (.tmp 106) = (.int .i64 R) := eval_slot (j := 13) (by kernel_rfl) (hJ.valOf (by decide) (dep_of hdep 13 (by kernel_rfl)) rfl rfl)
        refine Step.val _ rfl rfl (wanted_some (g := 9) (b := true) rfl gd) (.int .i64 ((R : Int) - 1)) w' (fun ρ hρ => ?_) (hJ.val hRS hcl hL rfl (Below.refl _ _) _ rfl)
        rw [hρ] at e0
        have ec0 : ρ (.const (.int .i64 1)) = (.int .i64 1) := (hρ _).symm
        clear hJ hsame hdep hcl hρ hsz gd
        go_simp
      · intro L a w' hL hsame hsz hJ hdep hcl
        have gd : valOf _ 9 a = .bool true := hJ.valOf (by decide) (dep_of hdep 9 (by kernel_rfl)) rfl rfl
        have e0 : a.eval (.tmp 15) = (.int .i64 mm) := eval_base hsame (by kernel_rfl)
        refine Step.val _ rfl rfl (wanted_some (g := 9) (b := true) rfl gd) (.int .i64 mm) w' (fun ρ hρ => ?_) (hJ.val hRS hcl hL rfl (Below.refl _ _) _ rfl)
        rw [hρ] at e0
        clear hJ hsame hdep hcl hρ hsz gd
        go_simp
      · intro L a w' hL hsame hsz hJ hdep hcl
        have gd : valOf _ 9 a = .bool true := hJ.valOf (by decide) (dep_of hdep 9 (by kernel_rfl)) rfl rfl
        have e0 : a.eval (.tmp 10) = (.pointer (some ⟨gP, 0, none⟩)) := eval_base hsame (by kernel_rfl)
        have hb := hJ.keptBox BP.out (by simp)
        have q0 : w'.cell? ⟨gP, 0, none⟩ = some (.int .i64 pa) := hb.cell 0
        have q1 : w'.cell? ⟨gP, 1, none⟩ = some (.int .i64 pb) := hb.cell 1
        have q2 : w'.cell? ⟨gP, 2, none⟩ = some (.int .i64 pc) := hb.cell 2
        refine Step.val _ rfl rfl (wanted_some (g := 9) (b := true) rfl gd) (.agg #[.int .i64 pa, .int .i64 pb, .int .i64 pc]) w' (fun ρ hρ => ?_) (hJ.val hRS hcl hL rfl (Below.refl _ _) _ rfl)
        rw [hρ] at e0
        clear hb
        clear hJ hsame hdep hcl hρ hsz gd
        go_simp
      · intro L a w' hL hsame hsz hJ hdep hcl
        have gd : valOf _ 9 a = .bool true := hJ.valOf (by decide) (dep_of hdep 9 (by kernel_rfl)) rfl rfl
        have e0 : a.eval (.tmp 104) = (.agg #[.int .i64 R, .int .i64 K, .slice AG (R * K) cG]) := eval_slot (j := 11) (by kernel_rfl) (hJ.valOf (by decide) (dep_of hdep 11 (by kernel_rfl)) rfl rfl)
        have e2 : a.eval (.tmp 107) = (.int .i64 ((R : Int) - 1)) := eval_slot (j := 14) (by kernel_rfl) (hJ.valOf (by decide) (dep_of hdep 14 (by kernel_rfl)) rfl rfl)
        have e3 : a.eval (.tmp 108) = (.int .i64 mm) := eval_slot (j := 15) (by kernel_rfl) (hJ.valOf (by decide) (dep_of hdep 15 (by kernel_rfl)) rfl rfl)
        have e4 : a.eval (.tmp 109) = (.agg #[.int .i64 pa, .int .i64 pb, .int .i64 pc]) := eval_slot (j := 16) (by kernel_rfl) (hJ.valOf (by decide) (dep_of hdep 16 (by kernel_rfl)) rfl rfl)
        refine Step.call _ rfl rfl (wanted_some (g := 9) (b := true) rfl gd) 21 #[.agg #[.int .i64 R, .int .i64 K, .slice AG (R * K) cG], .int .i64 0, .int .i64 ((R : Int) - 1), .int .i64 mm, .agg #[.int .i64 pa, .int .i64 pb, .int .i64 pc]] (fun ρ hρ => ?_) ?_
        · skip
          rw [hρ] at e0 e2 e3 e4
          have ec0 : ρ (.const (.int .i64 0)) = (.int .i64 0) := (hρ _).symm
          have ef : ρ (.func 21) = .func (.func 21) #[] #[] := (hρ _).symm
          clear hJ hsame hdep hcl hρ hsz gd
          go_simp
        · refine (u_down HX.out.1 (HIG.out.low (hJ.kept.toBelow (Nat.le_refl _) (by simp))) 0 ((R : Int) - 1) mm (pa, pb, pc) HP.out (by omega) (by have := HK.out; omega) (by have := HK.out; omega)).mono ?_
          rintro e w2 ⟨v, rfl, hg, bb⟩
          exact ⟨v, rfl, hJ.grid hRS hcl hL rfl bb v hg⟩
      · intro L a w' hL hsame hsz hJ hdep hcl
        have gd : valOf _ 9 a = .bool true := hJ.valOf (by decide) (dep_of hdep 9 (by kernel_rfl)) rfl rfl
        have e0 : a.eval (.tmp 103) = (.agg #[.int .i64 R, .int .i64 K, .slice AD (R * K) cD]) := eval_slot (j := 10) (by kernel_rfl) (hJ.valOf (by decide) (dep_of hdep 10 (by kernel_rfl)) rfl rfl)
        obtain ⟨v17, hv17, hG17⟩ := hJ.gridAt (j := 17) (by decide) (dep_of hdep 17 (by kernel_rfl)) rfl
        have hG17 : IsG w' (PG.scrollI Gx 0 ((R : Int) - 1) (-(mm : Int)) (pa, pb, pc)) v17 := hG17
        have e1 : a.eval (.tmp 110) = v17 := eval_slot (j := 17) (by kernel_rfl) hv17
        refine Step.call _ rfl rfl (wanted_some (g := 9) (b := true) rfl gd) 28 #[.agg #[.int .i64 R, .int .i64 K, .slice AD (R * K) cD], v17] (fun ρ hρ => ?_) ?_
        · skip
          rw [hρ] at e0 e1
          have ef : ρ (.func 28) = .func (.func 28) #[] #[] := (hρ _).symm
          clear hJ hsame hdep hcl hρ hsz gd
          go_simp
        · refine (u_same QD.out.1 (ID.out.low (hJ.kept.toBelow (Nat.le_refl _) (by simp))) hG17 A2.out).mono ?_
          rintro e w2 ⟨rfl, bb⟩
          exact ⟨_, rfl, hJ.val hRS hcl hL rfl bb _ rfl⟩
      · intro L a w' hL hsame hsz hJ hdep hcl
        have e0 : a.eval (.tmp 102) = (.bool true) := eval_slot (j := 9) (by kernel_rfl) (hJ.valOf (by decide) (dep_of hdep 9 (by kernel_rfl)) rfl rfl)
        have e1 : a.eval (.tmp 111) = (.bool true) := eval_slot (j := 18) (by kernel_rfl) (hJ.valOf (by decide) (dep_of hdep 18 (by kernel_rfl)) rfl rfl)
        refine Step.val _ rfl rfl (wanted_none rfl) (.bool true) w' (fun ρ hρ => ?_) (hJ.val hRS hcl hL rfl (Below.refl _ _) _ rfl)
        rw [hρ] at e0 e1
        have ec0 : ρ (.const (.bool false)) = (.bool false) := (hρ _).symm
        clear hJ hsame hdep hcl hρ hsz
        go_simp
      · intro L a w' hL hsame hsz hJ hdep hcl
        have e0 : a.eval (.tmp 112) = (.bool true) := eval_slot (j := 19) (by kernel_rfl) (hJ.valOf (by decide) (dep_of hdep 19 (by kernel_rfl)) rfl rfl)
        refine Step.val _ rfl rfl (wanted_none rfl) (.bool true) w' (fun ρ hρ => ?_) (hJ.val hRS hcl hL rfl (Below.refl _ _) _ rfl)
        rw [hρ] at e0
        clear hJ hsame hdep hcl hρ hsz
        go_simp
      · intro L a w' hL hsame hsz hJ hdep hcl
        have gd : valOf _ 20 a = .bool true := hJ.valOf (by decide) (dep_of hdep 20 (by kernel_rfl)) rfl rfl
        have e0 : a.eval (.tmp 19) = (.pointer (some ⟨gI, 0, none⟩)) := eval_base hsame (by kernel_rfl)
        have hb := hJ.keptBox BI.out (by simp)
        have q0 : w'.cell? ⟨gI, 0, none⟩ = some (.int .i64 R) := hb.cell 0
        have q1 : w'.cell? ⟨gI, 1, none⟩ = some (.int .i64 K) := hb.cell 1
        have q2 : w'.cell? ⟨gI, 2, none⟩ = some (.slice AI (R * K) cI) := hb.cell 2
        refine Step.val _ rfl rfl (wanted_some (g := 20) (b := true) rfl gd) (.agg #[.int .i64 R, .int .i64 K, .slice AI (R * K) cI]) w' (fun ρ hρ => ?_) (hJ.val hRS hcl hL rfl (Below.refl _ _) _ rfl)
        rw [hρ] at e0
        clear hb
        clear hJ hsame hdep hcl hρ hsz gd
        go_simp
      · intro L a w' hL hsame hsz hJ hdep hcl
        have gd : valOf _ 20 a = .bool true := hJ.valOf (by decide) (dep_of hdep 20 (by kernel_rfl)) rfl rfl
        have e0 : a.eval (.tmp 9) = (.pointer (some ⟨gG, 0, none⟩)) := eval_base hsame (by kernel_rfl)
        have hb := hJ.keptBox HBG.out (by simp)
        have q0 : w'.cell? ⟨gG, 0, none⟩ = some (.int .i64 R) := hb.cell 0
        have q1 : w'.cell? ⟨gG, 1, none⟩ = some (.int .i64 K) := hb.cell 1
        have q2 : w'.cell? ⟨gG, 2, none⟩ = some (.slice AG (R * K) cG) := hb.cell 2
        refine Step.val _ rfl rfl (wanted_some (g := 20) (b := true) rfl gd) (.agg #[.int .i64 R, .int .i64 K, .slice AG (R * K) cG]) w' (fun ρ hρ => ?_) (hJ.val hRS hcl hL rfl (Below.refl _ _) _ rfl)
        rw [hρ] at e0
        clear hb
        clear hJ hsame hdep hcl hρ hsz gd
        go_simp
      · intro L a w' hL hsame hsz hJ hdep hcl
        have gd : valOf _ 20 a = .bool true := hJ.valOf (by decide) (dep_of hdep 20 (by kernel_rfl)) rfl rfl
        have e0 : a.eval (.tmp 16) = (.int .i64 col) := eval_base hsame (by kernel_rfl)
        refine Step.val _ rfl rfl (wanted_some (g := 20) (b := true) rfl gd) (.int .i64 col) w' (fun ρ hρ => ?_) (hJ.val hRS hcl hL rfl (Below.refl _ _) _ rfl)
        rw [hρ] at e0
        clear hJ hsame hdep hcl hρ hsz gd
        go_simp
      · intro L a w' hL hsame hsz hJ hdep hcl
        have gd : valOf _ 20 a = .bool true := hJ.valOf (by decide) (dep_of hdep 20 (by kernel_rfl)) rfl rfl
        have e0 : a.eval (.tmp 15) = (.int .i64 mm) := eval_base hsame (by kernel_rfl)
        refine Step.val _ rfl rfl (wanted_some (g := 20) (b := true) rfl gd) (.int .i64 mm) w' (fun ρ hρ => ?_) (hJ.val hRS hcl hL rfl (Below.refl _ _) _ rfl)
        rw [hρ] at e0
        clear hJ hsame hdep hcl hρ hsz gd
        go_simp
      · intro L a w' hL hsame hsz hJ hdep hcl
        have gd : valOf _ 20 a = .bool true := hJ.valOf (by decide) (dep_of hdep 20 (by kernel_rfl)) rfl rfl
        have e0 : a.eval (.tmp 10) = (.pointer (some ⟨gP, 0, none⟩)) := eval_base hsame (by kernel_rfl)
        have hb := hJ.keptBox BP.out (by simp)
        have q0 : w'.cell? ⟨gP, 0, none⟩ = some (.int .i64 pa) := hb.cell 0
        have q1 : w'.cell? ⟨gP, 1, none⟩ = some (.int .i64 pb) := hb.cell 1
        have q2 : w'.cell? ⟨gP, 2, none⟩ = some (.int .i64 pc) := hb.cell 2
        refine Step.val _ rfl rfl (wanted_some (g := 20) (b := true) rfl gd) (.agg #[.int .i64 pa, .int .i64 pb, .int .i64 pc]) w' (fun ρ hρ => ?_) (hJ.val hRS hcl hL rfl (Below.refl _ _) _ rfl)
        rw [hρ] at e0
        clear hb
        clear hJ hsame hdep hcl hρ hsz gd
        go_simp
      · intro L a w' hL hsame hsz hJ hdep hcl
        have gd : valOf _ 20 a = .bool true := hJ.valOf (by decide) (dep_of hdep 20 (by kernel_rfl)) rfl rfl
        have e0 : a.eval (.tmp 115) = (.agg #[.int .i64 R, .int .i64 K, .slice AG (R * K) cG]) := eval_slot (j := 22) (by kernel_rfl) (hJ.valOf (by decide) (dep_of hdep 22 (by kernel_rfl)) rfl rfl)
        have e2 : a.eval (.tmp 116) = (.int .i64 col) := eval_slot (j := 23) (by kernel_rfl) (hJ.valOf (by decide) (dep_of hdep 23 (by kernel_rfl)) rfl rfl)
        have e3 : a.eval (.tmp 117) = (.int .i64 mm) := eval_slot (j := 24) (by kernel_rfl) (hJ.valOf (by decide) (dep_of hdep 24 (by kernel_rfl)) rfl rfl)
        have e4 : a.eval (.tmp 118) = (.agg #[.int .i64 pa, .int .i64 pb, .int .i64 pc]) := eval_slot (j := 25) (by kernel_rfl) (hJ.valOf (by decide) (dep_of hdep 25 (by kernel_rfl)) rfl rfl)
        refine Step.call _ rfl rfl (wanted_some (g := 20) (b := true) rfl gd) 13 #[.agg #[.int .i64 R, .int .i64 K, .slice AG (R * K) cG], .int .i64 0, .int .i64 col, .int .i64 mm, .agg #[.int .i64 pa, .int .i64 pb, .int .i64 pc]] (fun ρ hρ => ?_) ?_
        · skip
          rw [hρ] at e0 e2 e3 e4
          have ec0 : ρ (.const (.int .i64 0)) = (.int .i64 0) := (hρ _).symm
          have ef : ρ (.func 13) = .func (.func 13) #[] #[] := (hρ _).symm
          clear hJ hsame hdep hcl hρ hsz gd
          go_simp
        · refine (u_insert HX.out.1 (HIG.out.low (hJ.kept.toBelow (Nat.le_refl _) (by simp))) 0 col mm (pa, pb, pc) HP.out (by omega) (by have := HK.out; omega) (by have := HK.out; omega)).mono ?_
          rintro e w2 ⟨v, rfl, hg, bb⟩
          exact ⟨v, rfl, hJ.grid hRS hcl hL rfl bb v hg⟩
      · intro L a w' hL hsame hsz hJ hdep hcl
        have gd : valOf _ 20 a = .bool true := hJ.valOf (by decide) (dep_of hdep 20 (by kernel_rfl)) rfl rfl
        have e0 : a.eval (.tmp 114) = (.agg #[.int .i64 R, .int .i64 K, .slice AI (R * K) cI]) := eval_slot (j := 21) (by kernel_rfl) (hJ.valOf (by decide) (dep_of hdep 21 (by kernel_rfl)) rfl rfl)
        obtain ⟨v26, hv26, hG26⟩ := hJ.gridAt (j := 26) (by decide) (dep_of hdep 26 (by kernel_rfl)) rfl
        have hG26 : IsG w' (PG.shiftI Gx 0 col mm (pa, pb, pc)) v26 := hG26
        have e1 : a.eval (.tmp 119) = v26 := eval_slot (j := 26) (by kernel_rfl) hv26
        refine Step.call _ rfl rfl (wanted_some (g := 20) (b := true) rfl gd) 28 #[.agg #[.int .i64 R, .int .i64 K, .slice AI (R * K) cI], v26] (fun ρ hρ => ?_) ?_
        · skip
          rw [hρ] at e0 e1
          have ef : ρ (.func 28) = .func (.func 28) #[] #[] := (hρ _).symm
          clear hJ hsame hdep hcl hρ hsz gd
          go_simp
        · refine (u_same QI.out.1 (II.out.low (hJ.kept.toBelow (Nat.le_refl _) (by simp))) hG26 A3.out).mono ?_
          rintro e w2 ⟨rfl, bb⟩
          exact ⟨_, rfl, hJ.val hRS hcl hL rfl bb _ rfl⟩
      · intro L a w' hL hsame hsz hJ hdep hcl
        have e0 : a.eval (.tmp 113) = (.bool true) := eval_slot (j := 20) (by kernel_rfl) (hJ.valOf (by decide) (dep_of hdep 20 (by kernel_rfl)) rfl rfl)
        have e1 : a.eval (.tmp 120) = (.bool true) := eval_slot (j := 27) (by kernel_rfl) (hJ.valOf (by decide) (dep_of hdep 27 (by kernel_rfl)) rfl rfl)
        refine Step.val _ rfl rfl (wanted_none rfl) (.bool true) w' (fun ρ hρ => ?_) (hJ.val hRS hcl hL rfl (Below.refl _ _) _ rfl)
        rw [hρ] at e0 e1
        have ec0 : ρ (.const (.bool false)) = (.bool false) := (hρ _).symm
        clear hJ hsame hdep hcl hρ hsz
        go_simp
      · intro L a w' hL hsame hsz hJ hdep hcl
        have e0 : a.eval (.tmp 121) = (.bool true) := eval_slot (j := 28) (by kernel_rfl) (hJ.valOf (by decide) (dep_of hdep 28 (by kernel_rfl)) rfl rfl)
        refine Step.val _ rfl rfl (wanted_none rfl) (.bool true) w' (fun ρ hρ => ?_) (hJ.val hRS hcl hL rfl (Below.refl _ _) _ rfl)
        rw [hρ] at e0
        clear hJ hsame hdep hcl hρ hsz
        go_simp
      · intro L a w' hL hsame hsz hJ hdep hcl
        have gd : valOf _ 29 a = .bool true := hJ.valOf (by decide) (dep_of hdep 29 (by kernel_rfl)) rfl rfl
        have e0 : a.eval (.tmp 20) = (.pointer (some ⟨gE, 0, none⟩)) := eval_base hsame (by kernel_rfl)
        have hb := hJ.keptBox BE.out (by simp)
        have q0 : w'.cell? ⟨gE, 0, none⟩ = some (.int .i64 R) := hb.cell 0
        have q1 : w'.cell? ⟨gE, 1, none⟩ = some (.int .i64 K) := hb.cell 1
        have q2 : w'.cell? ⟨gE, 2, none⟩ = some (.slice AE (R * K) cE) := hb.cell 2
        refine Step.val _ rfl rfl (wanted_some (g := 29) (b := true) rfl gd) (.agg #[.int .i64 R, .int .i64 K, .slice AE (R * K) cE]) w' (fun ρ hρ => ?_) (hJ.val hRS hcl hL rfl (Below.refl _ _) _ rfl)
        rw [hρ] at e0
        clear hb
        clear hJ hsame hdep hcl hρ hsz gd
        go_simp
      · intro L a w' hL hsame hsz hJ hdep hcl
        have gd : valOf _ 29 a = .bool true := hJ.valOf (by decide) (dep_of hdep 29 (by kernel_rfl)) rfl rfl
        have e0 : a.eval (.tmp 9) = (.pointer (some ⟨gG, 0, none⟩)) := eval_base hsame (by kernel_rfl)
        have hb := hJ.keptBox HBG.out (by simp)
        have q0 : w'.cell? ⟨gG, 0, none⟩ = some (.int .i64 R) := hb.cell 0
        have q1 : w'.cell? ⟨gG, 1, none⟩ = some (.int .i64 K) := hb.cell 1
        have q2 : w'.cell? ⟨gG, 2, none⟩ = some (.slice AG (R * K) cG) := hb.cell 2
        refine Step.val _ rfl rfl (wanted_some (g := 29) (b := true) rfl gd) (.agg #[.int .i64 R, .int .i64 K, .slice AG (R * K) cG]) w' (fun ρ hρ => ?_) (hJ.val hRS hcl hL rfl (Below.refl _ _) _ rfl)
        rw [hρ] at e0
        clear hb
        clear hJ hsame hdep hcl hρ hsz gd
        go_simp
      · intro L a w' hL hsame hsz hJ hdep hcl
        have gd : valOf _ 29 a = .bool true := hJ.valOf (by decide) (dep_of hdep 29 (by kernel_rfl)) rfl rfl
        have e0 : a.eval (.tmp 16) = (.int .i64 col) := eval_base hsame (by kernel_rfl)
        refine Step.val _ rfl rfl (wanted_some (g := 29) (b := true) rfl gd) (.int .i64 col) w' (fun ρ hρ => ?_) (hJ.val hRS hcl hL rfl (Below.refl _ _) _ rfl)
        rw [hρ] at e0
        clear hJ hsame hdep hcl hρ hsz gd
        go_simp
      · intro L a w' hL hsame hsz hJ hdep hcl
        have gd : valOf _ 29 a = .bool true := hJ.valOf (by decide) (dep_of hdep 29 (by kernel_rfl)) rfl rfl
        have e0 : a.eval (.tmp 15) = (.int .i64 mm) := eval_base hsame (by kernel_rfl)
        refine Step.val _ rfl rfl (wanted_some (g := 29) (b := true) rfl gd) (.int .i64 mm) w' (fun ρ hρ => ?_) (hJ.val hRS hcl hL rfl (Below.refl _ _) _ rfl)
        rw [hρ] at e0
        clear hJ hsame hdep hcl hρ hsz gd
        go_simp
      · intro L a w' hL hsame hsz hJ hdep hcl
        have gd : valOf _ 29 a = .bool true := hJ.valOf (by decide) (dep_of hdep 29 (by kernel_rfl)) rfl rfl
        have e0 : a.eval (.tmp 10) = (.pointer (some ⟨gP, 0, none⟩)) := eval_base hsame (by kernel_rfl)
        have hb := hJ.keptBox BP.out (by simp)
        have q0 : w'.cell? ⟨gP, 0, none⟩ = some (.int .i64 pa) := hb.cell 0
        have q1 : w'.cell? ⟨gP, 1, none⟩ = some (.int .i64 pb) := hb.cell 1
        have q2 : w'.cell? ⟨gP, 2, none⟩ = some (.int .i64 pc) := hb.cell 2
        refine Step.val _ rfl rfl (wanted_some (g := 29) (b := true) rfl gd) (.agg #[.int .i64 pa, .int .i64 pb, .int .i64 pc]) w' (fun ρ hρ => ?_) (hJ.val hRS hcl hL rfl (Below.refl _ _) _ rfl)
        rw [hρ] at e0
        clear hb
        clear hJ hsame hdep hcl hρ hsz gd
        go_simp
      · intro L a w' hL hsame hsz hJ hdep hcl
        have gd : valOf _ 29 a = .bool true := hJ.valOf (by decide) (dep_of hdep 29 (by kernel_rfl)) rfl rfl
        have e0 : a.eval (.tmp 124) = (.agg #[.int .i64 R, .int .i64 K, .slice AG (R * K) cG]) := eval_slot (j := 31) (by kernel_rfl) (hJ.valOf (by decide) (dep_of hdep 31 (by kernel_rfl)) rfl rfl)
        have e2 : a.eval (.tmp 125) = (.int .i64 col) := eval_slot (j := 32) (by kernel_rfl) (hJ.valOf (by decide) (dep_of hdep 32 (by kernel_rfl)) rfl rfl)
        have e3 : a.eval (.tmp 126) = (.int .i64 mm) := eval_slot (j := 33) (by kernel_rfl) (hJ.valOf (by decide) (dep_of hdep 33 (by kernel_rfl)) rfl rfl)
        have e4 : a.eval (.tmp 127) = (.agg #[.int .i64 pa, .int .i64 pb, .int .i64 pc]) := eval_slot (j := 34) (by kernel_rfl) (hJ.valOf (by decide) (dep_of hdep 34 (by kernel_rfl)) rfl rfl)
        refine Step.call _ rfl rfl (wanted_some (g := 29) (b := true) rfl gd) 15 #[.agg #[.int .i64 R, .int .i64 K, .slice AG (R * K) cG], .int .i64 0, .int .i64 col, .int .i64 mm, .agg #[.int .i64 pa, .int .i64 pb, .int .i64 pc]] (fun ρ hρ => ?_) ?_
        · skip
          rw [hρ] at e0 e2 e3 e4
          have ec0 : ρ (.const (.int .i64 0)) = (.int .i64 0) := (hρ _).symm
          have ef : ρ (.func 15) = .func (.func 15) #[] #[] := (hρ _).symm
          clear hJ hsame hdep hcl hρ hsz gd
          go_simp
        · refine (u_delete HX.out.1 (HIG.out.low (hJ.kept.toBelow (Nat.le_refl _) (by simp))) 0 col mm (pa, pb, pc) HP.out (by omega) (by have := HK.out; omega) (by have := HK.out; omega)).mono ?_
          rintro e w2 ⟨v, rfl, hg, bb⟩
          exact ⟨v, rfl, hJ.grid hRS hcl hL rfl bb v hg⟩
      · intro L a w' hL hsame hsz hJ hdep hcl
        have gd : valOf _ 29 a = .bool true := hJ.valOf (by decide) (dep_of hdep 29 (by kernel_rfl)) rfl rfl
        have e0 : a.eval (.tmp 123) = (.agg #[.int .i64 R, .int .i64 K, .slice AE (R * K) cE]) := eval_slot (j := 30) (by kernel_rfl) (hJ.valOf (by decide) (dep_of hdep 30 (by kernel_rfl)) rfl rfl)
        obtain ⟨v35, hv35, hG35⟩ := hJ.gridAt (j := 35) (by decide) (dep_of hdep 35 (by kernel_rfl)) rfl
        have hG35 : IsG w' (PG.shiftI Gx 0 col (-(mm : Int)) (pa, pb, pc)) v35 := hG35
        have e1 : a.eval (.tmp 128) = v35 := eval_slot (j := 35) (by kernel_rfl) hv35
        refine Step.call _ rfl rfl (wanted_some (g := 29) (b := true) rfl gd) 28 #[.agg #[.int .i64 R, .int .i64 K, .slice AE (R * K) cE], v35] (fun ρ hρ => ?_) ?_
        · skip
          rw [hρ] at e0 e1
          have ef : ρ (.func 28) = .func (.func 28) #[] #[] := (hρ _).symm
          clear hJ hsame hdep hcl hρ hsz gd
          go_simp
        · refine (u_same QE.out.1 (IE.out.low (hJ.kept.toBelow (Nat.le_refl _) (by simp))) hG35 A4.out).mono ?_
          rintro e w2 ⟨rfl, bb⟩
          exact ⟨_, rfl, hJ.val hRS hcl hL rfl bb _ rfl⟩
      · intro L a w' hL hsame hsz hJ hdep hcl
        have e0 : a.eval (.tmp 122) = (.bool true) := eval_slot (j := 29) (by kernel_rfl) (hJ.valOf (by decide) (dep_of hdep 29 (by kernel_rfl)) rfl rfl)
        have e1 : a.eval (.tmp 129) = (.bool true) := eval_slot (j := 36) (by kernel_rfl) (hJ.valOf (by decide) (dep_of hdep 36 (by kernel_rfl)) rfl rfl)
        refine Step.val _ rfl rfl (wanted_none rfl) (.bool true) w' (fun ρ hρ => ?_) (hJ.val hRS hcl hL rfl (Below.refl _ _) _ rfl)
        rw [hρ] at e0 e1
        have ec0 : ρ (.const (.bool false)) = (.bool false) := (hρ _).symm
        clear hJ hsame hdep hcl hρ hsz
        go_simp
      · intro L a w' hL hsame hsz hJ hdep hcl
        have e0 : a.eval (.tmp 130) = (.bool true) := eval_slot (j := 37) (by kernel_rfl) (hJ.valOf (by decide) (dep_of hdep 37 (by kernel_rfl)) rfl rfl)
        refine Step.val _ rfl rfl (wanted_none rfl) (.bool true) w' (fun ρ hρ => ?_) (hJ.val hRS hcl hL rfl (Below.refl _ _) _ rfl)
        rw [hρ] at e0
        clear hJ hsame hdep hcl hρ hsz
        go_simp
      · intro L a w' hL hsame hsz hJ hdep hcl
        have gd : valOf _ 38 a = .bool true := hJ.valOf (by decide) (dep_of hdep 38 (by kernel_rfl)) rfl rfl
        have e0 : a.eval (.tmp 9) = (.pointer (some ⟨gG, 0, none⟩)) := eval_base hsame (by kernel_rfl)
        have hb := hJ.keptBox HBG.out (by simp)
        have q0 : w'.cell? ⟨gG, 0, none⟩ = some (.int .i64 R) := hb.cell 0
        have q1 : w'.cell? ⟨gG, 1, none⟩ = some (.int .i64 K) := hb.cell 1
        have q2 : w'.cell? ⟨gG, 2, none⟩ = some (.slice AG (R * K) cG) := hb.cell 2
        refine Step.val _ rfl rfl (wanted_some (g := 38) (b := true) rfl gd) (.agg #[.int .i64 R, .int .i64 K, .slice AG (R * K) cG]) w' (fun ρ hρ => ?_) (hJ.val hRS hcl hL rfl (Below.refl _ _) _ rfl)
        rw [hρ] at e0
        clear hb
        clear hJ hsame hdep hcl hρ hsz gd
        go_simp
      · intro L a w' hL hsame hsz hJ hdep hcl
        have gd : valOf _ 38 a = .bool true := hJ.valOf (by decide) (dep_of hdep 38 (by kernel_rfl)) rfl rfl
        have e0 : a.eval (.tmp 16) = (.int .i64 col) := eval_base hsame (by kernel_rfl)
        refine Step.val _ rfl rfl (wanted_some (g := 38) (b := true) rfl gd) (.int .i64 col) w' (fun ρ hρ => ?_) (hJ.val hRS hcl hL rfl (Below.refl _ _) _ rfl)
        rw [hρ] at e0
        clear hJ hsame hdep hcl hρ hsz gd
        go_simp
      · intro L a w' hL hsame hsz hJ hdep hcl
        have gd : valOf _ 38 a = .bool true := hJ.valOf (by decide) (dep_of hdep 38 (by kernel_rfl)) rfl rfl
        have e0 : a.eval (.tmp 10) = (.pointer (some ⟨gP, 0, none⟩)) := eval_base hsame (by kernel_rfl)
        have hb := hJ.keptBox BP.out (by simp)
        have q0 : w'.cell? ⟨gP, 0, none⟩ = some (.int .i64 pa) := hb.cell 0
        have q1 : w'.cell? ⟨gP, 1, none⟩ = some (.int .i64 pb) := hb.cell 1
        have q2 : w'.cell? ⟨gP, 2, none⟩ = some (.int .i64 pc) := hb.cell 2
        refine Step.val _ rfl rfl (wanted_some (g := 38) (b := true) rfl gd) (.agg #[.int .i64 pa, .int .i64 pb, .int .i64 pc]) w' (fun ρ hρ => ?_) (hJ.val hRS hcl hL rfl (Below.refl _ _) _ rfl)
        rw [hρ] at e0
        clear hb
        clear hJ hsame hdep hcl hρ hsz gd
        go_simp
      · intro L a w' hL hsame hsz hJ hdep hcl
        have gd : valOf _ 38 a = .bool true := hJ.valOf (by decide) (dep_of hdep 38 (by kernel_rfl)) rfl rfl
        have e0 : a.eval (.tmp 132) = (.agg #[.int .i64 R, .int .i64 K, .slice AG (R * K) cG]) := eval_slot (j := 39) (by kernel_rfl) (hJ.valOf (by decide) (dep_of hdep 39 (by kernel_rfl)) rfl rfl)
        have e2 : a.eval (.tmp 133) = (.int .i64 col) := eval_slot (j := 40) (by kernel_rfl) (hJ.valOf (by decide) (dep_of hdep 40 (by kernel_rfl)) rfl rfl)
        have e4 : a.eval (.tmp 134) = (.agg #[.int .i64 pa, .int .i64 pb, .int .i64 pc]) := eval_slot (j := 41) (by kernel_rfl) (hJ.valOf (by decide) (dep_of hdep 41 (by kernel_rfl)) rfl rfl)
        refine Step.call _ rfl rfl (wanted_some (g := 38) (b := true) rfl gd) 13 #[.agg #[.int .i64 R, .int .i64 K, .slice AG (R * K) cG], .int .i64 0, .int .i64 col, .int .i64 65535, .agg #[.int .i64 pa, .int .i64 pb, .int .i64 pc]] (fun ρ hρ => ?_) ?_
        · skip
          rw [hρ] at e0 e2 e4
          have ec0 : ρ (.const (.int .i64 0)) = (.int .i64 0) := (hρ _).symm
          have ec1 : ρ (.const (.int .i64 65535)) = (.int .i64 65535) := (hρ _).symm
          have ef : ρ (.func 13) = .func (.func 13) #[] #[] := (hρ _).symm
          clear hJ hsame hdep hcl hρ hsz gd
          go_simp
        · refine (u_insert HX.out.1 (HIG.out.low (hJ.kept.toBelow (Nat.le_refl _) (by simp))) 0 col 65535 (pa, pb, pc) HP.out (by omega) (by have := HK.out; omega) (by omega)).mono ?_
          rintro e w2 ⟨v, rfl, hg, bb⟩
          exact ⟨v, rfl, hJ.grid hRS hcl hL rfl bb v hg⟩
      · intro L a w' hL hsame hsz hJ hdep hcl
        have gd : valOf _ 38 a = .bool true := hJ.valOf (by decide) (dep_of hdep 38 (by kernel_rfl)) rfl rfl
        have e0 : a.eval (.tmp 21) = (.pointer (some ⟨gL, 0, none⟩)) := eval_base hsame (by kernel_rfl)
        have hb := hJ.keptBox BL.out (by simp)
        have q0 : w'.cell? ⟨gL, 0, none⟩ = some (.int .i64 R) := hb.cell 0
        have q1 : w'.cell? ⟨gL, 1, none⟩ = some (.int .i64 K) := hb.cell 1
        have q2 : w'.cell? ⟨gL, 2, none⟩ = some (.slice AL (R * K) cL) := hb.cell 2
        refine Step.val _ rfl rfl (wanted_some (g := 38) (b := true) rfl gd) (.agg #[.int .i64 R, .int .i64 K, .slice AL (R * K) cL]) w' (fun ρ hρ => ?_) (hJ.val hRS hcl hL rfl (Below.refl _ _) _ rfl)
        rw [hρ] at e0
        clear hb
        clear hJ hsame hdep hcl hρ hsz gd
        go_simp
      · intro L a w' hL hsame hsz hJ hdep hcl
        have gd : valOf _ 38 a = .bool true := hJ.valOf (by decide) (dep_of hdep 38 (by kernel_rfl)) rfl rfl
        obtain ⟨v42, hv42, hG42⟩ := hJ.gridAt (j := 42) (by decide) (dep_of hdep 42 (by kernel_rfl)) rfl
        have hG42 : IsG w' (PG.shiftI Gx 0 col 65535 (pa, pb, pc)) v42 := hG42
        have e0 : a.eval (.tmp 135) = v42 := eval_slot (j := 42) (by kernel_rfl) hv42
        have e1 : a.eval (.tmp 136) = (.agg #[.int .i64 R, .int .i64 K, .slice AL (R * K) cL]) := eval_slot (j := 43) (by kernel_rfl) (hJ.valOf (by decide) (dep_of hdep 43 (by kernel_rfl)) rfl rfl)
        refine Step.call _ rfl rfl (wanted_some (g := 38) (b := true) rfl gd) 28 #[v42, .agg #[.int .i64 R, .int .i64 K, .slice AL (R * K) cL]] (fun ρ hρ => ?_) ?_
        · skip
          rw [hρ] at e0 e1
          have ef : ρ (.func 28) = .func (.func 28) #[] #[] := (hρ _).symm
          clear hJ hsame hdep hcl hρ hsz gd
          go_simp
        · refine (u_same (PG.right_shiftI HX.out.1 HP.out _ _ _) hG42 (IL.out.low (hJ.kept.toBelow (Nat.le_refl _) (by simp))) A5.out).mono ?_
          rintro e w2 ⟨rfl, bb⟩
          exact ⟨_, rfl, hJ.val hRS hcl hL rfl bb _ rfl⟩
      · intro L a w' hL hsame hsz hJ hdep hcl
        have e0 : a.eval (.tmp 131) = (.bool true) := eval_slot (j := 38) (by kernel_rfl) (hJ.valOf (by decide) (dep_of hdep 38 (by kernel_rfl)) rfl rfl)
        have e1 : a.eval (.tmp 137) = (.bool true) := eval_slot (j := 44) (by kernel_rfl) (hJ.valOf (by decide) (dep_of hdep 44 (by kernel_rfl)) rfl rfl)
        refine Step.val _ rfl rfl (wanted_none rfl) (.bool true) w' (fun ρ hρ => ?_) (hJ.val hRS hcl hL rfl (Below.refl _ _) _ rfl)
        rw [hρ] at e0 e1
        have ec0 : ρ (.const (.bool false)) = (.bool false) := (hρ _).symm
        clear hJ hsame hdep hcl hρ hsz
        go_simp
      · intro L a w' hL hsame hsz hJ hdep hcl
        have e0 : a.eval (.tmp 138) = (.bool true) := eval_slot (j := 45) (by kernel_rfl) (hJ.valOf (by decide) (dep_of hdep 45 (by kernel_rfl)) rfl rfl)
        refine Step.val _ rfl rfl (wanted_none rfl) (.bool true) w' (fun ρ hρ => ?_) (hJ.val hRS hcl hL rfl (Below.refl _ _) _ rfl)
        rw [hρ] at e0
        clear hJ hsame hdep hcl hρ hsz
        go_simp
      · intro L a w' hL hsame hsz hJ hdep hcl
        have gd : valOf _ 46 a = .bool true := hJ.valOf (by decide) (dep_of hdep 46 (by kernel_rfl)) rfl rfl
        have e0 : a.eval (.tmp 9) = (.pointer (some ⟨gG, 0, none⟩)) := eval_base hsame (by kernel_rfl)
        have hb := hJ.keptBox HBG.out (by simp)
        have q0 : w'.cell? ⟨gG, 0, none⟩ = some (.int .i64 R) := hb.cell 0
        have q1 : w'.cell? ⟨gG, 1, none⟩ = some (.int .i64 K) := hb.cell 1
        have q2 : w'.cell? ⟨gG, 2, none⟩ = some (.slice AG (R * K) cG) := hb.cell 2
        refine Step.val _ rfl rfl (wanted_some (g := 46) (b := true) rfl gd) (.agg #[.int .i64 R, .int .i64 K, .slice AG (R * K) cG]) w' (fun ρ hρ => ?_) (hJ.val hRS hcl hL rfl (Below.refl _ _) _ rfl)
        rw [hρ] at e0
        clear hb
        clear hJ hsame hdep hcl hρ hsz gd
        go_simp
      · intro L a w' hL hsame hsz hJ hdep hcl
        have gd : valOf _ 46 a = .bool true := hJ.valOf (by decide) (dep_of hdep 46 (by kernel_rfl)) rfl rfl
        have e0 : a.eval (.tmp 16) = (.int .i64 col) := eval_base hsame (by kernel_rfl)
        refine Step.val _ rfl rfl (wanted_some (g := 46) (b := true) rfl gd) (.int .i64 col) w' (fun ρ hρ => ?_) (hJ.val hRS hcl hL rfl (Below.refl _ _) _ rfl)
        rw [hρ] at e0
        clear hJ hsame hdep hcl hρ hsz gd
        go_simp
      · intro L a w' hL hsame hsz hJ hdep hcl
        have gd : valOf _ 46 a = .bool true := hJ.valOf (by decide) (dep_of hdep 46 (by kernel_rfl)) rfl rfl
        have e0 : a.eval (.tmp 10) = (.pointer (some ⟨gP, 0, none⟩)) := eval_base hsame (by kernel_rfl)
        have hb := hJ.keptBox BP.out (by simp)
        have q0 : w'.cell? ⟨gP, 0, none⟩ = some (.int .i64 pa) := hb.cell 0
        have q1 : w'.cell? ⟨gP, 1, none⟩ = some (.int .i64 pb) := hb.cell 1
        have q2 : w'.cell? ⟨gP, 2, none⟩ = some (.int .i64 pc) := hb.cell 2
        refine Step.val _ rfl rfl (wanted_some (g := 46) (b := true) rfl gd) (.agg #[.int .i64 pa, .int .i64 pb, .int .i64 pc]) w' (fun ρ hρ => ?_) (hJ.val hRS hcl hL rfl (Below.refl _ _) _ rfl)
        rw [hρ] at e0
        clear hb
        clear hJ hsame hdep hcl hρ hsz gd
        go_simp
      · intro L a w' hL hsame hsz hJ hdep hcl
        have gd : valOf _ 46 a = .bool true := hJ.valOf (by decide) (dep_of hdep 46 (by kernel_rfl)) rfl rfl
        have e0 : a.eval (.tmp 140) = (.agg #[.int .i64 R, .int .i64 K, .slice AG (R * K) cG]) := eval_slot (j := 47) (by kernel_rfl) (hJ.valOf (by decide) (dep_of hdep 47 (by kernel_rfl)) rfl rfl)
        have e2 : a.eval (.tmp 141) = (.int .i64 col) := eval_slot (j := 48) (by kernel_rfl) (hJ.valOf (by decide) (dep_of hdep 48 (by kernel_rfl)) rfl rfl)
        have e4 : a.eval (.tmp 142) = (.agg #[.int .i64 pa, .int .i64 pb, .int .i64 pc]) := eval_slot (j := 49) (by kernel_rfl) (hJ.valOf (by decide) (dep_of hdep 49 (by kernel_rfl)) rfl rfl)
        refine Step.call _ rfl rfl (wanted_some (g := 46) (b := true) rfl gd) 15 #[.agg #[.int .i64 R, .int .i64 K, .slice AG (R * K) cG], .int .i64 0, .int .i64 col, .int .i64 99, .agg #[.int .i64 pa, .int .i64 pb, .int .i64 pc]] (fun ρ hρ => ?_) ?_
        · skip
          rw [hρ] at e0 e2 e4
          have ec0 : ρ (.const (.int .i64 0)) = (.int .i64 0) := (hρ _).symm
          have ec1 : ρ (.const (.int .i64 99)) = (.int .i64 99) := (hρ _).symm
          have ef : ρ (.func 15) = .func (.func 15) #[] #[] := (hρ _).symm
          clear hJ hsame hdep hcl hρ hsz gd
          go_simp
        · refine (u_delete HX.out.1 (HIG.out.low (hJ.kept.toBelow (Nat.le_refl _) (by simp))) 0 col 99 (pa, pb, pc) HP.out (by omega) (by have := HK.out; omega) (by omega)).mono ?_
          rintro e w2 ⟨v, rfl, hg, bb⟩
          exact ⟨v, rfl, hJ.grid hRS hcl hL rfl bb v hg⟩
      · intro L a w' hL hsame hsz hJ hdep hcl
        have gd : valOf _ 46 a = .bool true := hJ.valOf (by decide) (dep_of hdep 46 (by kernel_rfl)) rfl rfl
        have e0 : a.eval (.tmp 21) = (.pointer (some ⟨gL, 0, none⟩)) := eval_base hsame (by kernel_rfl)
        have hb := hJ.keptBox BL.out (by simp)
        have q0 : w'.cell? ⟨gL, 0, none⟩ = some (.int .i64 R) := hb.cell 0
        have q1 : w'.cell? ⟨gL, 1, none⟩ = some (.int .i64 K) := hb.cell 1
        have q2 : w'.cell? ⟨gL, 2, none⟩ = some (.slice AL (R * K) cL) := hb.cell 2
        refine Step.val _ rfl rfl (wanted_some (g := 46) (b := true) rfl gd) (.agg #[.int .i64 R, .int .i64 K, .slice AL (R * K) cL]) w' (fun ρ hρ => ?_) (hJ.val hRS hcl hL rfl (Below.refl _ _) _ rfl)
        rw [hρ] at e0
        clear hb
        clear hJ hsame hdep hcl hρ hsz gd
        go_simp
      · intro L a w' hL hsame hsz hJ hdep hcl
        have gd : valOf _ 46 a = .bool true := hJ.valOf (by decide) (dep_of hdep 46 (by kernel_rfl)) rfl rfl
        obtain ⟨v50, hv50, hG50⟩ := hJ.gridAt (j := 50) (by decide) (dep_of hdep 50 (by kernel_rfl)) rfl
        have hG50 : IsG w' (PG.shiftI Gx 0 col (-99) (pa, pb, pc)) v50 := hG50
        have e0 : a.eval (.tmp 143) = v50 := eval_slot (j := 50) (by kernel_rfl) hv50
        have e1 : a.eval (.tmp 144) = (.agg #[.int .i64 R, .int .i64 K, .slice AL (R * K) cL]) := eval_slot (j := 51) (by kernel_rfl) (hJ.valOf (by decide) (dep_of hdep 51 (by kernel_rfl)) rfl rfl)
        refine Step.call _ rfl rfl (wanted_some (g := 46) (b := true) rfl gd) 28 #[v50, .agg #[.int .i64 R, .int .i64 K, .slice AL (R * K) cL]] (fun ρ hρ => ?_) ?_
        · skip
          rw [hρ] at e0 e1
          have ef : ρ (.func 28) = .func (.func 28) #[] #[] := (hρ _).symm
          clear hJ hsame hdep hcl hρ hsz gd
          go_simp
        · refine (u_same (PG.right_shiftI HX.out.1 HP.out _ _ _) hG50 (IL.out.low (hJ.kept.toBelow (Nat.le_refl _) (by simp))) A6.out).mono ?_
          rintro e w2 ⟨rfl, bb⟩
          exact ⟨_, rfl, hJ.val hRS hcl hL rfl bb _ rfl⟩
      · intro L a w' hL hsame hsz hJ hdep hcl
        have e0 : a.eval (.tmp 139) = (.bool true) := eval_slot (j := 46) (by kernel_rfl) (hJ.valOf (by decide) (dep_of hdep 46 (by kernel_rfl)) rfl rfl)
        have e1 : a.eval (.tmp 145) = (.bool true) := eval_slot (j := 52) (by kernel_rfl) (hJ.valOf (by decide) (dep_of hdep 52 (by kernel_rfl)) rfl rfl)
        refine Step.val _ rfl rfl (wanted_none rfl) (.bool true) w' (fun ρ hρ => ?_) (hJ.val hRS hcl hL rfl (Below.refl _ _) _ rfl)
        rw [hρ] at e0 e1
        have ec0 : ρ (.const (.bool false)) = (.bool false) := (hρ _).symm
        clear hJ hsame hdep hcl hρ hsz
        go_simp
      · intro L a w' hL hsame hsz hJ hdep hcl
        have e0 : a.eval (.tmp 146) = (.bool true) := eval_slot (j := 53) (by kernel_rfl) (hJ.valOf (by decide) (dep_of hdep 53 (by kernel_rfl)) rfl rfl)
        refine Step.val _ rfl rfl (wanted_none rfl) (.bool true) w' (fun ρ hρ => ?_) (hJ.val hRS hcl hL rfl (Below.refl _ _) _ rfl)
        rw [hρ] at e0
        clear hJ hsame hdep hcl hρ hsz
        go_simp
      · intro L a w' hL hsame hsz hJ hdep hcl
        have gd : valOf _ 54 a = .bool true := hJ.valOf (by decide) (dep_of hdep 54 (by kernel_rfl)) rfl rfl
        refine Step.call _ rfl rfl (wanted_some (g := 54) (b := true) rfl gd) 3 #[] (fun ρ hρ => ?_) ?_
        · skip
          have ef : ρ (.func 3) = .func (.func 3) #[] #[] := (hρ _).symm
          clear hJ hsame hdep hcl hρ hsz gd
          go_simp
        · refine (editRuns_any w' (SP.out.keptS hJ.kept (by simp))).mono ?_
          rintro e w2 ⟨rfl, bb⟩
          exact ⟨_, rfl, hJ.val hRS hcl hL rfl bb _ rfl⟩
      · intro L a w' hL hsame hsz hJ hdep hcl
        have e0 : a.eval (.tmp 147) = (.bool true) := eval_slot (j := 54) (by kernel_rfl) (hJ.valOf (by decide) (dep_of hdep 54 (by kernel_rfl)) rfl rfl)
        have e1 : a.eval (.tmp 148) = (.bool true) := eval_slot (j := 55) (by kernel_rfl) (hJ.valOf (by decide) (dep_of hdep 55 (by kernel_rfl)) rfl rfl)
        refine Step.val _ rfl rfl (wanted_none rfl) (.bool true) w' (fun ρ hρ => ?_) (hJ.val hRS hcl hL rfl (Below.refl _ _) _ rfl)
        rw [hρ] at e0 e1
        have ec0 : ρ (.const (.bool false)) = (.bool false) := (hρ _).symm
        clear hJ hsame hdep hcl hρ hsz
        go_simp
      · intro L a w' hL hsame hsz hJ hdep hcl
        have e0 : a.eval (.tmp 149) = (.bool true) := eval_slot (j := 56) (by kernel_rfl) (hJ.valOf (by decide) (dep_of hdep 56 (by kernel_rfl)) rfl rfl)
        refine Step.val _ rfl rfl (wanted_none rfl) (.bool true) w' (fun ρ hρ => ?_) (hJ.val hRS hcl hL rfl (Below.refl _ _) _ rfl)
        rw [hρ] at e0
        clear hJ hsame hdep hcl hρ hsz
        go_simp
      · intro L a w' hsame hsz hJ hall
        obtain ⟨u, hu, ha⟩ := act_puts hsame
        have h : (u 57 = .bool true) ∧ Below wc.heap.size wc w' := by
          (try simp only [hu])
          exact (And.intro (hJ.valOf (j := 57) (by decide) (hall 57 (by decide)) rfl rfl) (hJ.kept.toBelow (Nat.le_refl _) (by simp)))
        have h := hide h
        clear hJ hall hsz hu hsame
        subst ha
        change Exit.then _ _ Exit.normal (Act.put (Act.put (Act.put (Act.put (Act.put (Act.put (Act.put (Act.put (Act.put (Act.put (Act.put (Act.put (Act.put (Act.put (Act.put (Act.put (Act.put (Act.put (Act.put (Act.put (Act.put (Act.put (Act.put (Act.put (Act.put (Act.put (Act.put (Act.put (Act.put (Act.put (Act.put (Act.put (Act.put (Act.put (Act.put (Act.put (Act.put (Act.put (Act.put (Act.put (Act.put (Act.put (Act.put (Act.put (Act.put (Act.put (Act.put (Act.put (Act.put (Act.put (Act.put (Act.put (Act.put (Act.put (Act.put (Act.put (Act.put (Act.put (putAll _ u 0 _) (some 93) (u 0)) (some 94) (u 1)) (some 95) (u 2)) (some 96) (u 3)) (some 97) (u 4)) (some 98) (u 5)) (some 99) (u 6)) (some 100) (u 7)) (some 101) (u 8)) (some 102) (u 9)) (some 103) (u 10)) (some 104) (u 11)) (some 105) (u 12)) (some 106) (u 13)) (some 107) (u 14)) (some 108) (u 15)) (some 109) (u 16)) (some 110) (u 17)) (some 111) (u 18)) (some 112) (u 19)) (some 113) (u 20)) (some 114) (u 21)) (some 115) (u 22)) (some 116) (u 23)) (some 117) (u 24)) (some 118) (u 25)) (some 119) (u 26)) (some 120) (u 27)) (some 121) (u 28)) (some 122) (u 29)) (some 123) (u 30)) (some 124) (u 31)) (some 125) (u 32)) (some 126) (u 33)) (some 127) (u 34)) (some 128) (u 35)) (some 129) (u 36)) (some 130) (u 37)) (some 131) (u 38)) (some 132) (u 39)) (some 133) (u 40)) (some 134) (u 41)) (some 135) (u 42)) (some 136) (u 43)) (some 137) (u 44)) (some 138) (u 45)) (some 139) (u 46)) (some 140) (u 47)) (some 141) (u 48)) (some 142) (u 49)) (some 143) (u 50)) (some 144) (u 51)) (some 145) (u 52)) (some 146) (u 53)) (some 147) (u 54)) (some 148) (u 55)) (some 149) (u 56)) (some 8) (u 57)) _
        simp only [putAll]
        generalize u 0 = v0
        generalize u 1 = v1
        generalize u 2 = v2
        generalize u 3 = v3
        generalize u 4 = v4
        generalize u 5 = v5
        generalize u 6 = v6
        generalize u 7 = v7
        generalize u 8 = v8
        generalize u 9 = v9
        generalize u 10 = v10
        generalize u 11 = v11
        generalize u 12 = v12
        generalize u 13 = v13
        generalize u 14 = v14
        generalize u 15 = v15
        generalize u 16 = v16
        generalize u 17 = v17
        generalize u 18 = v18
        generalize u 19 = v19
        generalize u 20 = v20
        generalize u 21 = v21
        generalize u 22 = v22
        generalize u 23 = v23
        generalize u 24 = v24
        generalize u 25 = v25
        generalize u 26 = v26
        generalize u 27 = v27
        generalize u 28 = v28
        generalize u 29 = v29
        generalize u 30 = v30
        generalize u 31 = v31
        generalize u 32 = v32
        generalize u 33 = v33
        generalize u 34 = v34
        generalize u 35 = v35
        generalize u 36 = v36
        generalize u 37 = v37
        generalize u 38 = v38
        generalize u 39 = v39
        generalize u 40 = v40
        generalize u 41 = v41
        generalize u 42 = v42
        generalize u 43 = v43
        generalize u 44 = v44
        generalize u 45 = v45
        generalize u 46 = v46
        generalize u 47 = v47
        generalize u 48 = v48
        generalize u 49 = v49
        generalize u 50 = v50
        generalize u 51 = v51
        generalize u 52 = v52
        generalize u 53 = v53
        generalize u 54 = v54
        generalize u 55 = v55
        generalize u 56 = v56
        generalize u 57 = v57 at h ⊢
        go_simp
        go_step
        go_meet
        exact h.out
  case rest =>
  obtain ⟨rfl, bc⟩ := hcut
  have BB := hide (BB.out.trans (bc.mono BB.out.size))
  have SP := hide (SP.out.keep bc)
  have HBG := hide (HBG.out.below bc HBG.out.lt)
  have HIG := hide (HIG.out.low bc)
  have BP := hide (BP.out.below bc BP.out.lt)
  have BU := hide (BU.out.below bc BU.out.lt)
  have IU := hide (IU.out.low bc)
  have BD := hide (BD.out.below bc BD.out.lt)
  have ID := hide (ID.out.low bc)
  have BI := hide (BI.out.below bc BI.out.lt)
  have II := hide (II.out.low bc)
  have BE := hide (BE.out.below bc BE.out.lt)
  have IE := hide (IE.out.low bc)
  go_wp2_with fail
  go_ret
  exact ⟨rfl, BB.out⟩
theorem editParts_any (rw_ cl : Int) (Ap : Option Addr) (np cp : Nat) (lp : List Int) (At : Option Addr) (nt ct : Nat) (lt : List Int) (c m a0 a1 a2 : Int) (w : World)
    (hrw : (Lit.int .i64 rw_).wf = true) (hcl : (Lit.int .i64 cl).wf = true) (hA : Arg .i64 w Ap np cp lp) (hB : Arg .i64 w At nt ct lt) (hc : (Lit.int .i64 c).wf = true) (hm : (Lit.int .i64 m).wf = true) (ha0 : (Lit.int .i64 a0).wf = true) (ha1 : (Lit.int .i64 a1).wf = true) (ha2 : (Lit.int .i64 a2).wf = true) (hs : Spans w) :
    Calls Tryd.prog 7 #[.agg #[.int .i64 rw_, .int .i64 cl, .slice Ap np cp, .slice At nt ct], .int .i64 c, .int .i64 m, .agg #[.int .i64 a0, .int .i64 a1, .int .i64 a2]] w fun e w' => e = .returned (.bool true) ∧ Below w.heap.size w w' :=
  editParts_core rw_ cl Ap np cp lp At nt ct lt c m a0 a1 a2 w (bounds_i64 hrw) (bounds_i64 hcl) hA hB (bounds_i64 hc) (bounds_i64 hm) (bounds_i64 ha0) (bounds_i64 ha1) (bounds_i64 ha2) hs
end Go.Proofs.YtcbmjdacdjcggaaDoor
