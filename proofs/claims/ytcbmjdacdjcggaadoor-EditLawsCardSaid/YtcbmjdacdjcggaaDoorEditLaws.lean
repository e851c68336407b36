/- EditLaws: put in and taken out again; up and down; by nothing nothing. -/
import Derived.Test.YtcbmjdacdjcggaaDoorEditRuns
import Derived.Test.YtcbmjdacdjcggaaDoorKeepPen
import Derived.Test.YtcbmjdacdjcggaaDoorGridPlaysP
set_option maxRecDepth 100000
namespace Go.Proofs.YtcbmjdacdjcggaaDoor
open Go.RowKit
set_option linter.unusedVariables false
theorem PG.scrollI_all {g : PG.Gr} {R : Nat} (h : g.rows = R) (h1 : 1 ≤ R) (n : Int) (p : PG.Pn) : PG.scrollI g 0 ((R : Int) - 1) n p = PG.scrollG g 0 (g.rows - 1) n p := by
  unfold PG.scrollI
  rw [if_pos (by omega)]
  congr 1
  omega
theorem PG.shiftI_in (g : PG.Gr) (r c : Nat) (n : Int) (p : PG.Pn) : PG.shiftI g r c n p = PG.shiftG g r c n p := by
  unfold PG.shiftI
  rw [if_pos (by omega)]
  rfl
theorem wrap_pred {R : Nat} (h : R ≤ 100) : IntKind.i64.wrap ((R : Int) - 1) = (R : Int) - 1 := IntWalk.i64_in _ (by omega)
set_option maxHeartbeats 16000000 in
theorem editLaws_core (rw_ cl : Int) (Ap : Option Addr) (np cp : Nat) (lp : List Int) (At : Option Addr) (nt ct : Nat) (lt : List Int) (r c m a0 a1 a2 : Int) (w : World)
    (hrw : -9223372036854775808 ≤ rw_ ∧ rw_ ≤ 9223372036854775807) (hcl : -9223372036854775808 ≤ cl ∧ cl ≤ 9223372036854775807) (hA : Arg .i64 w Ap np cp lp) (hB : Arg .i64 w At nt ct lt)
    (hr : -9223372036854775808 ≤ r ∧ r ≤ 9223372036854775807) (hc : -9223372036854775808 ≤ c ∧ c ≤ 9223372036854775807) (hm : -9223372036854775808 ≤ m ∧ m ≤ 9223372036854775807)
    (ha0 : -9223372036854775808 ≤ a0 ∧ a0 ≤ 9223372036854775807) (ha1 : -9223372036854775808 ≤ a1 ∧ a1 ≤ 9223372036854775807) (ha2 : -9223372036854775808 ≤ a2 ∧ a2 ≤ 9223372036854775807) (hs : Spans w) :
    Calls Tryd.prog 5 #[.agg #[.int .i64 rw_, .int .i64 cl, .slice Ap np cp, .slice At nt ct], .int .i64 r, .int .i64 c, .int .i64 m, .agg #[.int .i64 a0, .int .i64 a1, .int .i64 a2]] w fun e w' => e = .returned (.bool true) ∧ Below w.heap.size w w' := by
  have hP := C.kpen_right a0 a1 a2
  have KP := hide (fun w' => keepPen_any a0 a1 a2 w' ha0.1 ha0.2 ha1.1 ha1.2 ha2.1 ha2.2)
  generalize C.kcol a0 = pa at hP KP
  generalize C.kcol a1 = pb at hP KP
  generalize a2 % 256 = pc at hP KP
  have hP : PG.okPen (pa, pb, pc) := hP
  have HP := hide hP
  obtain ⟨R, hR⟩ : ∃ R : Nat, 1 + rw_ % (5 - 1 + 1) = (R : Int) := ⟨(1 + rw_ % 5).toNat, by omega⟩
  obtain ⟨K, hK⟩ : ∃ K : Nat, 1 + cl % (9 - 1 + 1) = (K : Int) := ⟨(1 + cl % 9).toNat, by omega⟩
  have hR1 : 1 ≤ R ∧ R ≤ 5 ∧ 1 ≤ K ∧ K ≤ 9 := by omega
  have hGG := keepG_right lp lt (R := R) (K := K) hR1.1 hR1.2.1 hR1.2.2.1 hR1.2.2.2
  have K1 := hide (fun (w' : World) (b : Below w.heap.size w w') => u_keepGrid rw_ cl R K np cp nt ct lp lt Ap At w w' b hR hK hrw hcl hA hB)
  have hsz : (PG.ofL R K (PG.keepCells lp lt R K)).rows = R ∧ (PG.ofL R K (PG.keepCells lp lt R K)).cols = K := ⟨rfl, rfl⟩
  generalize PG.ofL R K (PG.keepCells lp lt R K) = G at hGG K1 hsz
  have within : ∀ (z : Int) (N : Nat), 1 ≤ N → ∃ k : Nat, 0 + z % ((N : Int) - 1 - 0 + 1) = k ∧ k < N := fun z N hN => by
    have e : (N : Int) - 1 - 0 + 1 = N := by omega
    have h1 := Int.emod_nonneg z (show (N : Int) ≠ 0 by omega)
    have h2 := Int.emod_lt_of_pos z (show (0 : Int) < N by omega)
    rw [e]
    exact ⟨(z % (N : Int)).toNat, by omega, by omega⟩
  obtain ⟨row, hrow, hrR⟩ := within r R hR1.1
  obtain ⟨col, hcol, hcK⟩ := within c K hR1.2.2.1
  obtain ⟨mm, hmm⟩ : ∃ k : Nat, 0 + m % (4 - 0 + 1) = k := ⟨(m % 5).toNat, by omega⟩
  have KR := hide (fun w' => within_is r 0 ((R : Int) - 1) row hrow w' hr.1 hr.2 (by omega) (by omega) (by omega))
  have KC := hide (fun w' => within_is c 0 ((K : Int) - 1) col hcol w' hc.1 hc.2 (by omega) (by omega) (by omega))
  have KM := hide (fun w' => within_is m 0 4 mm hmm w' hm.1 hm.2 (by omega) (by omega) (by omega))
  have HK := hide (show (1 ≤ R ∧ R ≤ 5 ∧ 1 ≤ K ∧ K ≤ 9) ∧ row < R ∧ col < K ∧ mm ≤ 4 from ⟨hR1, hrR, hcK, by omega⟩)
  have HG := hide (show PG.RightG G ∧ G.rows = R ∧ G.cols = K from ⟨hGG, hsz⟩)
  have SP := hide hs
  have HA := hide hA
  have HB := hide hB
  clear hrw hcl hr hc hm ha0 ha1 ha2 hs hrow hrR hcol hcK hmm hR hK hR1 hGG hsz within hP hA hB
  go_enter Tryd.func5, Tryd.ntmps5
  go_upto_region 1 with fail
  have bb : Below w.heap.size w ((w.alloc (.cells #[.int .i64 rw_, .int .i64 cl, .slice Ap np cp, .slice At nt ct] 36)).alloc (.cells #[.int .i64 a0, .int .i64 a1, .int .i64 a2] 39)) := ((Below.refl _ _).alloc (Nat.le_refl _) _).alloc (by simp) _
  have bX := (Box.new w 36 #[.int .i64 rw_, .int .i64 cl, .slice Ap np cp, .slice At nt ct]).alloc (.cells #[.int .i64 a0, .int .i64 a1, .int .i64 a2] 39)
  have bY := Box.new (w.alloc (.cells #[.int .i64 rw_, .int .i64 cl, .slice Ap np cp, .slice At nt ct] 36)) 39 #[.int .i64 a0, .int .i64 a1, .int .i64 a2]
  rw [World.size_alloc] at bY
  generalize (w.alloc (.cells #[.int .i64 rw_, .int .i64 cl, .slice Ap np cp, .slice At nt ct] 36)).alloc (.cells #[.int .i64 a0, .int .i64 a1, .int .i64 a2] 39) = w1 at bb bX bY ⊢
  obtain ⟨gX, hgX⟩ : ∃ g, w.heap.size = g := ⟨_, rfl⟩
  obtain ⟨gY, hgY⟩ : ∃ g, w.heap.size + 1 = g := ⟨_, rfl⟩
  have BB := hide bb
  have SP := hide (SP.out.keep bb)
  rw [hgY] at bY ⊢
  rw [hgX] at bX ⊢
  have BX := hide bX
  have BY := hide bY
  clear bb bX bY hgX hgY
  go_cut [11, 12] (fun u11 u12 wx => (GVar w1.heap.size G u11 wx ∧ PBox (pa, pb, pc) u12 wx) ∧ Below w1.heap.size w1 wx)
  case first =>
    as_aux_lemma =>
      refine wp_region_rj (n := 177) [] (fun _ => #[]) [(0, 0, 0, 0), (1, 0, 0, 0), (0, 0, 0, 0), (0, 0, 0, 0), (2, 0, 0, 27), (2, 0, 0, 23), (3, 4, 1, 27), (3, 5, 3, 23)] (fun j => [(.agg #[.int .i64 rw_, .int .i64 cl, .slice Ap np cp, .slice At nt ct]), undef, (.agg #[.int .i64 a0, .int .i64 a1, .int .i64 a2]), (.agg #[.int .i64 pa, .int .i64 pb, .int .i64 pc]), undef, undef, undef, undef].getD j undef) (fun j => [PG.dflt, G, PG.dflt, PG.dflt, PG.dflt, PG.dflt, PG.dflt, PG.dflt].getD j PG.dflt) (fun _ => 0) (by kernel_rfl) (by kernel_rfl) (by kernel_rfl) rfl (by kernel_rfl) (no4 rfl) (fun i j h => by revert h; exact no4 (p := fun _ => _) rfl i) (fun hRS => cases8 ⟨?_, ?_, ?_, ?_, ?_, ?_, ?_, ?_⟩) ?_
      · intro L a w' hL hsame hsz hJ hdep hcl
        have e0 : a.eval (.tmp 5) = (.pointer (some ⟨gX, 0, none⟩)) := eval_base hsame (by kernel_rfl)
        have hb := hJ.keptBox BX.out (by simp)
        have q0 : w'.cell? ⟨gX, 0, none⟩ = some (.int .i64 rw_) := hb.cell 0
        have q1 : w'.cell? ⟨gX, 1, none⟩ = some (.int .i64 cl) := hb.cell 1
        have q2 : w'.cell? ⟨gX, 2, none⟩ = some (.slice Ap np cp) := hb.cell 2
        have q3 : w'.cell? ⟨gX, 3, none⟩ = some (.slice At nt ct) := hb.cell 3
        refine Step.val _ rfl rfl (wanted_none rfl) (.agg #[.int .i64 rw_, .int .i64 cl, .slice Ap np cp, .slice At nt ct]) w' (fun ρ hρ => ?_) (hJ.val hRS hcl hL rfl (Below.refl _ _) _ rfl)
        rw [hρ] at e0
        clear hb
        clear hJ hsame hdep hcl hρ hsz
        go_simp
      · intro L a w' hL hsame hsz hJ hdep hcl
        have e0 : a.eval (.tmp 25) = (.agg #[.int .i64 rw_, .int .i64 cl, .slice Ap np cp, .slice At nt ct]) := eval_slot (j := 0) (by kernel_rfl) (hJ.valOf (by decide) (dep_of hdep 0 (by kernel_rfl)) rfl rfl)
        refine Step.call _ rfl rfl (wanted_none rfl) 16 #[.agg #[.int .i64 rw_, .int .i64 cl, .slice Ap np cp, .slice At nt ct]] (fun ρ hρ => ?_) ?_
        · skip
          rw [hρ] at e0
          have ef : ρ (.func 16) = .func (.func 16) #[] #[] := (hρ _).symm
          clear hJ hsame hdep hcl hρ hsz
          go_simp
        · refine (K1.out w' (BB.out.trans ((hJ.kept.toBelow (Nat.le_refl _) (by simp)).mono BB.out.size))).mono ?_
          rintro e w2 ⟨v, rfl, hg, bb⟩
          exact ⟨v, rfl, hJ.grid hRS hcl hL rfl bb v hg⟩
      · intro L a w' hL hsame hsz hJ hdep hcl
        have e0 : a.eval (.tmp 9) = (.pointer (some ⟨gY, 0, none⟩)) := eval_base hsame (by kernel_rfl)
        have hb := hJ.keptBox BY.out (by simp)
        have q0 : w'.cell? ⟨gY, 0, none⟩ = some (.int .i64 a0) := hb.cell 0
        have q1 : w'.cell? ⟨gY, 1, none⟩ = some (.int .i64 a1) := hb.cell 1
        have q2 : w'.cell? ⟨gY, 2, none⟩ = some (.int .i64 a2) := hb.cell 2
        refine Step.val _ rfl rfl (wanted_none rfl) (.agg #[.int .i64 a0, .int .i64 a1, .int .i64 a2]) w' (fun ρ hρ => ?_) (hJ.val hRS hcl hL rfl (Below.refl _ _) _ rfl)
        rw [hρ] at e0
        clear hb
        clear hJ hsame hdep hcl hρ hsz
        go_simp
      · intro L a w' hL hsame hsz hJ hdep hcl
        have e0 : a.eval (.tmp 27) = (.agg #[.int .i64 a0, .int .i64 a1, .int .i64 a2]) := eval_slot (j := 2) (by kernel_rfl) (hJ.valOf (by decide) (dep_of hdep 2 (by kernel_rfl)) rfl rfl)
        refine Step.call _ rfl rfl (wanted_none rfl) 17 #[.agg #[.int .i64 a0, .int .i64 a1, .int .i64 a2]] (fun ρ hρ => ?_) ?_
        · skip
          rw [hρ] at e0
          have ef : ρ (.func 17) = .func (.func 17) #[] #[] := (hρ _).symm
          clear hJ hsame hdep hcl hρ hsz
          go_simp
        · refine (KP.out w').mono ?_
          rintro e w2 ⟨rfl, bb⟩
          exact ⟨_, rfl, hJ.val hRS hcl hL rfl bb _ rfl⟩
      · intro L a w' hL hsame hsz hJ hdep hcl
        refine Step.val _ rfl rfl (wanted_none rfl) (.pointer (some ⟨w'.heap.size, 0, none⟩)) (w'.alloc (.cells #[.int .i64 0, .int .i64 0, .slice none 0 0] 27)) (fun ρ hρ => ?_) (hJ.box hRS hcl hL rfl 27 rfl (.int .i64 0) (.int .i64 0) (.slice none 0 0))
        clear hJ hsame hdep hcl hρ hsz
        go_simp
      · intro L a w' hL hsame hsz hJ hdep hcl
        refine Step.val _ rfl rfl (wanted_none rfl) (.pointer (some ⟨w'.heap.size, 0, none⟩)) (w'.alloc (.cells #[.int .i64 0, .int .i64 0, .int .i64 0] 23)) (fun ρ hρ => ?_) (hJ.box hRS hcl hL rfl 23 rfl (.int .i64 0) (.int .i64 0) (.int .i64 0))
        clear hJ hsame hdep hcl hρ hsz
        go_simp
      · intro L a w' hL hsame hsz hJ hdep hcl
        obtain ⟨sv, hsv, hso⟩ := hJ.gridOf (by decide) (dep_of hdep 1 (by kernel_rfl)) rfl
        obtain ⟨sA, sc, rfl, _⟩ := own_form' hso
        have es : a.eval (.tmp 26) = .agg #[.int .i64 (G).rows, .int .i64 (G).cols, .slice sA ((G).rows * (G).cols) sc] := eval_slot (j := 1) (by kernel_rfl) hsv
        have la := dep_of hdep 4 (by kernel_rfl)
        obtain ⟨g, cs, hg, hg0, hb, hs3⟩ := hJ.boxOf (by decide) la rfl
        obtain ⟨c0, c1, c2, rfl⟩ := three_of hs3
        obtain ⟨m0, m1, m2, f0, f1, f2⟩ := hb.three
        have ea : a.eval (.tmp 11) = .pointer (some ⟨g, 0, none⟩) := eval_slot (j := 4) (by kernel_rfl) hg
        refine Step.skip _ rfl (wanted_none rfl) (set3 w' g (.int .i64 (G).rows) (.int .i64 (G).cols) (.slice sA ((G).rows * (G).cols) sc)) (fun ρ hρ => ?_) (hJ.put hRS hcl hL rfl la (dep_of hdep 1 (by kernel_rfl)) hg hsv)
        rw [hρ] at es ea
        clear hJ hsame hdep hcl hρ hsz hg hb hso hsv
        unfold set3
        go_simp
      · intro L a w' hL hsame hsz hJ hdep hcl
        have hsv := hJ.valOf (j := 3) (by decide) (dep_of hdep 3 (by kernel_rfl)) rfl rfl
        have es : a.eval (.tmp 28) = .agg #[.int .i64 pa, .int .i64 pb, .int .i64 pc] := eval_slot (j := 3) (by kernel_rfl) hsv
        have la := dep_of hdep 5 (by kernel_rfl)
        obtain ⟨g, cs, hg, hg0, hb, hs3⟩ := hJ.boxOf (by decide) la rfl
        obtain ⟨c0, c1, c2, rfl⟩ := three_of hs3
        obtain ⟨m0, m1, m2, f0, f1, f2⟩ := hb.three
        have ea : a.eval (.tmp 12) = .pointer (some ⟨g, 0, none⟩) := eval_slot (j := 5) (by kernel_rfl) hg
        refine Step.skip _ rfl (wanted_none rfl) (set3 w' g (.int .i64 pa) (.int .i64 pb) (.int .i64 pc)) (fun ρ hρ => ?_) (hJ.put hRS hcl hL rfl la (dep_of hdep 3 (by kernel_rfl)) hg hsv)
        rw [hρ] at es ea
        clear hJ hsame hdep hcl hρ hsz hg hb hsv
        unfold set3
        go_simp
      · intro L a w' hsame hsz hJ hall
        obtain ⟨u, hu, ha⟩ := act_puts hsame
        have h : (GVar w1.heap.size G (u 4) w' ∧ PBox (pa, pb, pc) (u 5) w') ∧ Below w1.heap.size w1 w' := by
          (try simp only [hu])
          exact (And.intro (And.intro (hJ.var hall 6 (by decide) rfl rfl (by decide) rfl (by decide) rfl) (pbox_of (hJ.var0 hall 7 (by decide) rfl rfl (by decide) rfl (by decide) rfl rfl))) (hJ.kept.toBelow (Nat.le_refl _) (by simp)))
        have h := hide h
        clear hJ hall hsz hu hsame
        subst ha
        change Exit.then _ _ Exit.normal (Act.put (Act.put (Act.put (Act.put (Act.put (Act.put (Act.put (Act.put (putAll _ u 0 _) (some 25) (u 0)) (some 26) (u 1)) (some 27) (u 2)) (some 28) (u 3)) (some 11) (u 4)) (some 12) (u 5)) none (u 6)) none (u 7)) _
        simp only [putAll]
        generalize u 0 = v0
        generalize u 1 = v1
        generalize u 2 = v2
        generalize u 3 = v3
        generalize u 4 = v4 at h ⊢
        generalize u 5 = v5 at h ⊢
        generalize u 6 = v6
        generalize u 7 = v7
        go_simp
        go_step
        go_meet
        exact h.out
  case rest =>
  obtain ⟨⟨⟨gG, rfl, -, hG⟩, ⟨gP, rfl, hP⟩⟩, bc⟩ := hcut
  have BB := hide (BB.out.trans (bc.mono BB.out.size))
  have SP := hide (SP.out.keep bc)
  obtain ⟨AG, cG, hbx, -, -, -, hig⟩ := hG.open_ HG.out.2.1 HG.out.2.2
  have HBG := hide (show Box wc gG 27 #[.int .i64 R, .int .i64 K, .slice AG (R * K) cG] from hbx)
  have HIG := hide (show IsG wc G (.agg #[.int .i64 R, .int .i64 K, .slice AG (R * K) cG]) from hig)
  have BP := hide (show Box wc gP 23 #[.int .i64 pa, .int .i64 pb, .int .i64 pc] from hP)
  clear bc hG hP hbx hig BX BY K1 KP
  have hsR := wrap_pred (R := R) (by have := HK.out; omega)
  have hsK := wrap_pred (R := K) (by have := HK.out; omega)
  go_upto_region 2 with fail
  go_cut [13, 14] (fun u13 u14 wx => (u13 = .int .i64 row ∧ u14 = .int .i64 col) ∧ Below wc.heap.size wc wx)
  case first =>
    as_aux_lemma =>
      refine wp_region_rj (n := 177) [] (fun _ => #[]) [(0, 0, 0, 0), (0, 0, 0, 0), (0, 0, 0, 0), (0, 0, 0, 0), (0, 0, 0, 0), (0, 0, 0, 0), (0, 0, 0, 0), (0, 0, 0, 0), (0, 0, 0, 0), (0, 0, 0, 0), (0, 0, 0, 0), (0, 0, 0, 0)] (fun j => [(.int .i64 r), (.pointer (some ⟨gG, 0, none⟩)), (.int .i64 R), (.int .i64 ((R : Int) - 1)), (.int .i64 row), (.int .i64 c), (.pointer (some ⟨gG, 1, none⟩)), (.int .i64 K), (.int .i64 ((K : Int) - 1)), (.int .i64 col), (.int .i64 row), (.int .i64 col)].getD j undef) (fun j => [PG.dflt, PG.dflt, PG.dflt, PG.dflt, PG.dflt, PG.dflt, PG.dflt, PG.dflt, PG.dflt, PG.dflt, PG.dflt, PG.dflt].getD j PG.dflt) (fun _ => 0) (by kernel_rfl) (by kernel_rfl) (by kernel_rfl) rfl (by kernel_rfl) (no4 rfl) (fun i j h => by revert h; exact no4 (p := fun _ => _) rfl i) (fun hRS => cases12 ⟨?_, ?_, ?_, ?_, ?_, ?_, ?_, ?_, ?_, ?_, ?_, ?_⟩) ?_
      · intro L a w' hL hsame hsz hJ hdep hcl
        have e0 : a.eval (.tmp 1) = (.int .i64 r) := eval_base hsame (by kernel_rfl)
        refine Step.val _ rfl rfl (wanted_none rfl) (.int .i64 r) w' (fun ρ hρ => ?_) (hJ.val hRS hcl hL rfl (Below.refl _ _) _ rfl)
        rw [hρ] at e0
        clear hJ hsame hdep hcl hρ hsz
        go_simp
      · intro L a w' hL hsame hsz hJ hdep hcl
        have e0 : a.eval (.tmp 11) = (.pointer (some ⟨gG, 0, none⟩)) := eval_base hsame (by kernel_rfl)
        refine Step.val _ rfl rfl (wanted_none rfl) (.pointer (some ⟨gG, 0, none⟩)) w' (fun ρ hρ => ?_) (hJ.val hRS hcl hL rfl (Below.refl _ _) _ rfl)
        rw [hρ] at e0
        clear hJ hsame hdep hcl hρ hsz
        go_simp
      · intro L a w' hL hsame hsz hJ hdep hcl
        have e0 : a.eval (.tmp 30) = (.pointer (some ⟨gG, 0, none⟩)) := eval_slot (j := 1) (by kernel_rfl) (hJ.valOf (by decide) (dep_of hdep 1 (by kernel_rfl)) rfl rfl)
        have hb := hJ.keptBox HBG.out (by simp)
        have q0 : w'.cell? ⟨gG, 0, none⟩ = some (.int .i64 R) := hb.cell 0
        refine Step.val _ rfl rfl (wanted_none rfl) (.int .i64 R) w' (fun ρ hρ => ?_) (hJ.val hRS hcl hL rfl (Below.refl _ _) _ rfl)
        rw [hρ] at e0
        clear hb
        clear hJ hsame hdep hcl hρ hsz
        go_simp
      · intro L a w' hL hsame hsz hJ hdep hcl
        have e0 : a.eval (.tmp 31) = (.int .i64 R) := eval_slot (j := 2) (by kernel_rfl) (hJ.valOf (by decide) (dep_of hdep 2 (by kernel_rfl)) rfl rfl)
        refine Step.val _ rfl rfl (wanted_none rfl) (.int .i64 ((R : Int) - 1)) w' (fun ρ hρ => ?_) (hJ.val hRS hcl hL rfl (Below.refl _ _) _ rfl)
        rw [hρ] at e0
        have ec0 : ρ (.const (.int .i64 1)) = (.int .i64 1) := (hρ _).symm
        clear hJ hsame hdep hcl hρ hsz
        go_simp
      · intro L a w' hL hsame hsz hJ hdep hcl
        have e0 : a.eval (.tmp 29) = (.int .i64 r) := eval_slot (j := 0) (by kernel_rfl) (hJ.valOf (by decide) (dep_of hdep 0 (by kernel_rfl)) rfl rfl)
        have e2 : a.eval (.tmp 32) = (.int .i64 ((R : Int) - 1)) := eval_slot (j := 3) (by kernel_rfl) (hJ.valOf (by decide) (dep_of hdep 3 (by kernel_rfl)) rfl rfl)
        refine Step.call _ rfl rfl (wanted_none rfl) 18 #[.int .i64 r, .int .i64 0, .int .i64 ((R : Int) - 1)] (fun ρ hρ => ?_) ?_
        · skip
          rw [hρ] at e0 e2
          have ec0 : ρ (.const (.int .i64 0)) = (.int .i64 0) := (hρ _).symm
          have ef : ρ (.func 18) = .func (.func 18) #[] #[] := (hρ _).symm
          clear hJ hsame hdep hcl hρ hsz
          go_simp
        · refine (KR.out w').mono ?_
          rintro e w2 ⟨rfl, rfl⟩
          exact ⟨_, rfl, hJ.val hRS hcl hL rfl (Below.refl _ _) _ rfl⟩
      · intro L a w' hL hsame hsz hJ hdep hcl
        have e0 : a.eval (.tmp 2) = (.int .i64 c) := eval_base hsame (by kernel_rfl)
        refine Step.val _ rfl rfl (wanted_none rfl) (.int .i64 c) w' (fun ρ hρ => ?_) (hJ.val hRS hcl hL rfl (Below.refl _ _) _ rfl)
        rw [hρ] at e0
        clear hJ hsame hdep hcl hρ hsz
        go_simp
      · intro L a w' hL hsame hsz hJ hdep hcl
        have e0 : a.eval (.tmp 11) = (.pointer (some ⟨gG, 0, none⟩)) := eval_base hsame (by kernel_rfl)
        refine Step.val _ rfl rfl (wanted_none rfl) (.pointer (some ⟨gG, 1, none⟩)) w' (fun ρ hρ => ?_) (hJ.val hRS hcl hL rfl (Below.refl _ _) _ rfl)
        rw [hρ] at e0
        clear hJ hsame hdep hcl hρ hsz
        go_simp
      · intro L a w' hL hsame hsz hJ hdep hcl
        have e0 : a.eval (.tmp 35) = (.pointer (some ⟨gG, 1, none⟩)) := eval_slot (j := 6) (by kernel_rfl) (hJ.valOf (by decide) (dep_of hdep 6 (by kernel_rfl)) rfl rfl)
        have hb := hJ.keptBox HBG.out (by simp)
        have q0 : w'.cell? ⟨gG, 1, none⟩ = some (.int .i64 K) := hb.cell 1
        refine Step.val _ rfl rfl (wanted_none rfl) (.int .i64 K) w' (fun ρ hρ => ?_) (hJ.val hRS hcl hL rfl (Below.refl _ _) _ rfl)
        rw [hρ] at e0
        clear hb
        clear hJ hsame hdep hcl hρ hsz
        go_simp
      · intro L a w' hL hsame hsz hJ hdep hcl
        have e0 : a.eval (.tmp 36) = (.int .i64 K) := eval_slot (j := 7) (by kernel_rfl) (hJ.valOf (by decide) (dep_of hdep 7 (by kernel_rfl)) rfl rfl)
        refine Step.val _ rfl rfl (wanted_none rfl) (.int .i64 ((K : Int) - 1)) w' (fun ρ hρ => ?_) (hJ.val hRS hcl hL rfl (Below.refl _ _) _ rfl)
        rw [hρ] at e0
        have ec0 : ρ (.const (.int .i64 1)) = (.int .i64 1) := (hρ _).symm
        clear hJ hsame hdep hcl hρ hsz
        go_simp
      · intro L a w' hL hsame hsz hJ hdep hcl
        have e0 : a.eval (.tmp 34) = (.int .i64 c) := eval_slot (j := 5) (by kernel_rfl) (hJ.valOf (by decide) (dep_of hdep 5 (by kernel_rfl)) rfl rfl)
        have e2 : a.eval (.tmp 37) = (.int .i64 ((K : Int) - 1)) := eval_slot (j := 8) (by kernel_rfl) (hJ.valOf (by decide) (dep_of hdep 8 (by kernel_rfl)) rfl rfl)
        refine Step.call _ rfl rfl (wanted_none rfl) 18 #[.int .i64 c, .int .i64 0, .int .i64 ((K : Int) - 1)] (fun ρ hρ => ?_) ?_
        · skip
          rw [hρ] at e0 e2
          have ec0 : ρ (.const (.int .i64 0)) = (.int .i64 0) := (hρ _).symm
          have ef : ρ (.func 18) = .func (.func 18) #[] #[] := (hρ _).symm
          clear hJ hsame hdep hcl hρ hsz
          go_simp
        · refine (KC.out w').mono ?_
          rintro e w2 ⟨rfl, rfl⟩
          exact ⟨_, rfl, hJ.val hRS hcl hL rfl (Below.refl _ _) _ rfl⟩
      · intro L a w' hL hsame hsz hJ hdep hcl
        have e0 : a.eval (.tmp 33) = (.int .i64 row) := eval_slot (j := 4) (by kernel_rfl) (hJ.valOf (by decide) (dep_of hdep 4 (by kernel_rfl)) rfl rfl)
        refine Step.val _ rfl rfl (wanted_none rfl) (.int .i64 row) w' (fun ρ hρ => ?_) (hJ.val hRS hcl hL rfl (Below.refl _ _) _ rfl)
        rw [hρ] at e0
        clear hJ hsame hdep hcl hρ hsz
        go_simp
      · intro L a w' hL hsame hsz hJ hdep hcl
        have e0 : a.eval (.tmp 38) = (.int .i64 col) := eval_slot (j := 9) (by kernel_rfl) (hJ.valOf (by decide) (dep_of hdep 9 (by kernel_rfl)) rfl rfl)
        refine Step.val _ rfl rfl (wanted_none rfl) (.int .i64 col) w' (fun ρ hρ => ?_) (hJ.val hRS hcl hL rfl (Below.refl _ _) _ rfl)
        rw [hρ] at e0
        clear hJ hsame hdep hcl hρ hsz
        go_simp
      · intro L a w' hsame hsz hJ hall
        obtain ⟨u, hu, ha⟩ := act_puts hsame
        have h : (u 10 = .int .i64 row ∧ u 11 = .int .i64 col) ∧ Below wc.heap.size wc w' := by
          (try simp only [hu])
          exact (And.intro (And.intro (hJ.valOf (j := 10) (by decide) (hall 10 (by decide)) rfl rfl) (hJ.valOf (j := 11) (by decide) (hall 11 (by decide)) rfl rfl)) (hJ.kept.toBelow (Nat.le_refl _) (by simp)))
        have h := hide h
        clear hJ hall hsz hu hsame
        subst ha
        change Exit.then _ _ Exit.normal (Act.put (Act.put (Act.put (Act.put (Act.put (Act.put (Act.put (Act.put (Act.put (Act.put (Act.put (Act.put (putAll _ u 0 _) (some 29) (u 0)) (some 30) (u 1)) (some 31) (u 2)) (some 32) (u 3)) (some 33) (u 4)) (some 34) (u 5)) (some 35) (u 6)) (some 36) (u 7)) (some 37) (u 8)) (some 38) (u 9)) (some 13) (u 10)) (some 14) (u 11)) _
        simp only [putAll]
        generalize u 0 = v0
        generalize u 1 = v1
        generalize u 2 = v2
        generalize u 3 = v3
        generalize u 4 = v4
        generalize u 5 = v5
        generalize u 6 = v6
        generalize u 7 = v7
        generalize u 8 = v8
        generalize u 9 = v9
        generalize u 10 = v10 at h ⊢
        generalize u 11 = v11 at h ⊢
        go_simp
        go_step
        go_meet
        exact h.out
  case rest =>
  obtain ⟨⟨rfl, rfl⟩, bc⟩ := hcut
  have BB := hide (BB.out.trans (bc.mono BB.out.size))
  have SP := hide (SP.out.keep bc)
  have HBG := hide (HBG.out.below bc HBG.out.lt)
  have HIG := hide (HIG.out.low bc)
  have BP := hide (BP.out.below bc BP.out.lt)
  clear bc KR KC hsK
  go_upto_region 3 with fail
  go_cut [15] (fun u wx => u = .int .i64 mm ∧ wx = wc)
  case first =>
    as_aux_lemma =>
      clear hsR
      go_wp2_with (
        go_at_call 18
        go_must (refine (KM.out _).mono ?_)
        rintro e w' ⟨rfl, rfl⟩)
      go_meet
      exact ⟨rfl, rfl⟩
  obtain ⟨rfl, rfl⟩ := hcut
  clear KM
  go_upto_region 4 with fail
  go_cut [16] (fun u16 wx => (GVar wc.heap.size (PG.scrollI (PG.scrollI G 0 ((R : Int) - 1) mm (pa, pb, pc)) 0 ((R : Int) - 1) (-(mm : Int)) (pa, pb, pc)) u16 wx) ∧ Below wc.heap.size wc wx)
  case first =>
    as_aux_lemma =>
      refine wp_region_rj (n := 177) [] (fun _ => #[]) [(0, 0, 0, 0), (0, 0, 0, 0), (0, 0, 0, 0), (0, 0, 0, 0), (0, 0, 0, 0), (0, 0, 0, 0), (1, 0, 0, 0), (0, 0, 0, 0), (0, 0, 0, 0), (0, 0, 0, 0), (0, 0, 0, 0), (0, 0, 0, 0), (1, 0, 0, 0), (2, 0, 0, 27), (3, 13, 12, 27)] (fun j => [(.agg #[.int .i64 R, .int .i64 K, .slice AG (R * K) cG]), (.pointer (some ⟨gG, 0, none⟩)), (.int .i64 R), (.int .i64 ((R : Int) - 1)), (.int .i64 mm), (.agg #[.int .i64 pa, .int .i64 pb, .int .i64 pc]), undef, (.pointer (some ⟨gG, 0, none⟩)), (.int .i64 R), (.int .i64 ((R : Int) - 1)), (.int .i64 mm), (.agg #[.int .i64 pa, .int .i64 pb, .int .i64 pc]), undef, undef, undef].getD j undef) (fun j => [PG.dflt, PG.dflt, PG.dflt, PG.dflt, PG.dflt, PG.dflt, (PG.scrollI G 0 ((R : Int) - 1) mm (pa, pb, pc)), PG.dflt, PG.dflt, PG.dflt, PG.dflt, PG.dflt, (PG.scrollI (PG.scrollI G 0 ((R : Int) - 1) mm (pa, pb, pc)) 0 ((R : Int) - 1) (-(mm : Int)) (pa, pb, pc)), PG.dflt, PG.dflt].getD j PG.dflt) (fun _ => 0) (by kernel_rfl) (by kernel_rfl) (by kernel_rfl) rfl (by kernel_rfl) (no4 rfl) (fun i j h => by revert h; exact no4 (p := fun _ => _) rfl i) (fun hRS => cases15 ⟨?_, ?_, ?_, ?_, ?_, ?_, ?_, ?_, ?_, ?_, ?_, ?_, ?_, ?_, ?_⟩) ?_
      · intro L a w' hL hsame hsz hJ hdep hcl
        have e0 : a.eval (.tmp 11) = (.pointer (some ⟨gG, 0, none⟩)) := eval_base hsame (by kernel_rfl)
        have hb := hJ.keptBox HBG.out (by simp)
        have q0 : w'.cell? ⟨gG, 0, none⟩ = some (.int .i64 R) := hb.cell 0
        have q1 : w'.cell? ⟨gG, 1, none⟩ = some (.int .i64 K) := hb.cell 1
        have q2 : w'.cell? ⟨gG, 2, none⟩ = some (.slice AG (R * K) cG) := hb.cell 2
        refine Step.val _ rfl rfl (wanted_none rfl) (.agg #[.int .i64 R, .int .i64 K, .slice AG (R * K) cG]) w' (fun ρ hρ => ?_) (hJ.val hRS hcl hL rfl (Below.refl _ _) _ rfl)
        rw [hρ] at e0
        clear hb
        clear hJ hsame hdep hcl hρ hsz
        go_simp
      · intro L a w' hL hsame hsz hJ hdep hcl
        have e0 : a.eval (.tmp 11) = (.pointer (some ⟨gG, 0, none⟩)) := eval_base hsame (by kernel_rfl)
        refine Step.val _ rfl rfl (wanted_none rfl) (.pointer (some ⟨gG, 0, none⟩)) w' (fun ρ hρ => ?_) (hJ.val hRS hcl hL rfl (Below.refl _ _) _ rfl)
        rw [hρ] at e0
        clear hJ hsame hdep hcl hρ hsz
        go_simp
      · intro L a w' hL hsame hsz hJ hdep hcl
        have e0 : a.eval (.tmp 42) = (.pointer (some ⟨gG, 0, none⟩)) := eval_slot (j := 1) (by kernel_rfl) (hJ.valOf (by decide) (dep_of hdep 1 (by kernel_rfl)) rfl rfl)
        have hb := hJ.keptBox HBG.out (by simp)
        have q0 : w'.cell? ⟨gG, 0, none⟩ = some (.int .i64 R) := hb.cell 0
        refine Step.val _ rfl rfl (wanted_none rfl) (.int .i64 R) w' (fun ρ hρ => ?_) (hJ.val hRS hcl hL rfl (Below.refl _ _) _ rfl)
        rw [hρ] at e0
        clear hb
        clear hJ hsame hdep hcl hρ hsz
        go_simp
      · intro L a w' hL hsame hsz hJ hdep hcl
        have e0 : a.eval (.tmp 43) = (.int .i64 R) := eval_slot (j := 2) (by kernel_rfl) (hJ.valOf (by decide) (dep_of hdep 2 (by kernel_rfl)) rfl rfl)
        refine Step.val _ rfl rfl (wanted_none rfl) (.int .i64 ((R : Int) - 1)) w' (fun ρ hρ => ?_) (hJ.val hRS hcl hL rfl (Below.refl _ _) _ rfl)
        rw [hρ] at e0
        have ec0 : ρ (.const (.int .i64 1)) = (.int .i64 1) := (hρ _).symm
        clear hJ hsame hdep hcl hρ hsz
        go_simp
      · intro L a w' hL hsame hsz hJ hdep hcl
        have e0 : a.eval (.tmp 15) = (.int .i64 mm) := eval_base hsame (by kernel_rfl)
        refine Step.val _ rfl rfl (wanted_none rfl) (.int .i64 mm) w' (fun ρ hρ => ?_) (hJ.val hRS hcl hL rfl (Below.refl _ _) _ rfl)
        rw [hρ] at e0
        clear hJ hsame hdep hcl hρ hsz
        go_simp
      · intro L a w' hL hsame hsz hJ hdep hcl
        have e0 : a.eval (.tmp 12) = (.pointer (some ⟨gP, 0, none⟩)) := eval_base hsame (by kernel_rfl)
        have hb := hJ.keptBox BP.out (by simp)
        have q0 : w'.cell? ⟨gP, 0, none⟩ = some (.int .i64 pa) := hb.cell 0
        have q1 : w'.cell? ⟨gP, 1, none⟩ = some (.int .i64 pb) := hb.cell 1
        have q2 : w'.cell? ⟨gP, 2, none⟩ = some (.int .i64 pc) := hb.cell 2
        refine Step.val _ rfl rfl (wanted_none rfl) (.agg #[.int .i64 pa, .int .i64 pb, .int .i64 pc]) w' (fun ρ hρ => ?_) (hJ.val hRS hcl hL rfl (Below.refl _ _) _ rfl)
        rw [hρ] at e0
        clear hb
        clear hJ hsame hdep hcl hρ hsz
        go_simp
      · intro L a w' hL hsame hsz hJ hdep hcl
        have e0 : a.eval (.tmp 41) = (.agg #[.int .i64 R, .int .i64 K, .slice AG (R * K) cG]) := eval_slot (j := 0) (by kernel_rfl) (hJ.valOf (by decide) (dep_of hdep 0 (by kernel_rfl)) rfl rfl)
        have e2 : a.eval (.tmp 44) = (.int .i64 ((R : Int) - 1)) := eval_slot (j := 3) (by kernel_rfl) (hJ.valOf (by decide) (dep_of hdep 3 (by kernel_rfl)) rfl rfl)
        have e3 : a.eval (.tmp 45) = (.int .i64 mm) := eval_slot (j := 4) (by kernel_rfl) (hJ.valOf (by decide) (dep_of hdep 4 (by kernel_rfl)) rfl rfl)
        have e4 : a.eval (.tmp 46) = (.agg #[.int .i64 pa, .int .i64 pb, .int .i64 pc]) := eval_slot (j := 5) (by kernel_rfl) (hJ.valOf (by decide) (dep_of hdep 5 (by kernel_rfl)) rfl rfl)
        refine Step.call _ rfl rfl (wanted_none rfl) 11 #[.agg #[.int .i64 R, .int .i64 K, .slice AG (R * K) cG], .int .i64 0, .int .i64 ((R : Int) - 1), .int .i64 mm, .agg #[.int .i64 pa, .int .i64 pb, .int .i64 pc]] (fun ρ hρ => ?_) ?_
        · skip
          rw [hρ] at e0 e2 e3 e4
          have ec0 : ρ (.const (.int .i64 0)) = (.int .i64 0) := (hρ _).symm
          have ef : ρ (.func 11) = .func (.func 11) #[] #[] := (hρ _).symm
          clear hJ hsame hdep hcl hρ hsz
          go_simp
        · refine (u_up HG.out.1 (HIG.out.low (hJ.kept.toBelow (Nat.le_refl _) (by simp))) 0 ((R : Int) - 1) mm (pa, pb, pc) HP.out (by omega) (by have := HK.out; omega) (by have := HK.out; omega)).mono ?_
          rintro e w2 ⟨v, rfl, hg, bb⟩
          exact ⟨v, rfl, hJ.grid hRS hcl hL rfl bb v hg⟩
      · intro L a w' hL hsame hsz hJ hdep hcl
        have e0 : a.eval (.tmp 11) = (.pointer (some ⟨gG, 0, none⟩)) := eval_base hsame (by kernel_rfl)
        refine Step.val _ rfl rfl (wanted_none rfl) (.pointer (some ⟨gG, 0, none⟩)) w' (fun ρ hρ => ?_) (hJ.val hRS hcl hL rfl (Below.refl _ _) _ rfl)
        rw [hρ] at e0
        clear hJ hsame hdep hcl hρ hsz
        go_simp
      · intro L a w' hL hsame hsz hJ hdep hcl
        have e0 : a.eval (.tmp 48) = (.pointer (some ⟨gG, 0, none⟩)) := eval_slot (j := 7) (by kernel_rfl) (hJ.valOf (by decide) (dep_of hdep 7 (by kernel_rfl)) rfl rfl)
        have hb := hJ.keptBox HBG.out (by simp)
        have q0 : w'.cell? ⟨gG, 0, none⟩ = some (.int .i64 R) := hb.cell 0
        refine Step.val _ rfl rfl (wanted_none rfl) (.int .i64 R) w' (fun ρ hρ => ?_) (hJ.val hRS hcl hL rfl (Below.refl _ _) _ rfl)
        rw [hρ] at e0
        clear hb
        clear hJ hsame hdep hcl hρ hsz
        go_simp
      · intro L a w' hL hsame hsz hJ hdep hcl
        have e0 : a.eval (.tmp 49) = (.int .i64 R) := eval_slot (j := 8) (by kernel_rfl) (hJ.valOf (by decide) (dep_of hdep 8 (by kernel_rfl)) rfl rfl)
        refine Step.val _ rfl rfl (wanted_none rfl) (.int .i64 ((R : Int) - 1)) w' (fun ρ hρ => ?_) (hJ.val hRS hcl hL rfl (Below.refl _ _) _ rfl)
        rw [hρ] at e0
        have ec0 : ρ (.const (.int .i64 1)) = (.int .i64 1) := (hρ _).symm
        clear hJ hsame hdep hcl hρ hsz
        go_simp
      · intro L a w' hL hsame hsz hJ hdep hcl
        have e0 : a.eval (.tmp 15) = (.int .i64 mm) := eval_base hsame (by kernel_rfl)
        refine Step.val _ rfl rfl (wanted_none rfl) (.int .i64 mm) w' (fun ρ hρ => ?_) (hJ.val hRS hcl hL rfl (Below.refl _ _) _ rfl)
        rw [hρ] at e0
        clear hJ hsame hdep hcl hρ hsz
        go_simp
      · intro L a w' hL hsame hsz hJ hdep hcl
        have e0 : a.eval (.tmp 12) = (.pointer (some ⟨gP, 0, none⟩)) := eval_base hsame (by kernel_rfl)
        have hb := hJ.keptBox BP.out (by simp)
        have q0 : w'.cell? ⟨gP, 0, none⟩ = some (.int .i64 pa) := hb.cell 0
        have q1 : w'.cell? ⟨gP, 1, none⟩ = some (.int .i64 pb) := hb.cell 1
        have q2 : w'.cell? ⟨gP, 2, none⟩ = some (.int .i64 pc) := hb.cell 2
        refine Step.val _ rfl rfl (wanted_none rfl) (.agg #[.int .i64 pa, .int .i64 pb, .int .i64 pc]) w' (fun ρ hρ => ?_) (hJ.val hRS hcl hL rfl (Below.refl _ _) _ rfl)
        rw [hρ] at e0
        clear hb
        clear hJ hsame hdep hcl hρ hsz
        go_simp
      · intro L a w' hL hsame hsz hJ hdep hcl
        obtain ⟨v6, hv6, hG6⟩ := hJ.gridAt (j := 6) (by decide) (dep_of hdep 6 (by kernel_rfl)) rfl
        have hG6 : IsG w' (PG.scrollI G 0 ((R : Int) - 1) mm (pa, pb, pc)) v6 := hG6
        have e0 : a.eval (.tmp 47) = v6 := eval_slot (j := 6) (by kernel_rfl) hv6
        have e2 : a.eval (.tmp 50) = (.int .i64 ((R : Int) - 1)) := eval_slot (j := 9) (by kernel_rfl) (hJ.valOf (by decide) (dep_of hdep 9 (by kernel_rfl)) rfl rfl)
        have e3 : a.eval (.tmp 51) = (.int .i64 mm) := eval_slot (j := 10) (by kernel_rfl) (hJ.valOf (by decide) (dep_of hdep 10 (by kernel_rfl)) rfl rfl)
        have e4 : a.eval (.tmp 52) = (.agg #[.int .i64 pa, .int .i64 pb, .int .i64 pc]) := eval_slot (j := 11) (by kernel_rfl) (hJ.valOf (by decide) (dep_of hdep 11 (by kernel_rfl)) rfl rfl)
        refine Step.call _ rfl rfl (wanted_none rfl) 21 #[v6, .int .i64 0, .int .i64 ((R : Int) - 1), .int .i64 mm, .agg #[.int .i64 pa, .int .i64 pb, .int .i64 pc]] (fun ρ hρ => ?_) ?_
        · skip
          rw [hρ] at e0 e2 e3 e4
          have ec0 : ρ (.const (.int .i64 0)) = (.int .i64 0) := (hρ _).symm
          have ef : ρ (.func 21) = .func (.func 21) #[] #[] := (hρ _).symm
          clear hJ hsame hdep hcl hρ hsz
          go_simp
        · refine (u_down (PG.right_scrollI HG.out.1 HP.out _ _ _) hG6 0 ((R : Int) - 1) mm (pa, pb, pc) HP.out (by omega) (by have := HK.out; omega) (by have := HK.out; omega)).mono ?_
          rintro e w2 ⟨v, rfl, hg, bb⟩
          exact ⟨v, rfl, hJ.grid hRS hcl hL rfl bb v hg⟩
      · intro L a w' hL hsame hsz hJ hdep hcl
        refine Step.val _ rfl rfl (wanted_none rfl) (.pointer (some ⟨w'.heap.size, 0, none⟩)) (w'.alloc (.cells #[.int .i64 0, .int .i64 0, .slice none 0 0] 27)) (fun ρ hρ => ?_) (hJ.box hRS hcl hL rfl 27 rfl (.int .i64 0) (.int .i64 0) (.slice none 0 0))
        clear hJ hsame hdep hcl hρ hsz
        go_simp
      · intro L a w' hL hsame hsz hJ hdep hcl
        obtain ⟨sv, hsv, hso⟩ := hJ.gridOf (by decide) (dep_of hdep 12 (by kernel_rfl)) rfl
        obtain ⟨sA, sc, rfl, _⟩ := own_form' hso
        have es : a.eval (.tmp 53) = .agg #[.int .i64 ((PG.scrollI (PG.scrollI G 0 ((R : Int) - 1) mm (pa, pb, pc)) 0 ((R : Int) - 1) (-(mm : Int)) (pa, pb, pc))).rows, .int .i64 ((PG.scrollI (PG.scrollI G 0 ((R : Int) - 1) mm (pa, pb, pc)) 0 ((R : Int) - 1) (-(mm : Int)) (pa, pb, pc))).cols, .slice sA (((PG.scrollI (PG.scrollI G 0 ((R : Int) - 1) mm (pa, pb, pc)) 0 ((R : Int) - 1) (-(mm : Int)) (pa, pb, pc))).rows * ((PG.scrollI (PG.scrollI G 0 ((R : Int) - 1) mm (pa, pb, pc)) 0 ((R : Int) - 1) (-(mm : Int)) (pa, pb, pc))).cols) sc] := eval_slot (j := 12) (by kernel_rfl) hsv
        have la := dep_of hdep 13 (by kernel_rfl)
        obtain ⟨g, cs, hg, hg0, hb, hs3⟩ := hJ.boxOf (by decide) la rfl
        obtain ⟨c0, c1, c2, rfl⟩ := three_of hs3
        obtain ⟨m0, m1, m2, f0, f1, f2⟩ := hb.three
        have ea : a.eval (.tmp 16) = .pointer (some ⟨g, 0, none⟩) := eval_slot (j := 13) (by kernel_rfl) hg
        refine Step.skip _ rfl (wanted_none rfl) (set3 w' g (.int .i64 ((PG.scrollI (PG.scrollI G 0 ((R : Int) - 1) mm (pa, pb, pc)) 0 ((R : Int) - 1) (-(mm : Int)) (pa, pb, pc))).rows) (.int .i64 ((PG.scrollI (PG.scrollI G 0 ((R : Int) - 1) mm (pa, pb, pc)) 0 ((R : Int) - 1) (-(mm : Int)) (pa, pb, pc))).cols) (.slice sA (((PG.scrollI (PG.scrollI G 0 ((R : Int) - 1) mm (pa, pb, pc)) 0 ((R : Int) - 1) (-(mm : Int)) (pa, pb, pc))).rows * ((PG.scrollI (PG.scrollI G 0 ((R : Int) - 1) mm (pa, pb, pc)) 0 ((R : Int) - 1) (-(mm : Int)) (pa, pb, pc))).cols) sc)) (fun ρ hρ => ?_) (hJ.put hRS hcl hL rfl la (dep_of hdep 12 (by kernel_rfl)) hg hsv)
        rw [hρ] at es ea
        clear hJ hsame hdep hcl hρ hsz hg hb hso hsv
        unfold set3
        go_simp
      · intro L a w' hsame hsz hJ hall
        obtain ⟨u, hu, ha⟩ := act_puts hsame
        have h : (GVar wc.heap.size (PG.scrollI (PG.scrollI G 0 ((R : Int) - 1) mm (pa, pb, pc)) 0 ((R : Int) - 1) (-(mm : Int)) (pa, pb, pc)) (u 13) w') ∧ Below wc.heap.size wc w' := by
          (try simp only [hu])
          exact (And.intro (hJ.var hall 14 (by decide) rfl rfl (by decide) rfl (by decide) rfl) (hJ.kept.toBelow (Nat.le_refl _) (by simp)))
        have h := hide h
        clear hJ hall hsz hu hsame
        subst ha
        change Exit.then _ _ Exit.normal (Act.put (Act.put (Act.put (Act.put (Act.put (Act.put (Act.put (Act.put (Act.put (Act.put (Act.put (Act.put (Act.put (Act.put (Act.put (putAll _ u 0 _) (some 41) (u 0)) (some 42) (u 1)) (some 43) (u 2)) (some 44) (u 3)) (some 45) (u 4)) (some 46) (u 5)) (some 47) (u 6)) (some 48) (u 7)) (some 49) (u 8)) (some 50) (u 9)) (some 51) (u 10)) (some 52) (u 11)) (some 53) (u 12)) (some 16) (u 13)) none (u 14)) _
        simp only [putAll]
        generalize u 0 = v0
        generalize u 1 = v1
        generalize u 2 = v2
        generalize u 3 = v3
        generalize u 4 = v4
        generalize u 5 = v5
        generalize u 6 = v6
        generalize u 7 = v7
        generalize u 8 = v8
        generalize u 9 = v9
        generalize u 10 = v10
        generalize u 11 = v11
        generalize u 12 = v12
        generalize u 13 = v13 at h ⊢
        generalize u 14 = v14
        go_simp
        go_step
        go_meet
        exact h.out
  case rest =>
  obtain ⟨⟨gU, rfl, -, hU⟩, bc⟩ := hcut
  have BB := hide (BB.out.trans (bc.mono BB.out.size))
  have SP := hide (SP.out.keep bc)
  have HBG := hide (HBG.out.below bc HBG.out.lt)
  have HIG := hide (HIG.out.low bc)
  have BP := hide (BP.out.below bc BP.out.lt)
  have hus : (PG.scrollI (PG.scrollI G 0 ((R : Int) - 1) mm (pa, pb, pc)) 0 ((R : Int) - 1) (-(mm : Int)) (pa, pb, pc)).rows = R ∧ (PG.scrollI (PG.scrollI G 0 ((R : Int) - 1) mm (pa, pb, pc)) 0 ((R : Int) - 1) (-(mm : Int)) (pa, pb, pc)).cols = K := ⟨((PG.scrollI_size ..).1.trans (PG.scrollI_size ..).1).trans HG.out.2.1, ((PG.scrollI_size ..).2.trans (PG.scrollI_size ..).2).trans HG.out.2.2⟩
  have hur : PG.RightG (PG.scrollI (PG.scrollI G 0 ((R : Int) - 1) mm (pa, pb, pc)) 0 ((R : Int) - 1) (-(mm : Int)) (pa, pb, pc)) := PG.right_scrollI (PG.right_scrollI HG.out.1 HP.out _ _ _) HP.out _ _ _
  have hub : ∀ y x : Nat, y < R → (PG.scrollI (PG.scrollI G 0 ((R : Int) - 1) mm (pa, pb, pc)) 0 ((R : Int) - 1) (-(mm : Int)) (pa, pb, pc)).f y x = if mm ≤ y then G.f y x else PG.blank (pa, pb, pc) := fun y x hy => by
    have h1 := HG.out.2.1
    rw [PG.scrollI_all (g := (PG.scrollI G 0 ((R : Int) - 1) mm (pa, pb, pc))) ((PG.scrollI_size ..).1.trans h1) HK.out.1.1, PG.scrollI_all h1 HK.out.1.1, (PG.scroll_size ..).1]
    exact PG.scroll_back (by have := HK.out; omega) mm (pa, pb, pc) (by omega) x
  obtain ⟨AU, cU, hbu, -, -, -, hiu⟩ := hU.open_ hus.1 hus.2
  generalize (PG.scrollI (PG.scrollI G 0 ((R : Int) - 1) mm (pa, pb, pc)) 0 ((R : Int) - 1) (-(mm : Int)) (pa, pb, pc)) = U at hus hur hub hiu
  have HU := hide (show PG.RightG U ∧ U.rows = R ∧ U.cols = K from ⟨hur, hus⟩)
  have HUB := hide hub
  have HBU := hide (show Box wc gU 27 #[.int .i64 R, .int .i64 K, .slice AU (R * K) cU] from hbu)
  have HIU := hide (show IsG wc U (.agg #[.int .i64 R, .int .i64 K, .slice AU (R * K) cU]) from hiu)
  clear bc hU hus hur hub hbu hiu
  go_upto_block 0 with fail
  go_cut [17] (fun _ wx => Below wc.heap.size wc wx)
  case first =>
    as_aux_lemma =>
      go_wp2_with fail
      go_loopw [17] (fun i wr => ∃ y : Nat, y ≤ R ∧ i = .int .i64 y ∧ Hid (Below wc.heap.size wc wr)) (fun i _ => R - (intOf i).toNat)
      case atStart => exact ⟨0, by omega, rfl, hide (Below.refl _ _)⟩
      case round =>
        obtain ⟨y, hyR, rfl, bx⟩ := hrel
        have mk0 : wr.cell? ⟨gG, 0, none⟩ = some (.int .i64 R) := (HBG.out.below bx.out HBG.out.lt).cell 0
        have hb5 : R ≤ 5 := HK.out.1.2.1
        have hb9 : K ≤ 9 := HK.out.1.2.2.2
        by_cases hy : y < R
        · clear hsR
          have HY := hide hy
          go_wp2_with fail
          clear mk0
          go_loopw [18] (fun i wi => ∃ x : Nat, x ≤ K ∧ i = .int .i64 x ∧ Hid (Below wc.heap.size wc wi)) (fun i _ => K - (intOf i).toNat)
          case atStart => exact ⟨0, by omega, rfl, bx⟩
          case round =>
            clear bx
            obtain ⟨x, hxK, rfl, bx⟩ := hrel
            rename World => wi
            have HBGi := hide (HBG.out.below bx.out HBG.out.lt)
            have HIGi := hide (HIG.out.low bx.out)
            have mk1 : wi.cell? ⟨gG, 1, none⟩ = some (.int .i64 K) := HBGi.out.cell 1
            by_cases hx : x < K
            · obtain ⟨F, hF⟩ : ∃ F, G.f y x = F := ⟨_, rfl⟩
              obtain ⟨F2, hF2⟩ : ∃ F, U.f y x = F := ⟨_, rfl⟩
              have hfe := HUB.out y x HY.out
              rw [hF, hF2] at hfe
              have HFE := hide hfe
              have HX := hide hx
              clear hfe
              go_upto_region 11 with fail
              clear mk1
              go_cut [19, 20] from 60 to 98 (fun u v wx => (CBox F u wx ∧ v = .bool true) ∧ Below wi.heap.size wi wx)
              case first =>
                as_aux_lemma =>
                  have AT := hide (u_atc HG.out.1 HIGi.out y x (by rw [HG.out.2.1]; exact HY.out) (by rw [HG.out.2.2]; exact HX.out) hF)
                  obtain ⟨m0, m1, m2, -, -, -⟩ := Box.three (a := .int .i64 R) (b := .int .i64 K) (c := .slice AG (R * K) cG) HBGi.out
                  go_wp2_with (
                    go_at_call 27
                    go_must (refine AT.out.mono ?_)
                    rintro e w2 ⟨rfl, b2⟩
                    have b2 := hide b2
                    clear m0 m1 m2)
                  go_meet
                  exact ⟨⟨⟨_, rfl, Box.new _ _ _⟩, rfl⟩, b2.out.alloc (by have := b2.out.size; omega) _⟩
              case rest =>
              obtain ⟨⟨⟨g19, rfl, h19⟩, rfl⟩, bc⟩ := hcut
              have bx := hide (bx.out.trans (bc.mono bx.out.size))
              have H19 := hide h19
              clear bc h19 HBGi HIGi hF
              have HBUi := hide (HBU.out.below bx.out HBU.out.lt)
              have HIUi := hide (HIU.out.low bx.out)
              go_upto_region 12 with fail
              go_cut [21, 22] from 60 to 98 (fun u v wx => (CBox F2 u wx ∧ v = .bool true) ∧ Below wc.heap.size wc wx)
              case first =>
                as_aux_lemma =>
                  have AT := hide (u_atc HU.out.1 HIUi.out y x (by rw [HU.out.2.1]; exact HY.out) (by rw [HU.out.2.2]; exact HX.out) hF2)
                  obtain ⟨m0, m1, m2, -, -, -⟩ := Box.three (a := .int .i64 R) (b := .int .i64 K) (c := .slice AU (R * K) cU) HBUi.out
                  go_wp2_with (
                    go_at_call 27
                    go_must (refine AT.out.mono ?_)
                    rintro e w2 ⟨rfl, b2⟩
                    have b2 := hide b2
                    clear m0 m1 m2)
                  go_meet
                  exact ⟨⟨⟨_, rfl, Box.new _ _ _⟩, rfl⟩, b2.out.alloc (by have := b2.out.size; omega) _⟩
              case rest =>
              obtain ⟨⟨⟨g21, rfl, h21⟩, rfl⟩, bc⟩ := hcut
              have bx := hide (bx.out.trans (bc.mono bx.out.size))
              have H19 := hide (H19.out.below bc H19.out.lt)
              have H21 := hide h21
              have BPi := hide (BP.out.below bx.out BP.out.lt)
              clear bc h21 HBUi HIUi hF2
              have y0 : wc.cell? ⟨g19, 0, none⟩ = some (.int .i32 (PG.rn F)) := H19.out.cell 0
              have y1 : wc.cell? ⟨g19, 1, none⟩ = some (.int .i64 (PG.kd F)) := H19.out.cell 1
              have y2 : wc.cell? ⟨g19, 2, none⟩ = some (.int .i64 (PG.pn F).1) := H19.out.cell 2
              have y3 : wc.cell? ⟨g19, 3, none⟩ = some (.int .i64 (PG.pn F).2.1) := H19.out.cell 3
              have y4 : wc.cell? ⟨g19, 4, none⟩ = some (.int .i64 (PG.pn F).2.2) := H19.out.cell 4
              by_cases hle : mm ≤ y
              · obtain rfl : F2 = F := HFE.out.trans (if_pos hle)
                have z0 : wc.cell? ⟨g21, 0, none⟩ = some (.int .i32 (PG.rn F2)) := H21.out.cell 0
                have z1 : wc.cell? ⟨g21, 1, none⟩ = some (.int .i64 (PG.kd F2)) := H21.out.cell 1
                have z2 : wc.cell? ⟨g21, 2, none⟩ = some (.int .i64 (PG.pn F2).1) := H21.out.cell 2
                have z3 : wc.cell? ⟨g21, 3, none⟩ = some (.int .i64 (PG.pn F2).2.1) := H21.out.cell 3
                have z4 : wc.cell? ⟨g21, 4, none⟩ = some (.int .i64 (PG.pn F2).2.2) := H21.out.cell 4
                have c1 : (mm : Int) ≤ (y : Int) := by omega
                clear HFE hle
                go_wp2_with fail
                go_roundw
                case rel => exact ⟨x + 1, by have := HX.out; omega, by go_num, bx⟩
                case measure => exact meas_succ HX.out
              · obtain rfl : F2 = PG.blank (pa, pb, pc) := HFE.out.trans (if_neg hle)
                have z0 : wc.cell? ⟨g21, 0, none⟩ = some (.int .i32 32) := H21.out.cell 0
                have z1 : wc.cell? ⟨g21, 1, none⟩ = some (.int .i64 0) := H21.out.cell 1
                have z2 : wc.cell? ⟨g21, 2, none⟩ = some (.int .i64 pa) := H21.out.cell 2
                have z3 : wc.cell? ⟨g21, 3, none⟩ = some (.int .i64 pb) := H21.out.cell 3
                have z4 : wc.cell? ⟨g21, 4, none⟩ = some (.int .i64 pc) := H21.out.cell 4
                have p0 : wc.cell? ⟨gP, 0, none⟩ = some (.int .i64 pa) := BPi.out.cell 0
                have p1 : wc.cell? ⟨gP, 1, none⟩ = some (.int .i64 pb) := BPi.out.cell 1
                have p2 : wc.cell? ⟨gP, 2, none⟩ = some (.int .i64 pc) := BPi.out.cell 2
                have c1 : (y : Int) < (mm : Int) := by omega
                clear HFE hle
                go_wp2_with fail
                go_roundw
                case rel => exact ⟨x + 1, by have := HX.out; omega, by go_num, bx⟩
                case measure => exact meas_succ HX.out
            · obtain rfl : x = K := by omega
              go_wp2_with fail
              go_roundw
              case rel => exact ⟨y + 1, by have := HY.out; omega, by go_num, bx⟩
              case measure => exact meas_succ HY.out
        · go_wp2_with fail
          go_meet
          exact bx.out
  case rest =>
  have bc := hcut
  have BB := hide (BB.out.trans (bc.mono BB.out.size))
  have SP := hide (SP.out.keep bc)
  have HBG := hide (HBG.out.below bc HBG.out.lt)
  have HIG := hide (HIG.out.low bc)
  have BP := hide (BP.out.below bc BP.out.lt)
  clear bc hcut HBU HIU HU HUB
  go_upto_region 15 with fail
  go_cut [23] (fun u wx => GVar wc.heap.size (PG.shiftI G row col mm (pa, pb, pc)) u wx ∧ Below wc.heap.size wc wx)
  case first =>
    as_aux_lemma =>
      clear hsR
      obtain ⟨m0, m1, m2, -, -, -⟩ := Box.three (a := .int .i64 R) (b := .int .i64 K) (c := .slice AG (R * K) cG) HBG.out
      obtain ⟨q0, q1, q2, -, -, -⟩ := BP.out.three
      have IN := hide (u_insert HG.out.1 HIG.out row col mm (pa, pb, pc) HP.out (by have := HK.out; omega) (by have := HK.out; omega) (by have := HK.out; omega))
      go_wp2_with (
        go_at_call 13
        go_must (refine IN.out.mono ?_)
        rintro e w3 ⟨v, rfl, ⟨s, rfl, ho⟩, b3⟩
        obtain ⟨sA, sc, rfl, _⟩ := own_form' ho
        have b3 := hide b3
        have ho := hide ho
        clear m0 m1 m2 q0 q1 q2
        unfold gv)
      go_meet
      exact ⟨⟨_, rfl, b3.out.size, _, Box.new _ _ _, _, rfl, own_low ho.out ((Below.refl _ _).alloc (Nat.le_refl _) _)⟩, b3.out.alloc (by have := b3.out.size; omega) _⟩
  case rest =>
  obtain ⟨⟨gI, rfl, -, hI⟩, bc⟩ := hcut
  have BB := hide (BB.out.trans (bc.mono BB.out.size))
  have SP := hide (SP.out.keep bc)
  have HBG := hide (HBG.out.below bc HBG.out.lt)
  have HIG := hide (HIG.out.low bc)
  have BP := hide (BP.out.below bc BP.out.lt)
  have his : (PG.shiftI G row col mm (pa, pb, pc)).rows = R ∧ (PG.shiftI G row col mm (pa, pb, pc)).cols = K := ⟨(PG.shiftI_size ..).1.trans HG.out.2.1, (PG.shiftI_size ..).2.trans HG.out.2.2⟩
  have hir : PG.RightG (PG.shiftI G row col mm (pa, pb, pc)) := PG.right_shiftI HG.out.1 HP.out _ _ _
  have hif : ∀ y : Nat, y ≠ row → (PG.shiftI G row col mm (pa, pb, pc)).f y = G.f y := fun y hy => by
    rw [PG.shiftI_in]
    exact PG.shift_far hy
  obtain ⟨AI, cI, hbi, -, -, -, hii⟩ := hI.open_ his.1 his.2
  generalize (PG.shiftI G row col mm (pa, pb, pc)) = N at his hir hif hii
  have HN := hide (show PG.RightG N ∧ N.rows = R ∧ N.cols = K from ⟨hir, his⟩)
  have HNF := hide hif
  have HBI := hide (show Box wc gI 27 #[.int .i64 R, .int .i64 K, .slice AI (R * K) cI] from hbi)
  have HII := hide (show IsG wc N (.agg #[.int .i64 R, .int .i64 K, .slice AI (R * K) cI]) from hii)
  clear bc hI his hir hif hbi hii
  go_upto_block 4 with fail
  go_cut [24] (fun _ wx => Below wc.heap.size wc wx)
  case first =>
    as_aux_lemma =>
      go_wp2_with fail
      go_loopw [24] (fun i wr => ∃ y : Nat, y ≤ R ∧ i = .int .i64 y ∧ Hid (Below wc.heap.size wc wr)) (fun i _ => R - (intOf i).toNat)
      case atStart => exact ⟨0, by omega, rfl, hide (Below.refl _ _)⟩
      case round =>
        obtain ⟨y, hyR, rfl, bx⟩ := hrel
        have HBGr := hide (HBG.out.below bx.out HBG.out.lt)
        have HIGr := hide (HIG.out.low bx.out)
        have mk0 : wr.cell? ⟨gG, 0, none⟩ = some (.int .i64 R) := HBGr.out.cell 0
        have hb5 : R ≤ 5 := HK.out.1.2.1
        clear hsR
        by_cases hy : y < R
        · have HBIr := hide (HBI.out.below bx.out HBI.out.lt)
          have HIIr := hide (HII.out.low bx.out)
          have HY := hide hy
          go_upto_region 19 with fail
          clear mk0
          go_cut [122] from 105 to 121 (fun u wx => u = .bool false ∧ Below wr.heap.size wr wx)
          case first =>
            as_aux_lemma =>
              by_cases hyr : y = row
              · obtain rfl := hyr
                refine wp_region_rj (n := 177) [] (fun _ => #[]) [(0, 0, 0, 0), (0, 0, 0, 0), (0, 0, 0, 0), (0, 0, 0, 0), (0, 0, 0, 0), (0, 0, 0, 0), (0, 0, 0, 0), (0, 0, 0, 0), (0, 0, 0, 0), (0, 0, 0, 0), (0, 0, 0, 0), (0, 0, 0, 0)] (fun j => [(.int .i64 y), (.int .i64 y), (.bool false), (.bool false), undef, undef, undef, undef, undef, undef, undef, (.bool false)].getD j undef) (fun j => [PG.dflt, PG.dflt, PG.dflt, PG.dflt, PG.dflt, PG.dflt, PG.dflt, PG.dflt, PG.dflt, PG.dflt, PG.dflt, PG.dflt].getD j PG.dflt) (fun _ => 0) (by kernel_rfl) (by kernel_rfl) (by kernel_rfl) rfl (by kernel_rfl) (no4 rfl) (fun i j h => by revert h; exact no4 (p := fun _ => _) rfl i) (fun hRS => cases12 ⟨?_, ?_, ?_, ?_, ?_, ?_, ?_, ?_, ?_, ?_, ?_, ?_⟩) ?_
                · intro L a w' hL hsame hsz hJ hdep hcl
                  have e0 : a.eval (.tmp 24) = (.int .i64 y) := eval_base hsame (by kernel_rfl)
                  refine Step.val _ rfl rfl (wanted_none rfl) (.int .i64 y) w' (fun ρ hρ => ?_) (hJ.val hRS hcl hL rfl (Below.refl _ _) _ rfl)
                  rw [hρ] at e0
                  clear hJ hsame hdep hcl hρ hsz
                  go_simp
                · intro L a w' hL hsame hsz hJ hdep hcl
                  have e0 : a.eval (.tmp 13) = (.int .i64 y) := eval_base hsame (by kernel_rfl)
                  refine Step.val _ rfl rfl (wanted_none rfl) (.int .i64 y) w' (fun ρ hρ => ?_) (hJ.val hRS hcl hL rfl (Below.refl _ _) _ rfl)
                  rw [hρ] at e0
                  clear hJ hsame hdep hcl hρ hsz
                  go_simp
                · intro L a w' hL hsame hsz hJ hdep hcl
                  have e0 : a.eval (.tmp 111) = (.int .i64 y) := eval_slot (j := 0) (by kernel_rfl) (hJ.valOf (by decide) (dep_of hdep 0 (by kernel_rfl)) rfl rfl)
                  have e1 : a.eval (.tmp 112) = (.int .i64 y) := eval_slot (j := 1) (by kernel_rfl) (hJ.valOf (by decide) (dep_of hdep 1 (by kernel_rfl)) rfl rfl)
                  refine Step.val _ rfl rfl (wanted_none rfl) (.bool false) w' (fun ρ hρ => ?_) (hJ.val hRS hcl hL rfl (Below.refl _ _) _ rfl)
                  rw [hρ] at e0 e1
                  clear hJ hsame hdep hcl hρ hsz
                  go_simp
                · intro L a w' hL hsame hsz hJ hdep hcl
                  have e0 : a.eval (.tmp 113) = (.bool false) := eval_slot (j := 2) (by kernel_rfl) (hJ.valOf (by decide) (dep_of hdep 2 (by kernel_rfl)) rfl rfl)
                  refine Step.val _ rfl rfl (wanted_none rfl) (.bool false) w' (fun ρ hρ => ?_) (hJ.val hRS hcl hL rfl (Below.refl _ _) _ rfl)
                  rw [hρ] at e0
                  clear hJ hsame hdep hcl hρ hsz
                  go_simp
                · intro L a w' hL hsame hsz hJ hdep hcl
                  have gd : valOf _ 3 a = .bool false := hJ.valOf (by decide) (dep_of hdep 3 (by kernel_rfl)) rfl rfl
                  exact Step.pass _ rfl (wanted_not (g := 3) (b := true) (c := false) rfl gd (by decide)) (hJ.val hRS hcl hL rfl (Below.refl _ _) _ rfl)
                · intro L a w' hL hsame hsz hJ hdep hcl
                  have gd : valOf _ 3 a = .bool false := hJ.valOf (by decide) (dep_of hdep 3 (by kernel_rfl)) rfl rfl
                  exact Step.pass _ rfl (wanted_not (g := 3) (b := true) (c := false) rfl gd (by decide)) (hJ.val hRS hcl hL rfl (Below.refl _ _) _ rfl)
                · intro L a w' hL hsame hsz hJ hdep hcl
                  have gd : valOf _ 3 a = .bool false := hJ.valOf (by decide) (dep_of hdep 3 (by kernel_rfl)) rfl rfl
                  exact Step.pass _ rfl (wanted_not (g := 3) (b := true) (c := false) rfl gd (by decide)) (hJ.val hRS hcl hL rfl (Below.refl _ _) _ rfl)
                · intro L a w' hL hsame hsz hJ hdep hcl
                  have gd : valOf _ 3 a = .bool false := hJ.valOf (by decide) (dep_of hdep 3 (by kernel_rfl)) rfl rfl
                  exact Step.pass _ rfl (wanted_not (g := 3) (b := true) (c := false) rfl gd (by decide)) (hJ.val hRS hcl hL rfl (Below.refl _ _) _ rfl)
                · intro L a w' hL hsame hsz hJ hdep hcl
                  have gd : valOf _ 3 a = .bool false := hJ.valOf (by decide) (dep_of hdep 3 (by kernel_rfl)) rfl rfl
                  exact Step.pass _ rfl (wanted_not (g := 3) (b := true) (c := false) rfl gd (by decide)) (hJ.val hRS hcl hL rfl (Below.refl _ _) _ rfl)
                · intro L a w' hL hsame hsz hJ hdep hcl
                  have gd : valOf _ 3 a = .bool false := hJ.valOf (by decide) (dep_of hdep 3 (by kernel_rfl)) rfl rfl
                  exact Step.pass _ rfl (wanted_not (g := 3) (b := true) (c := false) rfl gd (by decide)) (hJ.val hRS hcl hL rfl (Below.refl _ _) _ rfl)
                · intro L a w' hL hsame hsz hJ hdep hcl
                  have gd : valOf _ 3 a = .bool false := hJ.valOf (by decide) (dep_of hdep 3 (by kernel_rfl)) rfl rfl
                  exact Step.pass _ rfl (wanted_not (g := 3) (b := true) (c := false) rfl gd (by decide)) (hJ.val hRS hcl hL rfl (Below.refl _ _) _ rfl)
                · intro L a w' hL hsame hsz hJ hdep hcl
                  have e0 : a.eval (.tmp 114) = (.bool false) := eval_slot (j := 3) (by kernel_rfl) (hJ.valOf (by decide) (dep_of hdep 3 (by kernel_rfl)) rfl rfl)
                  have e1 : a.eval (.tmp 121) = undef := eval_slot (j := 10) (by kernel_rfl) (hJ.valOf (by decide) (dep_of hdep 10 (by kernel_rfl)) rfl rfl)
                  refine Step.val _ rfl rfl (wanted_none rfl) (.bool false) w' (fun ρ hρ => ?_) (hJ.val hRS hcl hL rfl (Below.refl _ _) _ rfl)
                  rw [hρ] at e0 e1
                  have ec0 : ρ (.const (.bool false)) = (.bool false) := (hρ _).symm
                  clear hJ hsame hdep hcl hρ hsz
                  go_simp
                · intro L a w' hsame hsz hJ hall
                  obtain ⟨u, hu, ha⟩ := act_puts hsame
                  have h : (u 11 = .bool false) ∧ Below wr.heap.size wr w' := by
                    (try simp only [hu])
                    exact (And.intro (hJ.valOf (j := 11) (by decide) (hall 11 (by decide)) rfl rfl) (hJ.kept.toBelow (Nat.le_refl _) (by simp)))
                  have h := hide h
                  clear hJ hall hsz hu hsame
                  subst ha
                  change Exit.then _ _ Exit.normal (Act.put (Act.put (Act.put (Act.put (Act.put (Act.put (Act.put (Act.put (Act.put (Act.put (Act.put (Act.put (putAll _ u 0 _) (some 111) (u 0)) (some 112) (u 1)) (some 113) (u 2)) (some 114) (u 3)) (some 115) (u 4)) (some 116) (u 5)) (some 117) (u 6)) (some 118) (u 7)) (some 119) (u 8)) (some 120) (u 9)) (some 121) (u 10)) (some 122) (u 11)) _
                  simp only [putAll]
                  generalize u 0 = v0
                  generalize u 1 = v1
                  generalize u 2 = v2
                  generalize u 3 = v3
                  generalize u 4 = v4
                  generalize u 5 = v5
                  generalize u 6 = v6
                  generalize u 7 = v7
                  generalize u 8 = v8
                  generalize u 9 = v9
                  generalize u 10 = v10
                  generalize u 11 = v11 at h ⊢
                  go_simp
                  go_step
                  go_meet
                  exact h.out
              · have hq : ((y : Int) == (row : Int)) = false := by simp; omega
                have hq2 : ¬ (y : Int) = (row : Int) := by omega
                obtain ⟨TS, hTS⟩ : ∃ S, strOfNums (PG.text (G.f y) K) = S := ⟨_, rfl⟩
                have TXG := hide (show ∀ (w' : World) (v : Value), IsG w' G v → Calls Tryd.prog 12 #[v, .int .i64 y] w' fun e w'' => e = .returned (.string TS) ∧ Below w'.heap.size w' w'' from fun w' v h => by
                  have := u_text HG.out.1 h y (by rw [HG.out.2.1]; exact HY.out)
                  rw [HG.out.2.2, hTS] at this
                  exact this)
                have TXI := hide (show ∀ (w' : World) (v : Value), IsG w' N v → Calls Tryd.prog 12 #[v, .int .i64 y] w' fun e w'' => e = .returned (.string TS) ∧ Below w'.heap.size w' w'' from fun w' v h => by
                  have := u_text HN.out.1 h y (by rw [HN.out.2.1]; exact HY.out)
                  rw [HN.out.2.2, HNF.out y hyr, hTS] at this
                  exact this)
                clear hTS hyr
                refine wp_region_rj (n := 177) [] (fun _ => #[]) [(0, 0, 0, 0), (0, 0, 0, 0), (0, 0, 0, 0), (0, 0, 0, 0), (0, 0, 0, 0), (0, 0, 0, 0), (0, 0, 0, 0), (0, 0, 0, 0), (0, 0, 0, 0), (0, 0, 0, 0), (0, 0, 0, 0), (0, 0, 0, 0)] (fun j => [(.int .i64 y), (.int .i64 row), (.bool true), (.bool true), (.agg #[.int .i64 R, .int .i64 K, .slice AI (R * K) cI]), (.int .i64 y), (.string TS), (.agg #[.int .i64 R, .int .i64 K, .slice AG (R * K) cG]), (.int .i64 y), (.string TS), (.bool false), (.bool false)].getD j undef) (fun j => [PG.dflt, PG.dflt, PG.dflt, PG.dflt, PG.dflt, PG.dflt, PG.dflt, PG.dflt, PG.dflt, PG.dflt, PG.dflt, PG.dflt].getD j PG.dflt) (fun _ => 0) (by kernel_rfl) (by kernel_rfl) (by kernel_rfl) rfl (by kernel_rfl) (no4 rfl) (fun i j h => by revert h; exact no4 (p := fun _ => _) rfl i) (fun hRS => cases12 ⟨?_, ?_, ?_, ?_, ?_, ?_, ?_, ?_, ?_, ?_, ?_, ?_⟩) ?_
                · intro L a w' hL hsame hsz hJ hdep hcl
                  have e0 : a.eval (.tmp 24) = (.int .i64 y) := eval_base hsame (by kernel_rfl)
                  refine Step.val _ rfl rfl (wanted_none rfl) (.int .i64 y) w' (fun ρ hρ => ?_) (hJ.val hRS hcl hL rfl (Below.refl _ _) _ rfl)
                  rw [hρ] at e0
                  clear hJ hsame hdep hcl hρ hsz
                  go_simp
                · intro L a w' hL hsame hsz hJ hdep hcl
                  have e0 : a.eval (.tmp 13) = (.int .i64 row) := eval_base hsame (by kernel_rfl)
                  refine Step.val _ rfl rfl (wanted_none rfl) (.int .i64 row) w' (fun ρ hρ => ?_) (hJ.val hRS hcl hL rfl (Below.refl _ _) _ rfl)
                  rw [hρ] at e0
                  clear hJ hsame hdep hcl hρ hsz
                  go_simp
                · intro L a w' hL hsame hsz hJ hdep hcl
                  have e0 : a.eval (.tmp 111) = (.int .i64 y) := eval_slot (j := 0) (by kernel_rfl) (hJ.valOf (by decide) (dep_of hdep 0 (by kernel_rfl)) rfl rfl)
                  have e1 : a.eval (.tmp 112) = (.int .i64 row) := eval_slot (j := 1) (by kernel_rfl) (hJ.valOf (by decide) (dep_of hdep 1 (by kernel_rfl)) rfl rfl)
                  refine Step.val _ rfl rfl (wanted_none rfl) (.bool true) w' (fun ρ hρ => ?_) (hJ.val hRS hcl hL rfl (Below.refl _ _) _ rfl)
                  rw [hρ] at e0 e1
                  clear hJ hsame hdep hcl hρ hsz
                  go_simp
                · intro L a w' hL hsame hsz hJ hdep hcl
                  have e0 : a.eval (.tmp 113) = (.bool true) := eval_slot (j := 2) (by kernel_rfl) (hJ.valOf (by decide) (dep_of hdep 2 (by kernel_rfl)) rfl rfl)
                  refine Step.val _ rfl rfl (wanted_none rfl) (.bool true) w' (fun ρ hρ => ?_) (hJ.val hRS hcl hL rfl (Below.refl _ _) _ rfl)
                  rw [hρ] at e0
                  clear hJ hsame hdep hcl hρ hsz
                  go_simp
                · intro L a w' hL hsame hsz hJ hdep hcl
                  have gd : valOf _ 3 a = .bool true := hJ.valOf (by decide) (dep_of hdep 3 (by kernel_rfl)) rfl rfl
                  have e0 : a.eval (.tmp 23) = (.pointer (some ⟨gI, 0, none⟩)) := eval_base hsame (by kernel_rfl)
                  have hb := hJ.keptBox HBIr.out (by simp)
                  have q0 : w'.cell? ⟨gI, 0, none⟩ = some (.int .i64 R) := hb.cell 0
                  have q1 : w'.cell? ⟨gI, 1, none⟩ = some (.int .i64 K) := hb.cell 1
                  have q2 : w'.cell? ⟨gI, 2, none⟩ = some (.slice AI (R * K) cI) := hb.cell 2
                  refine Step.val _ rfl rfl (wanted_some (g := 3) (b := true) rfl gd) (.agg #[.int .i64 R, .int .i64 K, .slice AI (R * K) cI]) w' (fun ρ hρ => ?_) (hJ.val hRS hcl hL rfl (Below.refl _ _) _ rfl)
                  rw [hρ] at e0
                  clear hb
                  clear hJ hsame hdep hcl hρ hsz gd
                  go_simp
                · intro L a w' hL hsame hsz hJ hdep hcl
                  have gd : valOf _ 3 a = .bool true := hJ.valOf (by decide) (dep_of hdep 3 (by kernel_rfl)) rfl rfl
                  have e0 : a.eval (.tmp 24) = (.int .i64 y) := eval_base hsame (by kernel_rfl)
                  refine Step.val _ rfl rfl (wanted_some (g := 3) (b := true) rfl gd) (.int .i64 y) w' (fun ρ hρ => ?_) (hJ.val hRS hcl hL rfl (Below.refl _ _) _ rfl)
                  rw [hρ] at e0
                  clear hJ hsame hdep hcl hρ hsz gd
                  go_simp
                · intro L a w' hL hsame hsz hJ hdep hcl
                  have gd : valOf _ 3 a = .bool true := hJ.valOf (by decide) (dep_of hdep 3 (by kernel_rfl)) rfl rfl
                  have e0 : a.eval (.tmp 115) = (.agg #[.int .i64 R, .int .i64 K, .slice AI (R * K) cI]) := eval_slot (j := 4) (by kernel_rfl) (hJ.valOf (by decide) (dep_of hdep 4 (by kernel_rfl)) rfl rfl)
                  have e1 : a.eval (.tmp 116) = (.int .i64 y) := eval_slot (j := 5) (by kernel_rfl) (hJ.valOf (by decide) (dep_of hdep 5 (by kernel_rfl)) rfl rfl)
                  refine Step.call _ rfl rfl (wanted_some (g := 3) (b := true) rfl gd) 12 #[.agg #[.int .i64 R, .int .i64 K, .slice AI (R * K) cI], .int .i64 y] (fun ρ hρ => ?_) ?_
                  · skip
                    rw [hρ] at e0 e1
                    have ef : ρ (.func 12) = .func (.func 12) #[] #[] := (hρ _).symm
                    clear hJ hsame hdep hcl hρ hsz gd
                    go_simp
                  · refine (TXI.out w' _ (HIIr.out.low (hJ.kept.toBelow (Nat.le_refl _) (by simp)))).mono ?_
                    rintro e w2 ⟨rfl, bb⟩
                    exact ⟨_, rfl, hJ.val hRS hcl hL rfl bb _ rfl⟩
                · intro L a w' hL hsame hsz hJ hdep hcl
                  have gd : valOf _ 3 a = .bool true := hJ.valOf (by decide) (dep_of hdep 3 (by kernel_rfl)) rfl rfl
                  have e0 : a.eval (.tmp 11) = (.pointer (some ⟨gG, 0, none⟩)) := eval_base hsame (by kernel_rfl)
                  have hb := hJ.keptBox HBGr.out (by simp)
                  have q0 : w'.cell? ⟨gG, 0, none⟩ = some (.int .i64 R) := hb.cell 0
                  have q1 : w'.cell? ⟨gG, 1, none⟩ = some (.int .i64 K) := hb.cell 1
                  have q2 : w'.cell? ⟨gG, 2, none⟩ = some (.slice AG (R * K) cG) := hb.cell 2
                  refine Step.val _ rfl rfl (wanted_some (g := 3) (b := true) rfl gd) (.agg #[.int .i64 R, .int .i64 K, .slice AG (R * K) cG]) w' (fun ρ hρ => ?_) (hJ.val hRS hcl hL rfl (Below.refl _ _) _ rfl)
                  rw [hρ] at e0
                  clear hb
                  clear hJ hsame hdep hcl hρ hsz gd
                  go_simp
                · intro L a w' hL hsame hsz hJ hdep hcl
                  have gd : valOf _ 3 a = .bool true := hJ.valOf (by decide) (dep_of hdep 3 (by kernel_rfl)) rfl rfl
                  have e0 : a.eval (.tmp 24) = (.int .i64 y) := eval_base hsame (by kernel_rfl)
                  refine Step.val _ rfl rfl (wanted_some (g := 3) (b := true) rfl gd) (.int .i64 y) w' (fun ρ hρ => ?_) (hJ.val hRS hcl hL rfl (Below.refl _ _) _ rfl)
                  rw [hρ] at e0
                  clear hJ hsame hdep hcl hρ hsz gd
                  go_simp
                · intro L a w' hL hsame hsz hJ hdep hcl
                  have gd : valOf _ 3 a = .bool true := hJ.valOf (by decide) (dep_of hdep 3 (by kernel_rfl)) rfl rfl
                  have e0 : a.eval (.tmp 118) = (.agg #[.int .i64 R, .int .i64 K, .slice AG (R * K) cG]) := eval_slot (j := 7) (by kernel_rfl) (hJ.valOf (by decide) (dep_of hdep 7 (by kernel_rfl)) rfl rfl)
                  have e1 : a.eval (.tmp 119) = (.int .i64 y) := eval_slot (j := 8) (by kernel_rfl) (hJ.valOf (by decide) (dep_of hdep 8 (by kernel_rfl)) rfl rfl)
                  refine Step.call _ rfl rfl (wanted_some (g := 3) (b := true) rfl gd) 12 #[.agg #[.int .i64 R, .int .i64 K, .slice AG (R * K) cG], .int .i64 y] (fun ρ hρ => ?_) ?_
                  · skip
                    rw [hρ] at e0 e1
                    have ef : ρ (.func 12) = .func (.func 12) #[] #[] := (hρ _).symm
                    clear hJ hsame hdep hcl hρ hsz gd
                    go_simp
                  · refine (TXG.out w' _ (HIGr.out.low (hJ.kept.toBelow (Nat.le_refl _) (by simp)))).mono ?_
                    rintro e w2 ⟨rfl, bb⟩
                    exact ⟨_, rfl, hJ.val hRS hcl hL rfl bb _ rfl⟩
                · intro L a w' hL hsame hsz hJ hdep hcl
                  have gd : valOf _ 3 a = .bool true := hJ.valOf (by decide) (dep_of hdep 3 (by kernel_rfl)) rfl rfl
                  have e0 : a.eval (.tmp 117) = (.string TS) := eval_slot (j := 6) (by kernel_rfl) (hJ.valOf (by decide) (dep_of hdep 6 (by kernel_rfl)) rfl rfl)
                  have e1 : a.eval (.tmp 120) = (.string TS) := eval_slot (j := 9) (by kernel_rfl) (hJ.valOf (by decide) (dep_of hdep 9 (by kernel_rfl)) rfl rfl)
                  refine Step.val _ rfl rfl (wanted_some (g := 3) (b := true) rfl gd) (.bool false) w' (fun ρ hρ => ?_) (hJ.val hRS hcl hL rfl (Below.refl _ _) _ rfl)
                  rw [hρ] at e0 e1
                  clear hJ hsame hdep hcl hρ hsz gd
                  go_simp
                · intro L a w' hL hsame hsz hJ hdep hcl
                  have e0 : a.eval (.tmp 114) = (.bool true) := eval_slot (j := 3) (by kernel_rfl) (hJ.valOf (by decide) (dep_of hdep 3 (by kernel_rfl)) rfl rfl)
                  have e1 : a.eval (.tmp 121) = (.bool false) := eval_slot (j := 10) (by kernel_rfl) (hJ.valOf (by decide) (dep_of hdep 10 (by kernel_rfl)) rfl rfl)
                  refine Step.val _ rfl rfl (wanted_none rfl) (.bool false) w' (fun ρ hρ => ?_) (hJ.val hRS hcl hL rfl (Below.refl _ _) _ rfl)
                  rw [hρ] at e0 e1
                  have ec0 : ρ (.const (.bool false)) = (.bool false) := (hρ _).symm
                  clear hJ hsame hdep hcl hρ hsz
                  go_simp
                · intro L a w' hsame hsz hJ hall
                  obtain ⟨u, hu, ha⟩ := act_puts hsame
                  have h : (u 11 = .bool false) ∧ Below wr.heap.size wr w' := by
                    (try simp only [hu])
                    exact (And.intro (hJ.valOf (j := 11) (by decide) (hall 11 (by decide)) rfl rfl) (hJ.kept.toBelow (Nat.le_refl _) (by simp)))
                  have h := hide h
                  clear hJ hall hsz hu hsame
                  subst ha
                  change Exit.then _ _ Exit.normal (Act.put (Act.put (Act.put (Act.put (Act.put (Act.put (Act.put (Act.put (Act.put (Act.put (Act.put (Act.put (putAll _ u 0 _) (some 111) (u 0)) (some 112) (u 1)) (some 113) (u 2)) (some 114) (u 3)) (some 115) (u 4)) (some 116) (u 5)) (some 117) (u 6)) (some 118) (u 7)) (some 119) (u 8)) (some 120) (u 9)) (some 121) (u 10)) (some 122) (u 11)) _
                  simp only [putAll]
                  generalize u 0 = v0
                  generalize u 1 = v1
                  generalize u 2 = v2
                  generalize u 3 = v3
                  generalize u 4 = v4
                  generalize u 5 = v5
                  generalize u 6 = v6
                  generalize u 7 = v7
                  generalize u 8 = v8
                  generalize u 9 = v9
                  generalize u 10 = v10
                  generalize u 11 = v11 at h ⊢
                  go_simp
                  go_step
                  go_meet
                  exact h.out
          case rest =>
          obtain ⟨rfl, bc⟩ := hcut
          have bx := hide (bx.out.trans (bc.mono bx.out.size))
          clear bc HBGr HIGr HBIr HIIr
          go_wp2_with fail
          go_roundw
          case rel => exact ⟨y + 1, by have := HY.out; omega, by go_num, bx⟩
          case measure => exact meas_succ HY.out
        · go_wp2_with fail
          go_meet
          exact bx.out
  case rest =>
  have bc := hcut
  have BB := hide (BB.out.trans (bc.mono BB.out.size))
  have SP := hide (SP.out.keep bc)
  have HBG := hide (HBG.out.below bc HBG.out.lt)
  have HIG := hide (HIG.out.low bc)
  have BP := hide (BP.out.below bc BP.out.lt)
  have HBI := hide (HBI.out.below bc HBI.out.lt)
  have HII := hide (HII.out.low bc)
  clear bc hcut HNF
  go_upto_region 21 with fail
  have hz0 : PG.Alike (PG.scrollI G 0 ((R : Int) - 1) 0 (pa, pb, pc)) G := by
    rw [PG.scrollI_all HG.out.2.1 HK.out.1.1]
    exact PG.scroll_zero (by have := HG.out.1.1; omega) (pa, pb, pc)
  have hz1 : (PG.scrollI G 1 0 (-3) (pa, pb, pc)) = G := PG.scrollI_out (by omega)
  have hz2 : (PG.scrollI G 0 R 1 (pa, pb, pc)) = G := PG.scrollI_out (by rw [HG.out.2.1]; omega)
  have hz3 : PG.Alike (PG.eraseI G row col 2 (pa, pb, pc)) (PG.newG R K (pa, pb, pc)) := by
    have h1 := HK.out
    have e : (PG.eraseI G row col 2 (pa, pb, pc)) = PG.eraseG G row col 2 (pa, pb, pc) := if_pos (by rw [HG.out.2.1, HG.out.2.2]; omega)
    have h := PG.erase_all G row col (pa, pb, pc)
    rw [HG.out.2.1, HG.out.2.2] at h
    rw [e]
    exact h
  have HZ0 := hide hz0
  have HZ1 := hide hz1
  have HZ2 := hide hz2
  have HZ3 := hide hz3
  clear hz0 hz1 hz2 hz3
  go_cut [10] (fun u10 wx => (u10 = .bool true) ∧ Below wc.heap.size wc wx)
  case first =>
    as_aux_lemma =>
      refine wp_region_rj (n := 177) [] (fun _ => #[]) [(0, 0, 0, 0), (0, 0, 0, 0), (0, 0, 0, 0), (0, 0, 0, 0), (0, 0, 0, 0), (1, 0, 0, 0), (0, 0, 0, 0), (0, 0, 0, 0), (0, 0, 0, 0), (0, 0, 0, 0), (0, 0, 0, 0), (1, 0, 0, 0), (0, 0, 0, 0), (0, 0, 0, 0), (0, 0, 0, 0), (0, 0, 0, 0), (0, 0, 0, 0), (0, 0, 0, 0), (0, 0, 0, 0), (0, 0, 0, 0), (1, 0, 0, 0), (0, 0, 0, 0), (0, 0, 0, 0), (0, 0, 0, 0), (0, 0, 0, 0), (0, 0, 0, 0), (0, 0, 0, 0), (0, 0, 0, 0), (0, 0, 0, 0), (0, 0, 0, 0), (0, 0, 0, 0), (0, 0, 0, 0), (0, 0, 0, 0), (0, 0, 0, 0), (1, 0, 0, 0), (0, 0, 0, 0), (0, 0, 0, 0), (0, 0, 0, 0), (0, 0, 0, 0), (0, 0, 0, 0), (0, 0, 0, 0), (0, 0, 0, 0), (1, 0, 0, 0), (0, 0, 0, 0), (0, 0, 0, 0), (0, 0, 0, 0), (0, 0, 0, 0), (0, 0, 0, 0), (1, 0, 0, 0), (0, 0, 0, 0), (0, 0, 0, 0), (0, 0, 0, 0), (0, 0, 0, 0), (0, 0, 0, 0), (0, 0, 0, 0)] (fun j => [(.agg #[.int .i64 R, .int .i64 K, .slice AG (R * K) cG]), (.pointer (some ⟨gG, 0, none⟩)), (.int .i64 R), (.int .i64 ((R : Int) - 1)), (.agg #[.int .i64 pa, .int .i64 pb, .int .i64 pc]), undef, (.agg #[.int .i64 R, .int .i64 K, .slice AG (R * K) cG]), (.bool true), (.bool true), (.agg #[.int .i64 R, .int .i64 K, .slice AG (R * K) cG]), (.agg #[.int .i64 pa, .int .i64 pb, .int .i64 pc]), undef, (.agg #[.int .i64 R, .int .i64 K, .slice AG (R * K) cG]), (.bool true), (.bool true), (.bool true), (.agg #[.int .i64 R, .int .i64 K, .slice AG (R * K) cG]), (.pointer (some ⟨gG, 0, none⟩)), (.int .i64 R), (.agg #[.int .i64 pa, .int .i64 pb, .int .i64 pc]), undef, (.agg #[.int .i64 R, .int .i64 K, .slice AG (R * K) cG]), (.bool true), (.bool true), (.bool true), (.agg #[.int .i64 R, .int .i64 K, .slice AI (R * K) cI]), (.bool true), (.bool true), (.bool true), (.agg #[.int .i64 R, .int .i64 K, .slice AG (R * K) cG]), (.int .i64 row), (.int .i64 col), (.int .i64 mm), (.agg #[.int .i64 pa, .int .i64 pb, .int .i64 pc]), undef, (.bool true), (.bool true), (.bool true), (.agg #[.int .i64 R, .int .i64 K, .slice AG (R * K) cG]), (.int .i64 row), (.int .i64 col), (.agg #[.int .i64 pa, .int .i64 pb, .int .i64 pc]), undef, (.pointer (some ⟨gG, 0, none⟩)), (.int .i64 R), (.pointer (some ⟨gG, 1, none⟩)), (.int .i64 K), (.agg #[.int .i64 pa, .int .i64 pb, .int .i64 pc]), undef, (.bool true), (.bool true), (.bool true), (.bool true), (.bool true), (.bool true)].getD j undef) (fun j => [PG.dflt, PG.dflt, PG.dflt, PG.dflt, PG.dflt, (PG.scrollI G 0 ((R : Int) - 1) 0 (pa, pb, pc)), PG.dflt, PG.dflt, PG.dflt, PG.dflt, PG.dflt, (PG.scrollI G 1 0 (-3) (pa, pb, pc)), PG.dflt, PG.dflt, PG.dflt, PG.dflt, PG.dflt, PG.dflt, PG.dflt, PG.dflt, (PG.scrollI G 0 R 1 (pa, pb, pc)), PG.dflt, PG.dflt, PG.dflt, PG.dflt, PG.dflt, PG.dflt, PG.dflt, PG.dflt, PG.dflt, PG.dflt, PG.dflt, PG.dflt, PG.dflt, (PG.shiftI G row col (-(mm : Int)) (pa, pb, pc)), PG.dflt, PG.dflt, PG.dflt, PG.dflt, PG.dflt, PG.dflt, PG.dflt, (PG.eraseI G row col 2 (pa, pb, pc)), PG.dflt, PG.dflt, PG.dflt, PG.dflt, PG.dflt, (PG.newG R K (pa, pb, pc)), PG.dflt, PG.dflt, PG.dflt, PG.dflt, PG.dflt, PG.dflt].getD j PG.dflt) (fun _ => 0) (by kernel_rfl) (by kernel_rfl) (by kernel_rfl) rfl (by kernel_rfl) (no4 rfl) (fun i j h => by revert h; exact no4 (p := fun _ => _) rfl i) (fun hRS => cases55 ⟨?_, ?_, ?_, ?_, ?_, ?_, ?_, ?_, ?_, ?_, ?_, ?_, ?_, ?_, ?_, ?_, ?_, ?_, ?_, ?_, ?_, ?_, ?_, ?_, ?_, ?_, ?_, ?_, ?_, ?_, ?_, ?_, ?_, ?_, ?_, ?_, ?_, ?_, ?_, ?_, ?_, ?_, ?_, ?_, ?_, ?_, ?_, ?_, ?_, ?_, ?_, ?_, ?_, ?_, ?_⟩) ?_
      · intro L a w' hL hsame hsz hJ hdep hcl
        have e0 : a.eval (.tmp 11) = (.pointer (some ⟨gG, 0, none⟩)) := eval_base hsame (by kernel_rfl)
        have hb := hJ.keptBox HBG.out (by simp)
        have q0 : w'.cell? ⟨gG, 0, none⟩ = some (.int .i64 R) := hb.cell 0
        have q1 : w'.cell? ⟨gG, 1, none⟩ = some (.int .i64 K) := hb.cell 1
        have q2 : w'.cell? ⟨gG, 2, none⟩ = some (.slice AG (R * K) cG) := hb.cell 2
        refine Step.val _ rfl rfl (wanted_none rfl) (.agg #[.int .i64 R, .int .i64 K, .slice AG (R * K) cG]) w' (fun ρ hρ => ?_) (hJ.val hRS hcl hL rfl (Below.refl _ _) _ rfl)
        rw [hρ] at e0
        clear hb
        clear hJ hsame hdep hcl hρ hsz
        go_simp
      · intro L a w' hL hsame hsz hJ hdep hcl
        have e0 : a.eval (.tmp 11) = (.pointer (some ⟨gG, 0, none⟩)) := eval_base hsame (by kernel_rfl)
        refine Step.val _ rfl rfl (wanted_none rfl) (.pointer (some ⟨gG, 0, none⟩)) w' (fun ρ hρ => ?_) (hJ.val hRS hcl hL rfl (Below.refl _ _) _ rfl)
        rw [hρ] at e0
        clear hJ hsame hdep hcl hρ hsz
        go_simp
      · intro L a w' hL hsame hsz hJ hdep hcl
        have e0 : a.eval (.tmp 124) = (.pointer (some ⟨gG, 0, none⟩)) := eval_slot (j := 1) (by kernel_rfl) (hJ.valOf (by decide) (dep_of hdep 1 (by kernel_rfl)) rfl rfl)
        have hb := hJ.keptBox HBG.out (by simp)
        have q0 : w'.cell? ⟨gG, 0, none⟩ = some (.int .i64 R) := hb.cell 0
        refine Step.val _ rfl rfl (wanted_none rfl) (.int .i64 R) w' (fun ρ hρ => ?_) (hJ.val hRS hcl hL rfl (Below.refl _ _) _ rfl)
        rw [hρ] at e0
        clear hb
        clear hJ hsame hdep hcl hρ hsz
        go_simp
      · intro L a w' hL hsame hsz hJ hdep hcl
        have e0 : a.eval (.tmp 125) = (.int .i64 R) := eval_slot (j := 2) (by kernel_rfl) (hJ.valOf (by decide) (dep_of hdep 2 (by kernel_rfl)) rfl rfl)
        refine Step.val _ rfl rfl (wanted_none rfl) (.int .i64 ((R : Int) - 1)) w' (fun ρ hρ => ?_) (hJ.val hRS hcl hL rfl (Below.refl _ _) _ rfl)
        rw [hρ] at e0
        have ec0 : ρ (.const (.int .i64 1)) = (.int .i64 1) := (hρ _).symm
        clear hJ hsame hdep hcl hρ hsz
        go_simp
      · intro L a w' hL hsame hsz hJ hdep hcl
        have e0 : a.eval (.tmp 12) = (.pointer (some ⟨gP, 0, none⟩)) := eval_base hsame (by kernel_rfl)
        have hb := hJ.keptBox BP.out (by simp)
        have q0 : w'.cell? ⟨gP, 0, none⟩ = some (.int .i64 pa) := hb.cell 0
        have q1 : w'.cell? ⟨gP, 1, none⟩ = some (.int .i64 pb) := hb.cell 1
        have q2 : w'.cell? ⟨gP, 2, none⟩ = some (.int .i64 pc) := hb.cell 2
        refine Step.val _ rfl rfl (wanted_none rfl) (.agg #[.int .i64 pa, .int .i64 pb, .int .i64 pc]) w' (fun ρ hρ => ?_) (hJ.val hRS hcl hL rfl (Below.refl _ _) _ rfl)
        rw [hρ] at e0
        clear hb
        clear hJ hsame hdep hcl hρ hsz
        go_simp
      · intro L a w' hL hsame hsz hJ hdep hcl
        have e0 : a.eval (.tmp 123) = (.agg #[.int .i64 R, .int .i64 K, .slice AG (R * K) cG]) := eval_slot (j := 0) (by kernel_rfl) (hJ.valOf (by decide) (dep_of hdep 0 (by kernel_rfl)) rfl rfl)
        have e2 : a.eval (.tmp 126) = (.int .i64 ((R : Int) - 1)) := eval_slot (j := 3) (by kernel_rfl) (hJ.valOf (by decide) (dep_of hdep 3 (by kernel_rfl)) rfl rfl)
        have e4 : a.eval (.tmp 127) = (.agg #[.int .i64 pa, .int .i64 pb, .int .i64 pc]) := eval_slot (j := 4) (by kernel_rfl) (hJ.valOf (by decide) (dep_of hdep 4 (by kernel_rfl)) rfl rfl)
        refine Step.call _ rfl rfl (wanted_none rfl) 11 #[.agg #[.int .i64 R, .int .i64 K, .slice AG (R * K) cG], .int .i64 0, .int .i64 ((R : Int) - 1), .int .i64 0, .agg #[.int .i64 pa, .int .i64 pb, .int .i64 pc]] (fun ρ hρ => ?_) ?_
        · skip
          rw [hρ] at e0 e2 e4
          have ec0 : ρ (.const (.int .i64 0)) = (.int .i64 0) := (hρ _).symm
          have ef : ρ (.func 11) = .func (.func 11) #[] #[] := (hρ _).symm
          clear hJ hsame hdep hcl hρ hsz
          go_simp
        · refine (u_up HG.out.1 (HIG.out.low (hJ.kept.toBelow (Nat.le_refl _) (by simp))) 0 ((R : Int) - 1) 0 (pa, pb, pc) HP.out (by omega) (by have := HK.out; omega) (by omega)).mono ?_
          rintro e w2 ⟨v, rfl, hg, bb⟩
          exact ⟨v, rfl, hJ.grid hRS hcl hL rfl bb v hg⟩
      · intro L a w' hL hsame hsz hJ hdep hcl
        have e0 : a.eval (.tmp 11) = (.pointer (some ⟨gG, 0, none⟩)) := eval_base hsame (by kernel_rfl)
        have hb := hJ.keptBox HBG.out (by simp)
        have q0 : w'.cell? ⟨gG, 0, none⟩ = some (.int .i64 R) := hb.cell 0
        have q1 : w'.cell? ⟨gG, 1, none⟩ = some (.int .i64 K) := hb.cell 1
        have q2 : w'.cell? ⟨gG, 2, none⟩ = some (.slice AG (R * K) cG) := hb.cell 2
        refine Step.val _ rfl rfl (wanted_none rfl) (.agg #[.int .i64 R, .int .i64 K, .slice AG (R * K) cG]) w' (fun ρ hρ => ?_) (hJ.val hRS hcl hL rfl (Below.refl _ _) _ rfl)
        rw [hρ] at e0
        clear hb
        clear hJ hsame hdep hcl hρ hsz
        go_simp
      · intro L a w' hL hsame hsz hJ hdep hcl
        obtain ⟨v5, hv5, hG5⟩ := hJ.gridAt (j := 5) (by decide) (dep_of hdep 5 (by kernel_rfl)) rfl
        have hG5 : IsG w' (PG.scrollI G 0 ((R : Int) - 1) 0 (pa, pb, pc)) v5 := hG5
        have e0 : a.eval (.tmp 128) = v5 := eval_slot (j := 5) (by kernel_rfl) hv5
        have e1 : a.eval (.tmp 129) = (.agg #[.int .i64 R, .int .i64 K, .slice AG (R * K) cG]) := eval_slot (j := 6) (by kernel_rfl) (hJ.valOf (by decide) (dep_of hdep 6 (by kernel_rfl)) rfl rfl)
        refine Step.call _ rfl rfl (wanted_none rfl) 28 #[v5, .agg #[.int .i64 R, .int .i64 K, .slice AG (R * K) cG]] (fun ρ hρ => ?_) ?_
        · skip
          rw [hρ] at e0 e1
          have ef : ρ (.func 28) = .func (.func 28) #[] #[] := (hρ _).symm
          clear hJ hsame hdep hcl hρ hsz
          go_simp
        · refine (u_same (PG.right_scrollI HG.out.1 HP.out _ _ _) hG5 (HIG.out.low (hJ.kept.toBelow (Nat.le_refl _) (by simp))) HZ0.out).mono ?_
          rintro e w2 ⟨rfl, bb⟩
          exact ⟨_, rfl, hJ.val hRS hcl hL rfl bb _ rfl⟩
      · intro L a w' hL hsame hsz hJ hdep hcl
        have e0 : a.eval (.tmp 130) = (.bool true) := eval_slot (j := 7) (by kernel_rfl) (hJ.valOf (by decide) (dep_of hdep 7 (by kernel_rfl)) rfl rfl)
        refine Step.val _ rfl rfl (wanted_none rfl) (.bool true) w' (fun ρ hρ => ?_) (hJ.val hRS hcl hL rfl (Below.refl _ _) _ rfl)
        rw [hρ] at e0
        clear hJ hsame hdep hcl hρ hsz
        go_simp
      · intro L a w' hL hsame hsz hJ hdep hcl
        have gd : valOf _ 8 a = .bool true := hJ.valOf (by decide) (dep_of hdep 8 (by kernel_rfl)) rfl rfl
        have e0 : a.eval (.tmp 11) = (.pointer (some ⟨gG, 0, none⟩)) := eval_base hsame (by kernel_rfl)
        have hb := hJ.keptBox HBG.out (by simp)
        have q0 : w'.cell? ⟨gG, 0, none⟩ = some (.int .i64 R) := hb.cell 0
        have q1 : w'.cell? ⟨gG, 1, none⟩ = some (.int .i64 K) := hb.cell 1
        have q2 : w'.cell? ⟨gG, 2, none⟩ = some (.slice AG (R * K) cG) := hb.cell 2
        refine Step.val _ rfl rfl (wanted_some (g := 8) (b := true) rfl gd) (.agg #[.int .i64 R, .int .i64 K, .slice AG (R * K) cG]) w' (fun ρ hρ => ?_) (hJ.val hRS hcl hL rfl (Below.refl _ _) _ rfl)
        rw [hρ] at e0
        clear hb
        clear hJ hsame hdep hcl hρ hsz gd
        go_simp
      · intro L a w' hL hsame hsz hJ hdep hcl
        have gd : valOf _ 8 a = .bool true := hJ.valOf (by decide) (dep_of hdep 8 (by kernel_rfl)) rfl rfl
        have e0 : a.eval (.tmp 12) = (.pointer (some ⟨gP, 0, none⟩)) := eval_base hsame (by kernel_rfl)
        have hb := hJ.keptBox BP.out (by simp)
        have q0 : w'.cell? ⟨gP, 0, none⟩ = some (.int .i64 pa) := hb.cell 0
        have q1 : w'.cell? ⟨gP, 1, none⟩ = some (.int .i64 pb) := hb.cell 1
        have q2 : w'.cell? ⟨gP, 2, none⟩ = some (.int .i64 pc) := hb.cell 2
        refine Step.val _ rfl rfl (wanted_some (g := 8) (b := true) rfl gd) (.agg #[.int .i64 pa, .int .i64 pb, .int .i64 pc]) w' (fun ρ hρ => ?_) (hJ.val hRS hcl hL rfl (Below.refl _ _) _ rfl)
        rw [hρ] at e0
        clear hb
        clear hJ hsame hdep hcl hρ hsz gd
        go_simp
      · intro L a w' hL hsame hsz hJ hdep hcl
        have gd : valOf _ 8 a = .bool true := hJ.valOf (by decide) (dep_of hdep 8 (by kernel_rfl)) rfl rfl
        have e0 : a.eval (.tmp 132) = (.agg #[.int .i64 R, .int .i64 K, .slice AG (R * K) cG]) := eval_slot (j := 9) (by kernel_rfl) (hJ.valOf (by decide) (dep_of hdep 9 (by kernel_rfl)) rfl rfl)
        have e4 : a.eval (.tmp 133) = (.agg #[.int .i64 pa, .int .i64 pb, .int .i64 pc]) := eval_slot (j := 10) (by kernel_rfl) (hJ.valOf (by decide) (dep_of hdep 10 (by kernel_rfl)) rfl rfl)
        refine Step.call _ rfl rfl (wanted_some (g := 8) (b := true) rfl gd) 21 #[.agg #[.int .i64 R, .int .i64 K, .slice AG (R * K) cG], .int .i64 1, .int .i64 0, .int .i64 3, .agg #[.int .i64 pa, .int .i64 pb, .int .i64 pc]] (fun ρ hρ => ?_) ?_
        · skip
          rw [hρ] at e0 e4
          have ec0 : ρ (.const (.int .i64 1)) = (.int .i64 1) := (hρ _).symm
          have ec1 : ρ (.const (.int .i64 0)) = (.int .i64 0) := (hρ _).symm
          have ec2 : ρ (.const (.int .i64 3)) = (.int .i64 3) := (hρ _).symm
          have ef : ρ (.func 21) = .func (.func 21) #[] #[] := (hρ _).symm
          clear hJ hsame hdep hcl hρ hsz gd
          go_simp
        · refine (u_down HG.out.1 (HIG.out.low (hJ.kept.toBelow (Nat.le_refl _) (by simp))) 1 0 3 (pa, pb, pc) HP.out (by omega) (by omega) (by omega)).mono ?_
          rintro e w2 ⟨v, rfl, hg, bb⟩
          exact ⟨v, rfl, hJ.grid hRS hcl hL rfl bb v hg⟩
      · intro L a w' hL hsame hsz hJ hdep hcl
        have gd : valOf _ 8 a = .bool true := hJ.valOf (by decide) (dep_of hdep 8 (by kernel_rfl)) rfl rfl
        have e0 : a.eval (.tmp 11) = (.pointer (some ⟨gG, 0, none⟩)) := eval_base hsame (by kernel_rfl)
        have hb := hJ.keptBox HBG.out (by simp)
        have q0 : w'.cell? ⟨gG, 0, none⟩ = some (.int .i64 R) := hb.cell 0
        have q1 : w'.cell? ⟨gG, 1, none⟩ = some (.int .i64 K) := hb.cell 1
        have q2 : w'.cell? ⟨gG, 2, none⟩ = some (.slice AG (R * K) cG) := hb.cell 2
        refine Step.val _ rfl rfl (wanted_some (g := 8) (b := true) rfl gd) (.agg #[.int .i64 R, .int .i64 K, .slice AG (R * K) cG]) w' (fun ρ hρ => ?_) (hJ.val hRS hcl hL rfl (Below.refl _ _) _ rfl)
        rw [hρ] at e0
        clear hb
        clear hJ hsame hdep hcl hρ hsz gd
        go_simp
      · intro L a w' hL hsame hsz hJ hdep hcl
        have gd : valOf _ 8 a = .bool true := hJ.valOf (by decide) (dep_of hdep 8 (by kernel_rfl)) rfl rfl
        obtain ⟨v11, hv11, hG11⟩ := hJ.gridAt (j := 11) (by decide) (dep_of hdep 11 (by kernel_rfl)) rfl
        have hG11 : IsG w' (PG.scrollI G 1 0 (-3) (pa, pb, pc)) v11 := hG11
        have e0 : a.eval (.tmp 134) = v11 := eval_slot (j := 11) (by kernel_rfl) hv11
        have e1 : a.eval (.tmp 135) = (.agg #[.int .i64 R, .int .i64 K, .slice AG (R * K) cG]) := eval_slot (j := 12) (by kernel_rfl) (hJ.valOf (by decide) (dep_of hdep 12 (by kernel_rfl)) rfl rfl)
        refine Step.call _ rfl rfl (wanted_some (g := 8) (b := true) rfl gd) 28 #[v11, .agg #[.int .i64 R, .int .i64 K, .slice AG (R * K) cG]] (fun ρ hρ => ?_) ?_
        · skip
          rw [hρ] at e0 e1
          have ef : ρ (.func 28) = .func (.func 28) #[] #[] := (hρ _).symm
          clear hJ hsame hdep hcl hρ hsz gd
          go_simp
        · refine (u_same (PG.right_scrollI HG.out.1 HP.out _ _ _) hG11 (HIG.out.low (hJ.kept.toBelow (Nat.le_refl _) (by simp))) (by rw [HZ1.out]; exact PG.Alike.refl _)).mono ?_
          rintro e w2 ⟨rfl, bb⟩
          exact ⟨_, rfl, hJ.val hRS hcl hL rfl bb _ rfl⟩
      · intro L a w' hL hsame hsz hJ hdep hcl
        have e0 : a.eval (.tmp 131) = (.bool true) := eval_slot (j := 8) (by kernel_rfl) (hJ.valOf (by decide) (dep_of hdep 8 (by kernel_rfl)) rfl rfl)
        have e1 : a.eval (.tmp 136) = (.bool true) := eval_slot (j := 13) (by kernel_rfl) (hJ.valOf (by decide) (dep_of hdep 13 (by kernel_rfl)) rfl rfl)
        refine Step.val _ rfl rfl (wanted_none rfl) (.bool true) w' (fun ρ hρ => ?_) (hJ.val hRS hcl hL rfl (Below.refl _ _) _ rfl)
        rw [hρ] at e0 e1
        have ec0 : ρ (.const (.bool false)) = (.bool false) := (hρ _).symm
        clear hJ hsame hdep hcl hρ hsz
        go_simp
      · intro L a w' hL hsame hsz hJ hdep hcl
        have e0 : a.eval (.tmp 137) = (.bool true) := eval_slot (j := 14) (by kernel_rfl) (hJ.valOf (by decide) (dep_of hdep 14 (by kernel_rfl)) rfl rfl)
        refine Step.val _ rfl rfl (wanted_none rfl) (.bool true) w' (fun ρ hρ => ?_) (hJ.val hRS hcl hL rfl (Below.refl _ _) _ rfl)
        rw [hρ] at e0
        clear hJ hsame hdep hcl hρ hsz
        go_simp
      · intro L a w' hL hsame hsz hJ hdep hcl
        have gd : valOf _ 15 a = .bool true := hJ.valOf (by decide) (dep_of hdep 15 (by kernel_rfl)) rfl rfl
        have e0 : a.eval (.tmp 11) = (.pointer (some ⟨gG, 0, none⟩)) := eval_base hsame (by kernel_rfl)
        have hb := hJ.keptBox HBG.out (by simp)
        have q0 : w'.cell? ⟨gG, 0, none⟩ = some (.int .i64 R) := hb.cell 0
        have q1 : w'.cell? ⟨gG, 1, none⟩ = some (.int .i64 K) := hb.cell 1
        have q2 : w'.cell? ⟨gG, 2, none⟩ = some (.slice AG (R * K) cG) := hb.cell 2
        refine Step.val _ rfl rfl (wanted_some (g := 15) (b := true) rfl gd) (.agg #[.int .i64 R, .int .i64 K, .slice AG (R * K) cG]) w' (fun ρ hρ => ?_) (hJ.val hRS hcl hL rfl (Below.refl _ _) _ rfl)
        rw [hρ] at e0
        clear hb
        clear hJ hsame hdep hcl hρ hsz gd
        go_simp
      · intro L a w' hL hsame hsz hJ hdep hcl
        have gd : valOf _ 15 a = .bool true := hJ.valOf (by decide) (dep_of hdep 15 (by kernel_rfl)) rfl rfl
        have e0 : a.eval (.tmp 11) = (.pointer (some ⟨gG, 0, none⟩)) := eval_base hsame (by kernel_rfl)
        refine Step.val _ rfl rfl (wanted_some (g := 15) (b := true) rfl gd) (.pointer (some ⟨gG, 0, none⟩)) w' (fun ρ hρ => ?_) (hJ.val hRS hcl hL rfl (Below.refl _ _) _ rfl)
        rw [hρ] at e0
        clear hJ hsame hdep hcl hρ hsz gd
        go_simp
      · intro L a w' hL hsame hsz hJ hdep hcl
        have gd : valOf _ 15 a = .bool true := hJ.valOf (by decide) (dep_of hdep 15 (by kernel_rfl)) rfl rfl
        have e0 : a.eval (.tmp 140) = (.pointer (some ⟨gG, 0, none⟩)) := eval_slot (j := 17) (by kernel_rfl) (hJ.valOf (by decide) (dep_of hdep 17 (by kernel_rfl)) rfl rfl)
        have hb := hJ.keptBox HBG.out (by simp)
        have q0 : w'.cell? ⟨gG, 0, none⟩ = some (.int .i64 R) := hb.cell 0
        refine Step.val _ rfl rfl (wanted_some (g := 15) (b := true) rfl gd) (.int .i64 R) w' (fun ρ hρ => ?_) (hJ.val hRS hcl hL rfl (Below.refl _ _) _ rfl)
        rw [hρ] at e0
        clear hb
        clear hJ hsame hdep hcl hρ hsz gd
        go_simp
      · intro L a w' hL hsame hsz hJ hdep hcl
        have gd : valOf _ 15 a = .bool true := hJ.valOf (by decide) (dep_of hdep 15 (by kernel_rfl)) rfl rfl
        have e0 : a.eval (.tmp 12) = (.pointer (some ⟨gP, 0, none⟩)) := eval_base hsame (by kernel_rfl)
        have hb := hJ.keptBox BP.out (by simp)
        have q0 : w'.cell? ⟨gP, 0, none⟩ = some (.int .i64 pa) := hb.cell 0
        have q1 : w'.cell? ⟨gP, 1, none⟩ = some (.int .i64 pb) := hb.cell 1
        have q2 : w'.cell? ⟨gP, 2, none⟩ = some (.int .i64 pc) := hb.cell 2
        refine Step.val _ rfl rfl (wanted_some (g := 15) (b := true) rfl gd) (.agg #[.int .i64 pa, .int .i64 pb, .int .i64 pc]) w' (fun ρ hρ => ?_) (hJ.val hRS hcl hL rfl (Below.refl _ _) _ rfl)
        rw [hρ] at e0
        clear hb
        clear hJ hsame hdep hcl hρ hsz gd
        go_simp
      · intro L a w' hL hsame hsz hJ hdep hcl
        have gd : valOf _ 15 a = .bool true := hJ.valOf (by decide) (dep_of hdep 15 (by kernel_rfl)) rfl rfl
        have e0 : a.eval (.tmp 139) = (.agg #[.int .i64 R, .int .i64 K, .slice AG (R * K) cG]) := eval_slot (j := 16) (by kernel_rfl) (hJ.valOf (by decide) (dep_of hdep 16 (by kernel_rfl)) rfl rfl)
        have e2 : a.eval (.tmp 141) = (.int .i64 R) := eval_slot (j := 18) (by kernel_rfl) (hJ.valOf (by decide) (dep_of hdep 18 (by kernel_rfl)) rfl rfl)
        have e4 : a.eval (.tmp 142) = (.agg #[.int .i64 pa, .int .i64 pb, .int .i64 pc]) := eval_slot (j := 19) (by kernel_rfl) (hJ.valOf (by decide) (dep_of hdep 19 (by kernel_rfl)) rfl rfl)
        refine Step.call _ rfl rfl (wanted_some (g := 15) (b := true) rfl gd) 11 #[.agg #[.int .i64 R, .int .i64 K, .slice AG (R * K) cG], .int .i64 0, .int .i64 R, .int .i64 1, .agg #[.int .i64 pa, .int .i64 pb, .int .i64 pc]] (fun ρ hρ => ?_) ?_
        · skip
          rw [hρ] at e0 e2 e4
          have ec0 : ρ (.const (.int .i64 0)) = (.int .i64 0) := (hρ _).symm
          have ec1 : ρ (.const (.int .i64 1)) = (.int .i64 1) := (hρ _).symm
          have ef : ρ (.func 11) = .func (.func 11) #[] #[] := (hρ _).symm
          clear hJ hsame hdep hcl hρ hsz gd
          go_simp
        · refine (u_up HG.out.1 (HIG.out.low (hJ.kept.toBelow (Nat.le_refl _) (by simp))) 0 R 1 (pa, pb, pc) HP.out (by omega) (by have := HK.out; omega) (by omega)).mono ?_
          rintro e w2 ⟨v, rfl, hg, bb⟩
          exact ⟨v, rfl, hJ.grid hRS hcl hL rfl bb v hg⟩
      · intro L a w' hL hsame hsz hJ hdep hcl
        have gd : valOf _ 15 a = .bool true := hJ.valOf (by decide) (dep_of hdep 15 (by kernel_rfl)) rfl rfl
        have e0 : a.eval (.tmp 11) = (.pointer (some ⟨gG, 0, none⟩)) := eval_base hsame (by kernel_rfl)
        have hb := hJ.keptBox HBG.out (by simp)
        have q0 : w'.cell? ⟨gG, 0, none⟩ = some (.int .i64 R) := hb.cell 0
        have q1 : w'.cell? ⟨gG, 1, none⟩ = some (.int .i64 K) := hb.cell 1
        have q2 : w'.cell? ⟨gG, 2, none⟩ = some (.slice AG (R * K) cG) := hb.cell 2
        refine Step.val _ rfl rfl (wanted_some (g := 15) (b := true) rfl gd) (.agg #[.int .i64 R, .int .i64 K, .slice AG (R * K) cG]) w' (fun ρ hρ => ?_) (hJ.val hRS hcl hL rfl (Below.refl _ _) _ rfl)
        rw [hρ] at e0
        clear hb
        clear hJ hsame hdep hcl hρ hsz gd
        go_simp
      · intro L a w' hL hsame hsz hJ hdep hcl
        have gd : valOf _ 15 a = .bool true := hJ.valOf (by decide) (dep_of hdep 15 (by kernel_rfl)) rfl rfl
        obtain ⟨v20, hv20, hG20⟩ := hJ.gridAt (j := 20) (by decide) (dep_of hdep 20 (by kernel_rfl)) rfl
        have hG20 : IsG w' (PG.scrollI G 0 R 1 (pa, pb, pc)) v20 := hG20
        have e0 : a.eval (.tmp 143) = v20 := eval_slot (j := 20) (by kernel_rfl) hv20
        have e1 : a.eval (.tmp 144) = (.agg #[.int .i64 R, .int .i64 K, .slice AG (R * K) cG]) := eval_slot (j := 21) (by kernel_rfl) (hJ.valOf (by decide) (dep_of hdep 21 (by kernel_rfl)) rfl rfl)
        refine Step.call _ rfl rfl (wanted_some (g := 15) (b := true) rfl gd) 28 #[v20, .agg #[.int .i64 R, .int .i64 K, .slice AG (R * K) cG]] (fun ρ hρ => ?_) ?_
        · skip
          rw [hρ] at e0 e1
          have ef : ρ (.func 28) = .func (.func 28) #[] #[] := (hρ _).symm
          clear hJ hsame hdep hcl hρ hsz gd
          go_simp
        · refine (u_same (PG.right_scrollI HG.out.1 HP.out _ _ _) hG20 (HIG.out.low (hJ.kept.toBelow (Nat.le_refl _) (by simp))) (by rw [HZ2.out]; exact PG.Alike.refl _)).mono ?_
          rintro e w2 ⟨rfl, bb⟩
          exact ⟨_, rfl, hJ.val hRS hcl hL rfl bb _ rfl⟩
      · intro L a w' hL hsame hsz hJ hdep hcl
        have e0 : a.eval (.tmp 138) = (.bool true) := eval_slot (j := 15) (by kernel_rfl) (hJ.valOf (by decide) (dep_of hdep 15 (by kernel_rfl)) rfl rfl)
        have e1 : a.eval (.tmp 145) = (.bool true) := eval_slot (j := 22) (by kernel_rfl) (hJ.valOf (by decide) (dep_of hdep 22 (by kernel_rfl)) rfl rfl)
        refine Step.val _ rfl rfl (wanted_none rfl) (.bool true) w' (fun ρ hρ => ?_) (hJ.val hRS hcl hL rfl (Below.refl _ _) _ rfl)
        rw [hρ] at e0 e1
        have ec0 : ρ (.const (.bool false)) = (.bool false) := (hρ _).symm
        clear hJ hsame hdep hcl hρ hsz
        go_simp
      · intro L a w' hL hsame hsz hJ hdep hcl
        have e0 : a.eval (.tmp 146) = (.bool true) := eval_slot (j := 23) (by kernel_rfl) (hJ.valOf (by decide) (dep_of hdep 23 (by kernel_rfl)) rfl rfl)
        refine Step.val _ rfl rfl (wanted_none rfl) (.bool true) w' (fun ρ hρ => ?_) (hJ.val hRS hcl hL rfl (Below.refl _ _) _ rfl)
        rw [hρ] at e0
        clear hJ hsame hdep hcl hρ hsz
        go_simp
      · intro L a w' hL hsame hsz hJ hdep hcl
        have gd : valOf _ 24 a = .bool true := hJ.valOf (by decide) (dep_of hdep 24 (by kernel_rfl)) rfl rfl
        have e0 : a.eval (.tmp 23) = (.pointer (some ⟨gI, 0, none⟩)) := eval_base hsame (by kernel_rfl)
        have hb := hJ.keptBox HBI.out (by simp)
        have q0 : w'.cell? ⟨gI, 0, none⟩ = some (.int .i64 R) := hb.cell 0
        have q1 : w'.cell? ⟨gI, 1, none⟩ = some (.int .i64 K) := hb.cell 1
        have q2 : w'.cell? ⟨gI, 2, none⟩ = some (.slice AI (R * K) cI) := hb.cell 2
        refine Step.val _ rfl rfl (wanted_some (g := 24) (b := true) rfl gd) (.agg #[.int .i64 R, .int .i64 K, .slice AI (R * K) cI]) w' (fun ρ hρ => ?_) (hJ.val hRS hcl hL rfl (Below.refl _ _) _ rfl)
        rw [hρ] at e0
        clear hb
        clear hJ hsame hdep hcl hρ hsz gd
        go_simp
      · intro L a w' hL hsame hsz hJ hdep hcl
        have gd : valOf _ 24 a = .bool true := hJ.valOf (by decide) (dep_of hdep 24 (by kernel_rfl)) rfl rfl
        have e0 : a.eval (.tmp 148) = (.agg #[.int .i64 R, .int .i64 K, .slice AI (R * K) cI]) := eval_slot (j := 25) (by kernel_rfl) (hJ.valOf (by decide) (dep_of hdep 25 (by kernel_rfl)) rfl rfl)
        refine Step.call _ rfl rfl (wanted_some (g := 24) (b := true) rfl gd) 26 #[.agg #[.int .i64 R, .int .i64 K, .slice AI (R * K) cI]] (fun ρ hρ => ?_) ?_
        · skip
          rw [hρ] at e0
          have ef : ρ (.func 26) = .func (.func 26) #[] #[] := (hρ _).symm
          clear hJ hsame hdep hcl hρ hsz gd
          go_simp
        · refine (u_right HN.out.1 (HII.out.low (hJ.kept.toBelow (Nat.le_refl _) (by simp))) (SP.out.keptS hJ.kept (by simp))).mono ?_
          rintro e w2 ⟨rfl, bb⟩
          exact ⟨_, rfl, hJ.val hRS hcl hL rfl bb _ rfl⟩
      · intro L a w' hL hsame hsz hJ hdep hcl
        have e0 : a.eval (.tmp 147) = (.bool true) := eval_slot (j := 24) (by kernel_rfl) (hJ.valOf (by decide) (dep_of hdep 24 (by kernel_rfl)) rfl rfl)
        have e1 : a.eval (.tmp 149) = (.bool true) := eval_slot (j := 26) (by kernel_rfl) (hJ.valOf (by decide) (dep_of hdep 26 (by kernel_rfl)) rfl rfl)
        refine Step.val _ rfl rfl (wanted_none rfl) (.bool true) w' (fun ρ hρ => ?_) (hJ.val hRS hcl hL rfl (Below.refl _ _) _ rfl)
        rw [hρ] at e0 e1
        have ec0 : ρ (.const (.bool false)) = (.bool false) := (hρ _).symm
        clear hJ hsame hdep hcl hρ hsz
        go_simp
      · intro L a w' hL hsame hsz hJ hdep hcl
        have e0 : a.eval (.tmp 150) = (.bool true) := eval_slot (j := 27) (by kernel_rfl) (hJ.valOf (by decide) (dep_of hdep 27 (by kernel_rfl)) rfl rfl)
        refine Step.val _ rfl rfl (wanted_none rfl) (.bool true) w' (fun ρ hρ => ?_) (hJ.val hRS hcl hL rfl (Below.refl _ _) _ rfl)
        rw [hρ] at e0
        clear hJ hsame hdep hcl hρ hsz
        go_simp
      · intro L a w' hL hsame hsz hJ hdep hcl
        have gd : valOf _ 28 a = .bool true := hJ.valOf (by decide) (dep_of hdep 28 (by kernel_rfl)) rfl rfl
        have e0 : a.eval (.tmp 11) = (.pointer (some ⟨gG, 0, none⟩)) := eval_base hsame (by kernel_rfl)
        have hb := hJ.keptBox HBG.out (by simp)
        have q0 : w'.cell? ⟨gG, 0, none⟩ = some (.int .i64 R) := hb.cell 0
        have q1 : w'.cell? ⟨gG, 1, none⟩ = some (.int .i64 K) := hb.cell 1
        have q2 : w'.cell? ⟨gG, 2, none⟩ = some (.slice AG (R * K) cG) := hb.cell 2
        refine Step.val _ rfl rfl (wanted_some (g := 28) (b := true) rfl gd) (.agg #[.int .i64 R, .int .i64 K, .slice AG (R * K) cG]) w' (fun ρ hρ => ?_) (hJ.val hRS hcl hL rfl (Below.refl _ _) _ rfl)
        rw [hρ] at e0
        clear hb
        clear hJ hsame hdep hcl hρ hsz gd
        go_simp
      · intro L a w' hL hsame hsz hJ hdep hcl
        have gd : valOf _ 28 a = .bool true := hJ.valOf (by decide) (dep_of hdep 28 (by kernel_rfl)) rfl rfl
        have e0 : a.eval (.tmp 13) = (.int .i64 row) := eval_base hsame (by kernel_rfl)
        refine Step.val _ rfl rfl (wanted_some (g := 28) (b := true) rfl gd) (.int .i64 row) w' (fun ρ hρ => ?_) (hJ.val hRS hcl hL rfl (Below.refl _ _) _ rfl)
        rw [hρ] at e0
        clear hJ hsame hdep hcl hρ hsz gd
        go_simp
      · intro L a w' hL hsame hsz hJ hdep hcl
        have gd : valOf _ 28 a = .bool true := hJ.valOf (by decide) (dep_of hdep 28 (by kernel_rfl)) rfl rfl
        have e0 : a.eval (.tmp 14) = (.int .i64 col) := eval_base hsame (by kernel_rfl)
        refine Step.val _ rfl rfl (wanted_some (g := 28) (b := true) rfl gd) (.int .i64 col) w' (fun ρ hρ => ?_) (hJ.val hRS hcl hL rfl (Below.refl _ _) _ rfl)
        rw [hρ] at e0
        clear hJ hsame hdep hcl hρ hsz gd
        go_simp
      · intro L a w' hL hsame hsz hJ hdep hcl
        have gd : valOf _ 28 a = .bool true := hJ.valOf (by decide) (dep_of hdep 28 (by kernel_rfl)) rfl rfl
        have e0 : a.eval (.tmp 15) = (.int .i64 mm) := eval_base hsame (by kernel_rfl)
        refine Step.val _ rfl rfl (wanted_some (g := 28) (b := true) rfl gd) (.int .i64 mm) w' (fun ρ hρ => ?_) (hJ.val hRS hcl hL rfl (Below.refl _ _) _ rfl)
        rw [hρ] at e0
        clear hJ hsame hdep hcl hρ hsz gd
        go_simp
      · intro L a w' hL hsame hsz hJ hdep hcl
        have gd : valOf _ 28 a = .bool true := hJ.valOf (by decide) (dep_of hdep 28 (by kernel_rfl)) rfl rfl
        have e0 : a.eval (.tmp 12) = (.pointer (some ⟨gP, 0, none⟩)) := eval_base hsame (by kernel_rfl)
        have hb := hJ.keptBox BP.out (by simp)
        have q0 : w'.cell? ⟨gP, 0, none⟩ = some (.int .i64 pa) := hb.cell 0
        have q1 : w'.cell? ⟨gP, 1, none⟩ = some (.int .i64 pb) := hb.cell 1
        have q2 : w'.cell? ⟨gP, 2, none⟩ = some (.int .i64 pc) := hb.cell 2
        refine Step.val _ rfl rfl (wanted_some (g := 28) (b := true) rfl gd) (.agg #[.int .i64 pa, .int .i64 pb, .int .i64 pc]) w' (fun ρ hρ => ?_) (hJ.val hRS hcl hL rfl (Below.refl _ _) _ rfl)
        rw [hρ] at e0
        clear hb
        clear hJ hsame hdep hcl hρ hsz gd
        go_simp
      · intro L a w' hL hsame hsz hJ hdep hcl
        have gd : valOf _ 28 a = .bool true := hJ.valOf (by decide) (dep_of hdep 28 (by kernel_rfl)) rfl rfl
        have e0 : a.eval (.tmp 152) = (.agg #[.int .i64 R, .int .i64 K, .slice AG (R * K) cG]) := eval_slot (j := 29) (by kernel_rfl) (hJ.valOf (by decide) (dep_of hdep 29 (by kernel_rfl)) rfl rfl)
        have e1 : a.eval (.tmp 153) = (.int .i64 row) := eval_slot (j := 30) (by kernel_rfl) (hJ.valOf (by decide) (dep_of hdep 30 (by kernel_rfl)) rfl rfl)
        have e2 : a.eval (.tmp 154) = (.int .i64 col) := eval_slot (j := 31) (by kernel_rfl) (hJ.valOf (by decide) (dep_of hdep 31 (by kernel_rfl)) rfl rfl)
        have e3 : a.eval (.tmp 155) = (.int .i64 mm) := eval_slot (j := 32) (by kernel_rfl) (hJ.valOf (by decide) (dep_of hdep 32 (by kernel_rfl)) rfl rfl)
        have e4 : a.eval (.tmp 156) = (.agg #[.int .i64 pa, .int .i64 pb, .int .i64 pc]) := eval_slot (j := 33) (by kernel_rfl) (hJ.valOf (by decide) (dep_of hdep 33 (by kernel_rfl)) rfl rfl)
        refine Step.call _ rfl rfl (wanted_some (g := 28) (b := true) rfl gd) 15 #[.agg #[.int .i64 R, .int .i64 K, .slice AG (R * K) cG], .int .i64 row, .int .i64 col, .int .i64 mm, .agg #[.int .i64 pa, .int .i64 pb, .int .i64 pc]] (fun ρ hρ => ?_) ?_
        · skip
          rw [hρ] at e0 e1 e2 e3 e4
          have ef : ρ (.func 15) = .func (.func 15) #[] #[] := (hρ _).symm
          clear hJ hsame hdep hcl hρ hsz gd
          go_simp
        · refine (u_delete HG.out.1 (HIG.out.low (hJ.kept.toBelow (Nat.le_refl _) (by simp))) row col mm (pa, pb, pc) HP.out (by have := HK.out; omega) (by have := HK.out; omega) (by have := HK.out; omega)).mono ?_
          rintro e w2 ⟨v, rfl, hg, bb⟩
          exact ⟨v, rfl, hJ.grid hRS hcl hL rfl bb v hg⟩
      · intro L a w' hL hsame hsz hJ hdep hcl
        have gd : valOf _ 28 a = .bool true := hJ.valOf (by decide) (dep_of hdep 28 (by kernel_rfl)) rfl rfl
        obtain ⟨v34, hv34, hG34⟩ := hJ.gridAt (j := 34) (by decide) (dep_of hdep 34 (by kernel_rfl)) rfl
        have hG34 : IsG w' (PG.shiftI G row col (-(mm : Int)) (pa, pb, pc)) v34 := hG34
        have e0 : a.eval (.tmp 157) = v34 := eval_slot (j := 34) (by kernel_rfl) hv34
        refine Step.call _ rfl rfl (wanted_some (g := 28) (b := true) rfl gd) 26 #[v34] (fun ρ hρ => ?_) ?_
        · skip
          rw [hρ] at e0
          have ef : ρ (.func 26) = .func (.func 26) #[] #[] := (hρ _).symm
          clear hJ hsame hdep hcl hρ hsz gd
          go_simp
        · refine (u_right (PG.right_shiftI HG.out.1 HP.out _ _ _) hG34 (SP.out.keptS hJ.kept (by simp))).mono ?_
          rintro e w2 ⟨rfl, bb⟩
          exact ⟨_, rfl, hJ.val hRS hcl hL rfl bb _ rfl⟩
      · intro L a w' hL hsame hsz hJ hdep hcl
        have e0 : a.eval (.tmp 151) = (.bool true) := eval_slot (j := 28) (by kernel_rfl) (hJ.valOf (by decide) (dep_of hdep 28 (by kernel_rfl)) rfl rfl)
        have e1 : a.eval (.tmp 158) = (.bool true) := eval_slot (j := 35) (by kernel_rfl) (hJ.valOf (by decide) (dep_of hdep 35 (by kernel_rfl)) rfl rfl)
        refine Step.val _ rfl rfl (wanted_none rfl) (.bool true) w' (fun ρ hρ => ?_) (hJ.val hRS hcl hL rfl (Below.refl _ _) _ rfl)
        rw [hρ] at e0 e1
        have ec0 : ρ (.const (.bool false)) = (.bool false) := (hρ _).symm
        clear hJ hsame hdep hcl hρ hsz
        go_simp
      · intro L a w' hL hsame hsz hJ hdep hcl
        have e0 : a.eval (.tmp 159) = (.bool true) := eval_slot (j := 36) (by kernel_rfl) (hJ.valOf (by decide) (dep_of hdep 36 (by kernel_rfl)) rfl rfl)
        refine Step.val _ rfl rfl (wanted_none rfl) (.bool true) w' (fun ρ hρ => ?_) (hJ.val hRS hcl hL rfl (Below.refl _ _) _ rfl)
        rw [hρ] at e0
        clear hJ hsame hdep hcl hρ hsz
        go_simp
      · intro L a w' hL hsame hsz hJ hdep hcl
        have gd : valOf _ 37 a = .bool true := hJ.valOf (by decide) (dep_of hdep 37 (by kernel_rfl)) rfl rfl
        have e0 : a.eval (.tmp 11) = (.pointer (some ⟨gG, 0, none⟩)) := eval_base hsame (by kernel_rfl)
        have hb := hJ.keptBox HBG.out (by simp)
        have q0 : w'.cell? ⟨gG, 0, none⟩ = some (.int .i64 R) := hb.cell 0
        have q1 : w'.cell? ⟨gG, 1, none⟩ = some (.int .i64 K) := hb.cell 1
        have q2 : w'.cell? ⟨gG, 2, none⟩ = some (.slice AG (R * K) cG) := hb.cell 2
        refine Step.val _ rfl rfl (wanted_some (g := 37) (b := true) rfl gd) (.agg #[.int .i64 R, .int .i64 K, .slice AG (R * K) cG]) w' (fun ρ hρ => ?_) (hJ.val hRS hcl hL rfl (Below.refl _ _) _ rfl)
        rw [hρ] at e0
        clear hb
        clear hJ hsame hdep hcl hρ hsz gd
        go_simp
      · intro L a w' hL hsame hsz hJ hdep hcl
        have gd : valOf _ 37 a = .bool true := hJ.valOf (by decide) (dep_of hdep 37 (by kernel_rfl)) rfl rfl
        have e0 : a.eval (.tmp 13) = (.int .i64 row) := eval_base hsame (by kernel_rfl)
        refine Step.val _ rfl rfl (wanted_some (g := 37) (b := true) rfl gd) (.int .i64 row) w' (fun ρ hρ => ?_) (hJ.val hRS hcl hL rfl (Below.refl _ _) _ rfl)
        rw [hρ] at e0
        clear hJ hsame hdep hcl hρ hsz gd
        go_simp
      · intro L a w' hL hsame hsz hJ hdep hcl
        have gd : valOf _ 37 a = .bool true := hJ.valOf (by decide) (dep_of hdep 37 (by kernel_rfl)) rfl rfl
        have e0 : a.eval (.tmp 14) = (.int .i64 col) := eval_base hsame (by kernel_rfl)
        refine Step.val _ rfl rfl (wanted_some (g := 37) (b := true) rfl gd) (.int .i64 col) w' (fun ρ hρ => ?_) (hJ.val hRS hcl hL rfl (Below.refl _ _) _ rfl)
        rw [hρ] at e0
        clear hJ hsame hdep hcl hρ hsz gd
        go_simp
      · intro L a w' hL hsame hsz hJ hdep hcl
        have gd : valOf _ 37 a = .bool true := hJ.valOf (by decide) (dep_of hdep 37 (by kernel_rfl)) rfl rfl
        have e0 : a.eval (.tmp 12) = (.pointer (some ⟨gP, 0, none⟩)) := eval_base hsame (by kernel_rfl)
        have hb := hJ.keptBox BP.out (by simp)
        have q0 : w'.cell? ⟨gP, 0, none⟩ = some (.int .i64 pa) := hb.cell 0
        have q1 : w'.cell? ⟨gP, 1, none⟩ = some (.int .i64 pb) := hb.cell 1
        have q2 : w'.cell? ⟨gP, 2, none⟩ = some (.int .i64 pc) := hb.cell 2
        refine Step.val _ rfl rfl (wanted_some (g := 37) (b := true) rfl gd) (.agg #[.int .i64 pa, .int .i64 pb, .int .i64 pc]) w' (fun ρ hρ => ?_) (hJ.val hRS hcl hL rfl (Below.refl _ _) _ rfl)
        rw [hρ] at e0
        clear hb
        clear hJ hsame hdep hcl hρ hsz gd
        go_simp
      · intro L a w' hL hsame hsz hJ hdep hcl
        have gd : valOf _ 37 a = .bool true := hJ.valOf (by decide) (dep_of hdep 37 (by kernel_rfl)) rfl rfl
        have e0 : a.eval (.tmp 161) = (.agg #[.int .i64 R, .int .i64 K, .slice AG (R * K) cG]) := eval_slot (j := 38) (by kernel_rfl) (hJ.valOf (by decide) (dep_of hdep 38 (by kernel_rfl)) rfl rfl)
        have e1 : a.eval (.tmp 162) = (.int .i64 row) := eval_slot (j := 39) (by kernel_rfl) (hJ.valOf (by decide) (dep_of hdep 39 (by kernel_rfl)) rfl rfl)
        have e2 : a.eval (.tmp 163) = (.int .i64 col) := eval_slot (j := 40) (by kernel_rfl) (hJ.valOf (by decide) (dep_of hdep 40 (by kernel_rfl)) rfl rfl)
        have e4 : a.eval (.tmp 164) = (.agg #[.int .i64 pa, .int .i64 pb, .int .i64 pc]) := eval_slot (j := 41) (by kernel_rfl) (hJ.valOf (by decide) (dep_of hdep 41 (by kernel_rfl)) rfl rfl)
        refine Step.call _ rfl rfl (wanted_some (g := 37) (b := true) rfl gd) 22 #[.agg #[.int .i64 R, .int .i64 K, .slice AG (R * K) cG], .int .i64 row, .int .i64 col, .int .i64 2, .agg #[.int .i64 pa, .int .i64 pb, .int .i64 pc]] (fun ρ hρ => ?_) ?_
        · skip
          rw [hρ] at e0 e1 e2 e4
          have ec0 : ρ (.const (.int .i64 2)) = (.int .i64 2) := (hρ _).symm
          have ef : ρ (.func 22) = .func (.func 22) #[] #[] := (hρ _).symm
          clear hJ hsame hdep hcl hρ hsz gd
          go_simp
        · refine (u_erase HG.out.1 (HIG.out.low (hJ.kept.toBelow (Nat.le_refl _) (by simp))) row col 2 (pa, pb, pc) HP.out (by have := HK.out; omega) (by have := HK.out; omega)).mono ?_
          rintro e w2 ⟨v, rfl, hg, bb⟩
          exact ⟨v, rfl, hJ.grid hRS hcl hL rfl bb v hg⟩
      · intro L a w' hL hsame hsz hJ hdep hcl
        have gd : valOf _ 37 a = .bool true := hJ.valOf (by decide) (dep_of hdep 37 (by kernel_rfl)) rfl rfl
        have e0 : a.eval (.tmp 11) = (.pointer (some ⟨gG, 0, none⟩)) := eval_base hsame (by kernel_rfl)
        refine Step.val _ rfl rfl (wanted_some (g := 37) (b := true) rfl gd) (.pointer (some ⟨gG, 0, none⟩)) w' (fun ρ hρ => ?_) (hJ.val hRS hcl hL rfl (Below.refl _ _) _ rfl)
        rw [hρ] at e0
        clear hJ hsame hdep hcl hρ hsz gd
        go_simp
      · intro L a w' hL hsame hsz hJ hdep hcl
        have gd : valOf _ 37 a = .bool true := hJ.valOf (by decide) (dep_of hdep 37 (by kernel_rfl)) rfl rfl
        have e0 : a.eval (.tmp 166) = (.pointer (some ⟨gG, 0, none⟩)) := eval_slot (j := 43) (by kernel_rfl) (hJ.valOf (by decide) (dep_of hdep 43 (by kernel_rfl)) rfl rfl)
        have hb := hJ.keptBox HBG.out (by simp)
        have q0 : w'.cell? ⟨gG, 0, none⟩ = some (.int .i64 R) := hb.cell 0
        refine Step.val _ rfl rfl (wanted_some (g := 37) (b := true) rfl gd) (.int .i64 R) w' (fun ρ hρ => ?_) (hJ.val hRS hcl hL rfl (Below.refl _ _) _ rfl)
        rw [hρ] at e0
        clear hb
        clear hJ hsame hdep hcl hρ hsz gd
        go_simp
      · intro L a w' hL hsame hsz hJ hdep hcl
        have gd : valOf _ 37 a = .bool true := hJ.valOf (by decide) (dep_of hdep 37 (by kernel_rfl)) rfl rfl
        have e0 : a.eval (.tmp 11) = (.pointer (some ⟨gG, 0, none⟩)) := eval_base hsame (by kernel_rfl)
        refine Step.val _ rfl rfl (wanted_some (g := 37) (b := true) rfl gd) (.pointer (some ⟨gG, 1, none⟩)) w' (fun ρ hρ => ?_) (hJ.val hRS hcl hL rfl (Below.refl _ _) _ rfl)
        rw [hρ] at e0
        clear hJ hsame hdep hcl hρ hsz gd
        go_simp
      · intro L a w' hL hsame hsz hJ hdep hcl
        have gd : valOf _ 37 a = .bool true := hJ.valOf (by decide) (dep_of hdep 37 (by kernel_rfl)) rfl rfl
        have e0 : a.eval (.tmp 168) = (.pointer (some ⟨gG, 1, none⟩)) := eval_slot (j := 45) (by kernel_rfl) (hJ.valOf (by decide) (dep_of hdep 45 (by kernel_rfl)) rfl rfl)
        have hb := hJ.keptBox HBG.out (by simp)
        have q0 : w'.cell? ⟨gG, 1, none⟩ = some (.int .i64 K) := hb.cell 1
        refine Step.val _ rfl rfl (wanted_some (g := 37) (b := true) rfl gd) (.int .i64 K) w' (fun ρ hρ => ?_) (hJ.val hRS hcl hL rfl (Below.refl _ _) _ rfl)
        rw [hρ] at e0
        clear hb
        clear hJ hsame hdep hcl hρ hsz gd
        go_simp
      · intro L a w' hL hsame hsz hJ hdep hcl
        have gd : valOf _ 37 a = .bool true := hJ.valOf (by decide) (dep_of hdep 37 (by kernel_rfl)) rfl rfl
        have e0 : a.eval (.tmp 12) = (.pointer (some ⟨gP, 0, none⟩)) := eval_base hsame (by kernel_rfl)
        have hb := hJ.keptBox BP.out (by simp)
        have q0 : w'.cell? ⟨gP, 0, none⟩ = some (.int .i64 pa) := hb.cell 0
        have q1 : w'.cell? ⟨gP, 1, none⟩ = some (.int .i64 pb) := hb.cell 1
        have q2 : w'.cell? ⟨gP, 2, none⟩ = some (.int .i64 pc) := hb.cell 2
        refine Step.val _ rfl rfl (wanted_some (g := 37) (b := true) rfl gd) (.agg #[.int .i64 pa, .int .i64 pb, .int .i64 pc]) w' (fun ρ hρ => ?_) (hJ.val hRS hcl hL rfl (Below.refl _ _) _ rfl)
        rw [hρ] at e0
        clear hb
        clear hJ hsame hdep hcl hρ hsz gd
        go_simp
      · intro L a w' hL hsame hsz hJ hdep hcl
        have gd : valOf _ 37 a = .bool true := hJ.valOf (by decide) (dep_of hdep 37 (by kernel_rfl)) rfl rfl
        have e0 : a.eval (.tmp 167) = (.int .i64 R) := eval_slot (j := 44) (by kernel_rfl) (hJ.valOf (by decide) (dep_of hdep 44 (by kernel_rfl)) rfl rfl)
        have e1 : a.eval (.tmp 169) = (.int .i64 K) := eval_slot (j := 46) (by kernel_rfl) (hJ.valOf (by decide) (dep_of hdep 46 (by kernel_rfl)) rfl rfl)
        have e2 : a.eval (.tmp 170) = (.agg #[.int .i64 pa, .int .i64 pb, .int .i64 pc]) := eval_slot (j := 47) (by kernel_rfl) (hJ.valOf (by decide) (dep_of hdep 47 (by kernel_rfl)) rfl rfl)
        refine Step.call _ rfl rfl (wanted_some (g := 37) (b := true) rfl gd) 9 #[.int .i64 R, .int .i64 K, .agg #[.int .i64 pa, .int .i64 pb, .int .i64 pc]] (fun ρ hρ => ?_) ?_
        · skip
          rw [hρ] at e0 e1 e2
          have ef : ρ (.func 9) = .func (.func 9) #[] #[] := (hρ _).symm
          clear hJ hsame hdep hcl hρ hsz gd
          go_simp
        · refine (u_new R K (pa, pb, pc) w' (by have := HK.out; omega) (by have := HK.out; omega) (by have := HK.out; omega) (by have := HK.out; omega)).mono ?_
          rintro e w2 ⟨v, rfl, hg, bb⟩
          exact ⟨v, rfl, hJ.grid hRS hcl hL rfl bb v hg⟩
      · intro L a w' hL hsame hsz hJ hdep hcl
        have gd : valOf _ 37 a = .bool true := hJ.valOf (by decide) (dep_of hdep 37 (by kernel_rfl)) rfl rfl
        obtain ⟨v42, hv42, hG42⟩ := hJ.gridAt (j := 42) (by decide) (dep_of hdep 42 (by kernel_rfl)) rfl
        have hG42 : IsG w' (PG.eraseI G row col 2 (pa, pb, pc)) v42 := hG42
        have e0 : a.eval (.tmp 165) = v42 := eval_slot (j := 42) (by kernel_rfl) hv42
        obtain ⟨v48, hv48, hG48⟩ := hJ.gridAt (j := 48) (by decide) (dep_of hdep 48 (by kernel_rfl)) rfl
        have hG48 : IsG w' (PG.newG R K (pa, pb, pc)) v48 := hG48
        have e1 : a.eval (.tmp 171) = v48 := eval_slot (j := 48) (by kernel_rfl) hv48
        refine Step.call _ rfl rfl (wanted_some (g := 37) (b := true) rfl gd) 28 #[v42, v48] (fun ρ hρ => ?_) ?_
        · skip
          rw [hρ] at e0 e1
          have ef : ρ (.func 28) = .func (.func 28) #[] #[] := (hρ _).symm
          clear hJ hsame hdep hcl hρ hsz gd
          go_simp
        · refine (u_same (PG.right_eraseI HG.out.1 HP.out _ _ _) hG42 hG48 HZ3.out).mono ?_
          rintro e w2 ⟨rfl, bb⟩
          exact ⟨_, rfl, hJ.val hRS hcl hL rfl bb _ rfl⟩
      · intro L a w' hL hsame hsz hJ hdep hcl
        have e0 : a.eval (.tmp 160) = (.bool true) := eval_slot (j := 37) (by kernel_rfl) (hJ.valOf (by decide) (dep_of hdep 37 (by kernel_rfl)) rfl rfl)
        have e1 : a.eval (.tmp 172) = (.bool true) := eval_slot (j := 49) (by kernel_rfl) (hJ.valOf (by decide) (dep_of hdep 49 (by kernel_rfl)) rfl rfl)
        refine Step.val _ rfl rfl (wanted_none rfl) (.bool true) w' (fun ρ hρ => ?_) (hJ.val hRS hcl hL rfl (Below.refl _ _) _ rfl)
        rw [hρ] at e0 e1
        have ec0 : ρ (.const (.bool false)) = (.bool false) := (hρ _).symm
        clear hJ hsame hdep hcl hρ hsz
        go_simp
      · intro L a w' hL hsame hsz hJ hdep hcl
        have e0 : a.eval (.tmp 173) = (.bool true) := eval_slot (j := 50) (by kernel_rfl) (hJ.valOf (by decide) (dep_of hdep 50 (by kernel_rfl)) rfl rfl)
        refine Step.val _ rfl rfl (wanted_none rfl) (.bool true) w' (fun ρ hρ => ?_) (hJ.val hRS hcl hL rfl (Below.refl _ _) _ rfl)
        rw [hρ] at e0
        clear hJ hsame hdep hcl hρ hsz
        go_simp
      · intro L a w' hL hsame hsz hJ hdep hcl
        have gd : valOf _ 51 a = .bool true := hJ.valOf (by decide) (dep_of hdep 51 (by kernel_rfl)) rfl rfl
        refine Step.call _ rfl rfl (wanted_some (g := 51) (b := true) rfl gd) 3 #[] (fun ρ hρ => ?_) ?_
        · skip
          have ef : ρ (.func 3) = .func (.func 3) #[] #[] := (hρ _).symm
          clear hJ hsame hdep hcl hρ hsz gd
          go_simp
        · refine (editRuns_any w' (SP.out.keptS hJ.kept (by simp))).mono ?_
          rintro e w2 ⟨rfl, bb⟩
          exact ⟨_, rfl, hJ.val hRS hcl hL rfl bb _ rfl⟩
      · intro L a w' hL hsame hsz hJ hdep hcl
        have e0 : a.eval (.tmp 174) = (.bool true) := eval_slot (j := 51) (by kernel_rfl) (hJ.valOf (by decide) (dep_of hdep 51 (by kernel_rfl)) rfl rfl)
        have e1 : a.eval (.tmp 175) = (.bool true) := eval_slot (j := 52) (by kernel_rfl) (hJ.valOf (by decide) (dep_of hdep 52 (by kernel_rfl)) rfl rfl)
        refine Step.val _ rfl rfl (wanted_none rfl) (.bool true) w' (fun ρ hρ => ?_) (hJ.val hRS hcl hL rfl (Below.refl _ _) _ rfl)
        rw [hρ] at e0 e1
        have ec0 : ρ (.const (.bool false)) = (.bool false) := (hρ _).symm
        clear hJ hsame hdep hcl hρ hsz
        go_simp
      · intro L a w' hL hsame hsz hJ hdep hcl
        have e0 : a.eval (.tmp 176) = (.bool true) := eval_slot (j := 53) (by kernel_rfl) (hJ.valOf (by decide) (dep_of hdep 53 (by kernel_rfl)) rfl rfl)
        refine Step.val _ rfl rfl (wanted_none rfl) (.bool true) w' (fun ρ hρ => ?_) (hJ.val hRS hcl hL rfl (Below.refl _ _) _ rfl)
        rw [hρ] at e0
        clear hJ hsame hdep hcl hρ hsz
        go_simp
      · intro L a w' hsame hsz hJ hall
        obtain ⟨u, hu, ha⟩ := act_puts hsame
        have h : (u 54 = .bool true) ∧ Below wc.heap.size wc w' := by
          (try simp only [hu])
          exact (And.intro (hJ.valOf (j := 54) (by decide) (hall 54 (by decide)) rfl rfl) (hJ.kept.toBelow (Nat.le_refl _) (by simp)))
        have h := hide h
        clear hJ hall hsz hu hsame
        subst ha
        change Exit.then _ _ Exit.normal (Act.put (Act.put (Act.put (Act.put (Act.put (Act.put (Act.put (Act.put (Act.put (Act.put (Act.put (Act.put (Act.put (Act.put (Act.put (Act.put (Act.put (Act.put (Act.put (Act.put (Act.put (Act.put (Act.put (Act.put (Act.put (Act.put (Act.put (Act.put (Act.put (Act.put (Act.put (Act.put (Act.put (Act.put (Act.put (Act.put (Act.put (Act.put (Act.put (Act.put (Act.put (Act.put (Act.put (Act.put (Act.put (Act.put (Act.put (Act.put (Act.put (Act.put (Act.put (Act.put (Act.put (Act.put (Act.put (putAll _ u 0 _) (some 123) (u 0)) (some 124) (u 1)) (some 125) (u 2)) (some 126) (u 3)) (some 127) (u 4)) (some 128) (u 5)) (some 129) (u 6)) (some 130) (u 7)) (some 131) (u 8)) (some 132) (u 9)) (some 133) (u 10)) (some 134) (u 11)) (some 135) (u 12)) (some 136) (u 13)) (some 137) (u 14)) (some 138) (u 15)) (some 139) (u 16)) (some 140) (u 17)) (some 141) (u 18)) (some 142) (u 19)) (some 143) (u 20)) (some 144) (u 21)) (some 145) (u 22)) (some 146) (u 23)) (some 147) (u 24)) (some 148) (u 25)) (some 149) (u 26)) (some 150) (u 27)) (some 151) (u 28)) (some 152) (u 29)) (some 153) (u 30)) (some 154) (u 31)) (some 155) (u 32)) (some 156) (u 33)) (some 157) (u 34)) (some 158) (u 35)) (some 159) (u 36)) (some 160) (u 37)) (some 161) (u 38)) (some 162) (u 39)) (some 163) (u 40)) (some 164) (u 41)) (some 165) (u 42)) (some 166) (u 43)) (some 167) (u 44)) (some 168) (u 45)) (some 169) (u 46)) (some 170) (u 47)) (some 171) (u 48)) (some 172) (u 49)) (some 173) (u 50)) (some 174) (u 51)) (some 175) (u 52)) (some 176) (u 53)) (some 10) (u 54)) _
        simp only [putAll]
        generalize u 0 = v0
        generalize u 1 = v1
        generalize u 2 = v2
        generalize u 3 = v3
        generalize u 4 = v4
        generalize u 5 = v5
        generalize u 6 = v6
        generalize u 7 = v7
        generalize u 8 = v8
        generalize u 9 = v9
        generalize u 10 = v10
        generalize u 11 = v11
        generalize u 12 = v12
        generalize u 13 = v13
        generalize u 14 = v14
        generalize u 15 = v15
        generalize u 16 = v16
        generalize u 17 = v17
        generalize u 18 = v18
        generalize u 19 = v19
        generalize u 20 = v20
        generalize u 21 = v21
        generalize u 22 = v22
        generalize u 23 = v23
        generalize u 24 = v24
        generalize u 25 = v25
        generalize u 26 = v26
        generalize u 27 = v27
        generalize u 28 = v28
        generalize u 29 = v29
        generalize u 30 = v30
        generalize u 31 = v31
        generalize u 32 = v32
        generalize u 33 = v33
        generalize u 34 = v34
        generalize u 35 = v35
        generalize u 36 = v36
        generalize u 37 = v37
        generalize u 38 = v38
        generalize u 39 = v39
        generalize u 40 = v40
        generalize u 41 = v41
        generalize u 42 = v42
        generalize u 43 = v43
        generalize u 44 = v44
        generalize u 45 = v45
        generalize u 46 = v46
        generalize u 47 = v47
        generalize u 48 = v48
        generalize u 49 = v49
        generalize u 50 = v50
        generalize u 51 = v51
        generalize u 52 = v52
        generalize u 53 = v53
        generalize u 54 = v54 at h ⊢
        go_simp
        go_step
        go_meet
        exact h.out
  case rest =>
  obtain ⟨rfl, bc⟩ := hcut
  have BB := hide (BB.out.trans (bc.mono BB.out.size))
  have SP := hide (SP.out.keep bc)
  have HBG := hide (HBG.out.below bc HBG.out.lt)
  have HIG := hide (HIG.out.low bc)
  have BP := hide (BP.out.below bc BP.out.lt)
  have HBI := hide (HBI.out.below bc HBI.out.lt)
  have HII := hide (HII.out.low bc)
  go_wp2_with fail
  go_ret
  exact ⟨rfl, BB.out⟩
theorem editLaws_any (rw_ cl : Int) (Ap : Option Addr) (np cp : Nat) (lp : List Int) (At : Option Addr) (nt ct : Nat) (lt : List Int) (r c m a0 a1 a2 : Int) (w : World)
    (hrw : (Lit.int .i64 rw_).wf = true) (hcl : (Lit.int .i64 cl).wf = true) (hA : Arg .i64 w Ap np cp lp) (hB : Arg .i64 w At nt ct lt) (hr : (Lit.int .i64 r).wf = true) (hc : (Lit.int .i64 c).wf = true) (hm : (Lit.int .i64 m).wf = true) (ha0 : (Lit.int .i64 a0).wf = true) (ha1 : (Lit.int .i64 a1).wf = true) (ha2 : (Lit.int .i64 a2).wf = true) (hs : Spans w) :
    Calls Tryd.prog 5 #[.agg #[.int .i64 rw_, .int .i64 cl, .slice Ap np cp, .slice At nt ct], .int .i64 r, .int .i64 c, .int .i64 m, .agg #[.int .i64 a0, .int .i64 a1, .int .i64 a2]] w fun e w' => e = .returned (.bool true) ∧ Below w.heap.size w w' :=
  editLaws_core rw_ cl Ap np cp lp At nt ct lt r c m a0 a1 a2 w (bounds_i64 hrw) (bounds_i64 hcl) hA hB (bounds_i64 hr) (bounds_i64 hc) (bounds_i64 hm) (bounds_i64 ha0) (bounds_i64 ha1) (bounds_i64 ha2) hs
end Go.Proofs.YtcbmjdacdjcggaaDoor
