/- GridWide: a wide rune is two cells; either overwritten, the other is blank; wiped through one half both are. -/
import Derived.Test.YtfeapcneebofjaaDoorGridRuns
import Derived.Test.YtfeapcneebofjaaDoorGridVar
import Derived.Test.YtfeapcneebofjaaDoorKeepPen
set_option maxRecDepth 100000
namespace Go.Proofs.YtfeapcneebofjaaDoor
open Go.RowKit
set_option linter.unusedVariables false
set_option maxHeartbeats 16000000 in
theorem gridWide_core (c n a0 a1 a2 b0 b1 b2 : Int) (w : World) (hc : -9223372036854775808 ≤ c ∧ c ≤ 9223372036854775807) (hn : -9223372036854775808 ≤ n ∧ n ≤ 9223372036854775807)
    (ha0 : -9223372036854775808 ≤ a0 ∧ a0 ≤ 9223372036854775807) (ha1 : -9223372036854775808 ≤ a1 ∧ a1 ≤ 9223372036854775807) (ha2 : -9223372036854775808 ≤ a2 ∧ a2 ≤ 9223372036854775807)
    (hb0 : -9223372036854775808 ≤ b0 ∧ b0 ≤ 9223372036854775807) (hb1 : -9223372036854775808 ≤ b1 ∧ b1 ≤ 9223372036854775807) (hb2 : -9223372036854775808 ≤ b2 ∧ b2 ≤ 9223372036854775807) (hs : Spans w) :
    Calls Tryd.prog 7 #[.int .i64 c, .int .i64 n, .agg #[.int .i64 a0, .int .i64 a1, .int .i64 a2], .agg #[.int .i64 b0, .int .i64 b1, .int .i64 b2]] w fun e w' => e = .returned (.bool true) ∧ Below w.heap.size w w' := by
  have hP := C.kpen_right a0 a1 a2
  have hQ := C.kpen_right b0 b1 b2
  have K1 := hide (fun w' => keepPen_any a0 a1 a2 w' ha0.1 ha0.2 ha1.1 ha1.2 ha2.1 ha2.2)
  have K2 := hide (fun w' => keepPen_any b0 b1 b2 w' hb0.1 hb0.2 hb1.1 hb1.2 hb2.1 hb2.2)
  generalize C.kcol a0 = pa at hP K1
  generalize C.kcol a1 = pb at hP K1
  generalize a2 % 256 = pc at hP K1
  generalize C.kcol b0 = qa at hQ K2
  generalize C.kcol b1 = qb at hQ K2
  generalize b2 % 256 = qc at hQ K2
  obtain ⟨k, hk⟩ : ∃ k : Nat, 0 + c % (6 - 0 + 1) = k := ⟨(c % 7).toNat, by omega⟩
  obtain ⟨m, hm⟩ : ∃ m : Int, 0 + n % (999 - 0 + 1) = m := ⟨_, rfl⟩
  have KC := hide (fun w' => within_is c 0 6 k hk w' hc.1 hc.2 (by omega) (by omega) (by omega))
  have KN := hide (fun w' => within_is n 0 999 m hm w' hn.1 hn.2 (by omega) (by omega) (by omega))
  have hk6 : k ≤ 6 := by omega
  obtain ⟨x, hx⟩ : ∃ x, 19968 + m = x := ⟨_, rfl⟩
  have hx0 : 19968 ≤ x := by omega
  have hx1 : x ≤ 20967 := by omega
  have hwr : wrap32 (wrap64 (19968 + m)) = x := by rw [hx]; unfold wrap32 wrap64; omega
  obtain ⟨G, LG, RG, WG, CG, eG, F⟩ := PG.wide_all (P := (pa, pb, pc)) (Q := (qa, qb, qc)) hP hQ hk6 hx0 hx1
  have F := hide F
  have hP : PG.okPen (pa, pb, pc) := hP
  have hQ : PG.okPen (qa, qb, qc) := hQ
  have HPQ := hide (And.intro hP hQ)
  have eG := hide eG
  have SP := hide hs
  clear hc hn ha0 ha1 ha2 hb0 hb1 hb2 hk hm hs hP hQ
  go_enter Tryd.func7, Tryd.ntmps7
  go_upto_region 1 with fail
  have bX := (Box.new w 34 #[.int .i64 a0, .int .i64 a1, .int .i64 a2]).alloc (.cells #[.int .i64 b0, .int .i64 b1, .int .i64 b2] 34)
  have bY := Box.fresh (w := w.alloc (.cells #[.int .i64 a0, .int .i64 a1, .int .i64 a2] 34)) (t := 34) (cs := #[.int .i64 b0, .int .i64 b1, .int .i64 b2]) (g := w.heap.size + 1) (by simp)
  have bb : Below w.heap.size w ((w.alloc (.cells #[.int .i64 a0, .int .i64 a1, .int .i64 a2] 34)).alloc (.cells #[.int .i64 b0, .int .i64 b1, .int .i64 b2] 34)) := ((Below.refl _ _).alloc (Nat.le_refl _) _).alloc (by simp) _
  generalize (w.alloc (.cells #[.int .i64 a0, .int .i64 a1, .int .i64 a2] 34)).alloc (.cells #[.int .i64 b0, .int .i64 b1, .int .i64 b2] 34) = w1 at bX bY bb ⊢
  obtain ⟨gX, hgX⟩ : ∃ g, w.heap.size = g := ⟨_, rfl⟩
  have BX := hide bX
  have BY := hide bY
  have BB := hide bb
  have SP := hide (SP.out.keep bb)
  rw [hgX] at BX BY ⊢
  generalize gX + 1 = gY at BY ⊢
  clear bX bY bb hgX
  go_cut [9, 10] (fun u9 u10 wx => ((PBox (pa, pb, pc) u9 wx ∧ PBox (qa, qb, qc) u10 wx)) ∧ Below w1.heap.size w1 wx)
  case first =>
    as_aux_lemma =>
      refine wp_region_rj (n := 173) [] (fun _ => #[]) [(0, 0, 0, 0), (0, 0, 0, 0), (0, 0, 0, 0), (0, 0, 0, 0), (2, 0, 0, 23), (2, 0, 0, 23), (3, 4, 1, 23), (3, 5, 3, 23)] (fun j => [(.agg #[.int .i64 a0, .int .i64 a1, .int .i64 a2]), (.agg #[.int .i64 pa, .int .i64 pb, .int .i64 pc]), (.agg #[.int .i64 b0, .int .i64 b1, .int .i64 b2]), (.agg #[.int .i64 qa, .int .i64 qb, .int .i64 qc]), undef, undef, undef, undef].getD j undef) (fun j => [PG.dflt, PG.dflt, PG.dflt, PG.dflt, PG.dflt, PG.dflt, PG.dflt, PG.dflt].getD j PG.dflt) (fun _ => 0) (by kernel_rfl) (by kernel_rfl) (by kernel_rfl) rfl (by kernel_rfl) (no4 rfl) (fun i j h => by revert h; exact no4 (p := fun _ => _) rfl i) (fun hRS => cases8 ⟨?_, ?_, ?_, ?_, ?_, ?_, ?_, ?_⟩) ?_
      · intro L a w' hL hsame hsz hJ hdep hcl
        have e0 : a.eval (.tmp 6) = (.pointer (some ⟨gX, 0, none⟩)) := eval_base hsame (by kernel_rfl)
        have hb := hJ.keptBox BX.out (by simp)
        have q0 : w'.cell? ⟨gX, 0, none⟩ = some (.int .i64 a0) := hb.cell 0
        have q1 : w'.cell? ⟨gX, 1, none⟩ = some (.int .i64 a1) := hb.cell 1
        have q2 : w'.cell? ⟨gX, 2, none⟩ = some (.int .i64 a2) := hb.cell 2
        refine Step.val _ rfl rfl (wanted_none rfl) (.agg #[.int .i64 a0, .int .i64 a1, .int .i64 a2]) w' (fun ρ hρ => ?_) (hJ.val hRS hcl hL rfl (Below.refl _ _) _ rfl)
        rw [hρ] at e0
        clear hb
        clear hJ hsame hdep hcl hρ hsz
        go_simp
      · intro L a w' hL hsame hsz hJ hdep hcl
        have e0 : a.eval (.tmp 33) = (.agg #[.int .i64 a0, .int .i64 a1, .int .i64 a2]) := eval_slot (j := 0) (by kernel_rfl) (hJ.valOf (by decide) (dep_of hdep 0 (by kernel_rfl)) rfl rfl)
        refine Step.call _ rfl rfl (wanted_none rfl) 13 #[.agg #[.int .i64 a0, .int .i64 a1, .int .i64 a2]] (fun ρ hρ => ?_) ?_
        · skip
          rw [hρ] at e0
          have ef : ρ (.func 13) = .func (.func 13) #[] #[] := (hρ _).symm
          clear hJ hsame hdep hcl hρ hsz
          go_simp
        · refine (K1.out w').mono ?_
          rintro e w2 ⟨rfl, bb⟩
          exact ⟨_, rfl, hJ.val hRS hcl hL rfl bb _ rfl⟩
      · intro L a w' hL hsame hsz hJ hdep hcl
        have e0 : a.eval (.tmp 7) = (.pointer (some ⟨gY, 0, none⟩)) := eval_base hsame (by kernel_rfl)
        have hb := hJ.keptBox BY.out (by simp)
        have q0 : w'.cell? ⟨gY, 0, none⟩ = some (.int .i64 b0) := hb.cell 0
        have q1 : w'.cell? ⟨gY, 1, none⟩ = some (.int .i64 b1) := hb.cell 1
        have q2 : w'.cell? ⟨gY, 2, none⟩ = some (.int .i64 b2) := hb.cell 2
        refine Step.val _ rfl rfl (wanted_none rfl) (.agg #[.int .i64 b0, .int .i64 b1, .int .i64 b2]) w' (fun ρ hρ => ?_) (hJ.val hRS hcl hL rfl (Below.refl _ _) _ rfl)
        rw [hρ] at e0
        clear hb
        clear hJ hsame hdep hcl hρ hsz
        go_simp
      · intro L a w' hL hsame hsz hJ hdep hcl
        have e0 : a.eval (.tmp 35) = (.agg #[.int .i64 b0, .int .i64 b1, .int .i64 b2]) := eval_slot (j := 2) (by kernel_rfl) (hJ.valOf (by decide) (dep_of hdep 2 (by kernel_rfl)) rfl rfl)
        refine Step.call _ rfl rfl (wanted_none rfl) 13 #[.agg #[.int .i64 b0, .int .i64 b1, .int .i64 b2]] (fun ρ hρ => ?_) ?_
        · skip
          rw [hρ] at e0
          have ef : ρ (.func 13) = .func (.func 13) #[] #[] := (hρ _).symm
          clear hJ hsame hdep hcl hρ hsz
          go_simp
        · refine (K2.out w').mono ?_
          rintro e w2 ⟨rfl, bb⟩
          exact ⟨_, rfl, hJ.val hRS hcl hL rfl bb _ rfl⟩
      · intro L a w' hL hsame hsz hJ hdep hcl
        refine Step.val _ rfl rfl (wanted_none rfl) (.pointer (some ⟨w'.heap.size, 0, none⟩)) (w'.alloc (.cells #[.int .i64 0, .int .i64 0, .int .i64 0] 23)) (fun ρ hρ => ?_) (hJ.box hRS hcl hL rfl 23 rfl (.int .i64 0) (.int .i64 0) (.int .i64 0))
        clear hJ hsame hdep hcl hρ hsz
        go_simp
      · intro L a w' hL hsame hsz hJ hdep hcl
        refine Step.val _ rfl rfl (wanted_none rfl) (.pointer (some ⟨w'.heap.size, 0, none⟩)) (w'.alloc (.cells #[.int .i64 0, .int .i64 0, .int .i64 0] 23)) (fun ρ hρ => ?_) (hJ.box hRS hcl hL rfl 23 rfl (.int .i64 0) (.int .i64 0) (.int .i64 0))
        clear hJ hsame hdep hcl hρ hsz
        go_simp
      · intro L a w' hL hsame hsz hJ hdep hcl
        have hsv := hJ.valOf (j := 1) (by decide) (dep_of hdep 1 (by kernel_rfl)) rfl rfl
        have es : a.eval (.tmp 34) = .agg #[.int .i64 pa, .int .i64 pb, .int .i64 pc] := eval_slot (j := 1) (by kernel_rfl) hsv
        have la := dep_of hdep 4 (by kernel_rfl)
        obtain ⟨g, cs, hg, hg0, hb, hs3⟩ := hJ.boxOf (by decide) la rfl
        obtain ⟨c0, c1, c2, rfl⟩ := three_of hs3
        obtain ⟨m0, m1, m2, f0, f1, f2⟩ := hb.three
        have ea : a.eval (.tmp 9) = .pointer (some ⟨g, 0, none⟩) := eval_slot (j := 4) (by kernel_rfl) hg
        refine Step.skip _ rfl (wanted_none rfl) (set3 w' g (.int .i64 pa) (.int .i64 pb) (.int .i64 pc)) (fun ρ hρ => ?_) (hJ.put hRS hcl hL rfl la (dep_of hdep 1 (by kernel_rfl)) hg hsv)
        rw [hρ] at es ea
        clear hJ hsame hdep hcl hρ hsz hg hb hsv
        unfold set3
        go_simp
      · intro L a w' hL hsame hsz hJ hdep hcl
        have hsv := hJ.valOf (j := 3) (by decide) (dep_of hdep 3 (by kernel_rfl)) rfl rfl
        have es : a.eval (.tmp 36) = .agg #[.int .i64 qa, .int .i64 qb, .int .i64 qc] := eval_slot (j := 3) (by kernel_rfl) hsv
        have la := dep_of hdep 5 (by kernel_rfl)
        obtain ⟨g, cs, hg, hg0, hb, hs3⟩ := hJ.boxOf (by decide) la rfl
        obtain ⟨c0, c1, c2, rfl⟩ := three_of hs3
        obtain ⟨m0, m1, m2, f0, f1, f2⟩ := hb.three
        have ea : a.eval (.tmp 10) = .pointer (some ⟨g, 0, none⟩) := eval_slot (j := 5) (by kernel_rfl) hg
        refine Step.skip _ rfl (wanted_none rfl) (set3 w' g (.int .i64 qa) (.int .i64 qb) (.int .i64 qc)) (fun ρ hρ => ?_) (hJ.put hRS hcl hL rfl la (dep_of hdep 3 (by kernel_rfl)) hg hsv)
        rw [hρ] at es ea
        clear hJ hsame hdep hcl hρ hsz hg hb hsv
        unfold set3
        go_simp
      · intro L a w' hsame hsz hJ hall
        obtain ⟨u, hu, ha⟩ := act_puts hsame
        have h : (PBox (pa, pb, pc) (u 4) w' ∧ PBox (qa, qb, qc) (u 5) w') ∧ Below w1.heap.size w1 w' := by
          (try simp only [hu])
          exact (And.intro (And.intro (pbox_of (hJ.var0 hall 6 (by decide) rfl rfl (by decide) rfl (by decide) rfl rfl)) (pbox_of (hJ.var0 hall 7 (by decide) rfl rfl (by decide) rfl (by decide) rfl rfl))) (hJ.kept.toBelow (Nat.le_refl _) (by simp)))
        have h := hide h
        clear hJ hall hsz hu hsame
        subst ha
        change Exit.then _ _ Exit.normal (Act.put (Act.put (Act.put (Act.put (Act.put (Act.put (Act.put (Act.put (putAll _ u 0 _) (some 33) (u 0)) (some 34) (u 1)) (some 35) (u 2)) (some 36) (u 3)) (some 9) (u 4)) (some 10) (u 5)) none (u 6)) none (u 7)) _
        simp only [putAll]
        generalize u 0 = v0
        generalize u 1 = v1
        generalize u 2 = v2
        generalize u 3 = v3
        generalize u 4 = v4 at h ⊢
        generalize u 5 = v5 at h ⊢
        generalize u 6 = v6
        generalize u 7 = v7
        go_simp
        go_step
        go_meet
        exact h.out
  case rest =>
    obtain ⟨⟨⟨gP, rfl, bP⟩, ⟨gQ, rfl, bQ⟩⟩, bc⟩ := hcut
    have BX := hide (BX.out.below bc BX.out.lt)
    have BY := hide (BY.out.below bc BY.out.lt)
    have BB := hide (BB.out.trans (bc.mono BB.out.size))
    have SP := hide (SP.out.keep bc)
    have BP := hide (show Box wc gP 23 #[.int .i64 pa, .int .i64 pb, .int .i64 pc] from bP)
    have BQ := hide (show Box wc gQ 23 #[.int .i64 qa, .int .i64 qb, .int .i64 qc] from bQ)
    clear bc bP bQ
    clear BX BY
    have HWR := hide hwr
    have HK := hide (And.intro hk6 (And.intro hx0 hx1))
    clear hwr hx hx0 hx1 hk6 K1 K2
    go_upto_region 2 with fail
    go_cut [11] (fun u wx => u = .int .i64 k ∧ wx = wc)
    case first =>
      as_aux_lemma =>
        go_wp2_with (
          go_at_call 12
          go_must (refine (KC.out _).mono ?_)
          rintro e w' ⟨rfl, rfl⟩)
        go_meet
        exact ⟨rfl, rfl⟩
    obtain ⟨rfl, rfl⟩ := hcut
    go_upto_region 3 with fail
    go_cut [12] (fun u wx => u = .int .i32 x ∧ wx = wc)
    case first =>
      as_aux_lemma =>
        go_wp2_with (
          go_at_call 12
          go_must (refine (KN.out _).mono ?_)
          rintro e w' ⟨rfl, rfl⟩)
        go_meet
        exact ⟨by rw [HWR.out], rfl⟩
    obtain ⟨rfl, rfl⟩ := hcut
    clear KC KN HWR
    go_upto_region 4 with fail
    go_cut [13] (fun u13 wx => (GVar wc.heap.size G u13 wx) ∧ Below wc.heap.size wc wx)
    case first =>
      as_aux_lemma =>
        refine wp_region_rj (n := 173) [] (fun _ => #[]) [(0, 0, 0, 0), (1, 0, 0, 0), (0, 0, 0, 0), (0, 0, 0, 0), (0, 0, 0, 0), (1, 0, 0, 0), (2, 0, 0, 26), (3, 6, 5, 26)] (fun j => [(.agg #[.int .i64 pa, .int .i64 pb, .int .i64 pc]), undef, (.int .i64 k), (.int .i32 x), (.agg #[.int .i64 qa, .int .i64 qb, .int .i64 qc]), undef, undef, undef].getD j undef) (fun j => [PG.dflt, (PG.newG 1 8 (pa, pb, pc)), PG.dflt, PG.dflt, PG.dflt, G, PG.dflt, PG.dflt].getD j PG.dflt) (fun _ => 0) (by kernel_rfl) (by kernel_rfl) (by kernel_rfl) rfl (by kernel_rfl) (no4 rfl) (fun i j h => by revert h; exact no4 (p := fun _ => _) rfl i) (fun hRS => cases8 ⟨?_, ?_, ?_, ?_, ?_, ?_, ?_, ?_⟩) ?_
        · intro L a w' hL hsame hsz hJ hdep hcl
          have e0 : a.eval (.tmp 9) = (.pointer (some ⟨gP, 0, none⟩)) := eval_base hsame (by kernel_rfl)
          have hb := hJ.keptBox BP.out (by simp)
          have q0 : w'.cell? ⟨gP, 0, none⟩ = some (.int .i64 pa) := hb.cell 0
          have q1 : w'.cell? ⟨gP, 1, none⟩ = some (.int .i64 pb) := hb.cell 1
          have q2 : w'.cell? ⟨gP, 2, none⟩ = some (.int .i64 pc) := hb.cell 2
          refine Step.val _ rfl rfl (wanted_none rfl) (.agg #[.int .i64 pa, .int .i64 pb, .int .i64 pc]) w' (fun ρ hρ => ?_) (hJ.val hRS hcl hL rfl (Below.refl _ _) _ rfl)
          rw [hρ] at e0
          clear hb
          clear hJ hsame hdep hcl hρ hsz
          go_simp
        · intro L a w' hL hsame hsz hJ hdep hcl
          have e2 : a.eval (.tmp 43) = (.agg #[.int .i64 pa, .int .i64 pb, .int .i64 pc]) := eval_slot (j := 0) (by kernel_rfl) (hJ.valOf (by decide) (dep_of hdep 0 (by kernel_rfl)) rfl rfl)
          refine Step.call _ rfl rfl (wanted_none rfl) 9 #[.int .i64 1, .int .i64 8, .agg #[.int .i64 pa, .int .i64 pb, .int .i64 pc]] (fun ρ hρ => ?_) ?_
          · skip
            rw [hρ] at e2
            have ec0 : ρ (.const (.int .i64 1)) = (.int .i64 1) := (hρ _).symm
            have ec1 : ρ (.const (.int .i64 8)) = (.int .i64 8) := (hρ _).symm
            have ef : ρ (.func 9) = .func (.func 9) #[] #[] := (hρ _).symm
            clear hJ hsame hdep hcl hρ hsz
            go_simp
          · refine (u_new 1 8 (pa, pb, pc) w' (by omega) (by omega) (by omega) (by omega)).mono ?_
            rintro e w2 ⟨v, rfl, hg, bb⟩
            exact ⟨v, rfl, hJ.grid hRS hcl hL rfl bb v hg⟩
        · intro L a w' hL hsame hsz hJ hdep hcl
          have e0 : a.eval (.tmp 11) = (.int .i64 k) := eval_base hsame (by kernel_rfl)
          refine Step.val _ rfl rfl (wanted_none rfl) (.int .i64 k) w' (fun ρ hρ => ?_) (hJ.val hRS hcl hL rfl (Below.refl _ _) _ rfl)
          rw [hρ] at e0
          clear hJ hsame hdep hcl hρ hsz
          go_simp
        · intro L a w' hL hsame hsz hJ hdep hcl
          have e0 : a.eval (.tmp 12) = (.int .i32 x) := eval_base hsame (by kernel_rfl)
          refine Step.val _ rfl rfl (wanted_none rfl) (.int .i32 x) w' (fun ρ hρ => ?_) (hJ.val hRS hcl hL rfl (Below.refl _ _) _ rfl)
          rw [hρ] at e0
          clear hJ hsame hdep hcl hρ hsz
          go_simp
        · intro L a w' hL hsame hsz hJ hdep hcl
          have e0 : a.eval (.tmp 10) = (.pointer (some ⟨gQ, 0, none⟩)) := eval_base hsame (by kernel_rfl)
          have hb := hJ.keptBox BQ.out (by simp)
          have q0 : w'.cell? ⟨gQ, 0, none⟩ = some (.int .i64 qa) := hb.cell 0
          have q1 : w'.cell? ⟨gQ, 1, none⟩ = some (.int .i64 qb) := hb.cell 1
          have q2 : w'.cell? ⟨gQ, 2, none⟩ = some (.int .i64 qc) := hb.cell 2
          refine Step.val _ rfl rfl (wanted_none rfl) (.agg #[.int .i64 qa, .int .i64 qb, .int .i64 qc]) w' (fun ρ hρ => ?_) (hJ.val hRS hcl hL rfl (Below.refl _ _) _ rfl)
          rw [hρ] at e0
          clear hb
          clear hJ hsame hdep hcl hρ hsz
          go_simp
        · intro L a w' hL hsame hsz hJ hdep hcl
          obtain ⟨v1, hv1, hG1⟩ := hJ.gridAt (j := 1) (by decide) (dep_of hdep 1 (by kernel_rfl)) rfl
          have hG1 : IsG w' (PG.newG 1 8 (pa, pb, pc)) v1 := hG1
          have e0 : a.eval (.tmp 44) = v1 := eval_slot (j := 1) (by kernel_rfl) hv1
          have e2 : a.eval (.tmp 45) = (.int .i64 k) := eval_slot (j := 2) (by kernel_rfl) (hJ.valOf (by decide) (dep_of hdep 2 (by kernel_rfl)) rfl rfl)
          have e3 : a.eval (.tmp 46) = (.int .i32 x) := eval_slot (j := 3) (by kernel_rfl) (hJ.valOf (by decide) (dep_of hdep 3 (by kernel_rfl)) rfl rfl)
          have e4 : a.eval (.tmp 47) = (.agg #[.int .i64 qa, .int .i64 qb, .int .i64 qc]) := eval_slot (j := 4) (by kernel_rfl) (hJ.valOf (by decide) (dep_of hdep 4 (by kernel_rfl)) rfl rfl)
          have UP := u_put (PG.right_newG HPQ.out.1 (by omega) (by omega) (by omega) (by omega)) hG1 0 k x (qa, qb, qc) (by omega) (by have := HK.out; omega) (by have := HK.out; omega) (by have := HK.out; omega) (SP.out.keptS hJ.kept (by simp))
          rw [eG.out] at UP
          refine Step.call _ rfl rfl (wanted_none rfl) 8 #[v1, .int .i64 0, .int .i64 k, .int .i32 x, .agg #[.int .i64 qa, .int .i64 qb, .int .i64 qc]] (fun ρ hρ => ?_) ?_
          · skip
            rw [hρ] at e0 e2 e3 e4
            have ec0 : ρ (.const (.int .i64 0)) = (.int .i64 0) := (hρ _).symm
            have ef : ρ (.func 8) = .func (.func 8) #[] #[] := (hρ _).symm
            clear hJ hsame hdep hcl hρ hsz
            go_simp
          · refine (UP).mono ?_
            rintro e w2 ⟨v, rfl, hg, bb⟩
            exact ⟨v, rfl, hJ.grid hRS hcl hL rfl bb v hg⟩
        · intro L a w' hL hsame hsz hJ hdep hcl
          refine Step.val _ rfl rfl (wanted_none rfl) (.pointer (some ⟨w'.heap.size, 0, none⟩)) (w'.alloc (.cells #[.int .i64 0, .int .i64 0, .slice none 0 0] 26)) (fun ρ hρ => ?_) (hJ.box hRS hcl hL rfl 26 rfl (.int .i64 0) (.int .i64 0) (.slice none 0 0))
          clear hJ hsame hdep hcl hρ hsz
          go_simp
        · intro L a w' hL hsame hsz hJ hdep hcl
          obtain ⟨sv, hsv, hso⟩ := hJ.gridOf (by decide) (dep_of hdep 5 (by kernel_rfl)) rfl
          obtain ⟨sA, sc, rfl, _⟩ := own_form' hso
          have es : a.eval (.tmp 48) = .agg #[.int .i64 (G).rows, .int .i64 (G).cols, .slice sA ((G).rows * (G).cols) sc] := eval_slot (j := 5) (by kernel_rfl) hsv
          have la := dep_of hdep 6 (by kernel_rfl)
          obtain ⟨g, cs, hg, hg0, hb, hs3⟩ := hJ.boxOf (by decide) la rfl
          obtain ⟨c0, c1, c2, rfl⟩ := three_of hs3
          obtain ⟨m0, m1, m2, f0, f1, f2⟩ := hb.three
          have ea : a.eval (.tmp 13) = .pointer (some ⟨g, 0, none⟩) := eval_slot (j := 6) (by kernel_rfl) hg
          refine Step.skip _ rfl (wanted_none rfl) (set3 w' g (.int .i64 (G).rows) (.int .i64 (G).cols) (.slice sA ((G).rows * (G).cols) sc)) (fun ρ hρ => ?_) (hJ.put hRS hcl hL rfl la (dep_of hdep 5 (by kernel_rfl)) hg hsv)
          rw [hρ] at es ea
          clear hJ hsame hdep hcl hρ hsz hg hb hso hsv
          unfold set3
          go_simp
        · intro L a w' hsame hsz hJ hall
          obtain ⟨u, hu, ha⟩ := act_puts hsame
          have h : (GVar wc.heap.size G (u 6) w') ∧ Below wc.heap.size wc w' := by
            (try simp only [hu])
            exact (And.intro (hJ.var hall 7 (by decide) rfl rfl (by decide) rfl (by decide) rfl) (hJ.kept.toBelow (Nat.le_refl _) (by simp)))
          have h := hide h
          clear hJ hall hsz hu hsame
          subst ha
          change Exit.then _ _ Exit.normal (Act.put (Act.put (Act.put (Act.put (Act.put (Act.put (Act.put (Act.put (putAll _ u 0 _) (some 43) (u 0)) (some 44) (u 1)) (some 45) (u 2)) (some 46) (u 3)) (some 47) (u 4)) (some 48) (u 5)) (some 13) (u 6)) none (u 7)) _
          simp only [putAll]
          generalize u 0 = v0
          generalize u 1 = v1
          generalize u 2 = v2
          generalize u 3 = v3
          generalize u 4 = v4
          generalize u 5 = v5
          generalize u 6 = v6 at h ⊢
          generalize u 7 = v7
          go_simp
          go_step
          go_meet
          exact h.out
    case rest =>
    obtain ⟨⟨gG, rfl, -, hG⟩, bc⟩ := hcut
    have BB := hide (BB.out.trans (bc.mono BB.out.size))
    have SP := hide (SP.out.keep bc)
    have BP := hide (BP.out.below bc BP.out.lt)
    have BQ := hide (BQ.out.below bc BQ.out.lt)
    have VG := hide (hG)
    clear bc hG
    have hw1 : wrap64 ((k : Int) + 1) = (k : Int) + 1 := by have := HK.out; unfold wrap64; omega
    have hw2 : wrap64 ((k : Int) + 2) = (k : Int) + 2 := by have := HK.out; unfold wrap64; omega
    have HW := hide (And.intro hw1 hw2)
    clear hw1 hw2
    go_upto_region 5 with fail
    go_cut [14, 15] (fun u v wx => (CBox (x, 1, (qa, qb, qc)) u wx ∧ v = .bool true) ∧ Below wc.heap.size wc wx)
    case first =>
      as_aux_lemma =>
        obtain ⟨A, cc, hbx, hl, h1, h2, hig⟩ := VG.out.open_ F.out.sG.1 F.out.sG.2
        have AT := u_atc F.out.rG hig 0 (k) (by rw [F.out.sG.1]; omega) (by have := HK.out; rw [F.out.sG.2]; omega) F.out.g0
        unfold gv at AT
        simp only [Nat.one_mul] at AT hbx
        have AT := hide AT
        obtain ⟨m0, m1, m2, -, -, -⟩ := hbx.three
        obtain ⟨hw1, hw2⟩ := HW.out
        clear hbx hl h1 h2 hig
        go_wp2_with (
          go_at_call 20
          go_must (refine AT.out.mono ?_)
          rintro e w2 ⟨rfl, b2⟩
          have b2 := hide b2
          clear m0 m1 m2)
        go_meet
        exact ⟨⟨⟨_, rfl, Box.new _ _ _⟩, rfl⟩, b2.out.alloc (by have := b2.out.size; omega) _⟩
    obtain ⟨⟨⟨g14, rfl, hB14⟩, rfl⟩, bc⟩ := hcut
    have BB := hide (BB.out.trans (bc.mono BB.out.size))
    have SP := hide (SP.out.keep bc)
    have BP := hide (BP.out.below bc BP.out.lt)
    have BQ := hide (BQ.out.below bc BQ.out.lt)
    have VG := hide (VG.out.low bc)
    have B14 := hide (show Box wc g14 32 #[.int .i32 x, .int .i64 1, .int .i64 qa, .int .i64 qb, .int .i64 qc] from hB14)
    clear bc hB14
    go_upto_region 6 with fail
    go_cut [16, 17] (fun u v wx => (CBox (0, 2, (qa, qb, qc)) u wx ∧ v = .bool true) ∧ Below wc.heap.size wc wx)
    case first =>
      as_aux_lemma =>
        obtain ⟨A, cc, hbx, hl, h1, h2, hig⟩ := VG.out.open_ F.out.sG.1 F.out.sG.2
        have AT := u_atc F.out.rG hig 0 (k + 1) (by rw [F.out.sG.1]; omega) (by have := HK.out; rw [F.out.sG.2]; omega) F.out.g1
        unfold gv at AT
        simp only [Nat.one_mul] at AT hbx
        have AT := hide AT
        obtain ⟨m0, m1, m2, -, -, -⟩ := hbx.three
        obtain ⟨hw1, hw2⟩ := HW.out
        clear hbx hl h1 h2 hig
        go_wp2_with (
          go_at_call 20
          go_must (refine AT.out.mono ?_)
          rintro e w2 ⟨rfl, b2⟩
          have b2 := hide b2
          clear m0 m1 m2)
        go_meet
        exact ⟨⟨⟨_, rfl, Box.new _ _ _⟩, rfl⟩, b2.out.alloc (by have := b2.out.size; omega) _⟩
    obtain ⟨⟨⟨g16, rfl, hB16⟩, rfl⟩, bc⟩ := hcut
    have BB := hide (BB.out.trans (bc.mono BB.out.size))
    have SP := hide (SP.out.keep bc)
    have BP := hide (BP.out.below bc BP.out.lt)
    have BQ := hide (BQ.out.below bc BQ.out.lt)
    have VG := hide (VG.out.low bc)
    have B14 := hide (B14.out.below bc B14.out.lt)
    have B16 := hide (show Box wc g16 32 #[.int .i32 0, .int .i64 2, .int .i64 qa, .int .i64 qb, .int .i64 qc] from hB16)
    clear bc hB16
    obtain ⟨AG, cG, hbx, -, -, -, hig⟩ := VG.out.open_ F.out.sG.1 F.out.sG.2
    simp only [Nat.one_mul] at hbx hig
    have HBG := hide (show Box wc gG 26 #[.int .i64 1, .int .i64 8, .slice AG 8 cG] from hbx)
    have HIG := hide (show IsG wc G (.agg #[.int .i64 1, .int .i64 8, .slice AG 8 cG]) from hig)
    clear hbx hig
    obtain ⟨tg, htg⟩ : ∃ t, PG.text (G.f 0) G.cols = t := ⟨_, rfl⟩
    obtain ⟨tn, htn⟩ : ∃ t, PG.text ((PG.newG 1 8 (pa, pb, pc)).f 0) (PG.newG 1 8 (pa, pb, pc)).cols = t := ⟨_, rfl⟩
    have hst : (strOfNums tg).toList ≠ (strOfNums tn).toList := by
      intro h
      have h1 := F.out.tx
      rw [F.out.sG.2] at htg
      have htn : PG.text ((PG.newG 1 8 (pa, pb, pc)).f 0) 8 = tn := htn
      rw [htg, htn] at h1
      exact h1 (str_list_inj (htg ▸ PG.text_u8 _ _) (htn ▸ PG.text_u8 _ _) h)
    have HTG := hide htg
    have HTN := hide htn
    clear htg htn
    go_upto_region 7 with fail
    go_cut [80] (fun u80 wx => (u80 = .bool false) ∧ Below wc.heap.size wc wx)
    case first =>
      as_aux_lemma =>
        refine wp_region_rj (n := 173) [] (fun _ => #[]) [(0, 0, 0, 0), (0, 0, 0, 0), (0, 0, 0, 0), (0, 0, 0, 0), (0, 0, 0, 0), (0, 0, 0, 0), (0, 0, 0, 0), (0, 0, 0, 0), (0, 0, 0, 0), (0, 0, 0, 0), (0, 0, 0, 0), (0, 0, 0, 0), (0, 0, 0, 0), (0, 0, 0, 0), (0, 0, 0, 0), (1, 0, 0, 0), (0, 0, 0, 0), (0, 0, 0, 0), (0, 0, 0, 0)] (fun j => [(.agg #[.int .i32 x, .int .i64 1, .int .i64 qa, .int .i64 qb, .int .i64 qc]), (.int .i32 x), (.agg #[.int .i64 qa, .int .i64 qb, .int .i64 qc]), (.agg #[.int .i32 x, .int .i64 1, .int .i64 qa, .int .i64 qb, .int .i64 qc]), (.bool false), (.bool false), (.agg #[.int .i32 0, .int .i64 2, .int .i64 qa, .int .i64 qb, .int .i64 qc]), (.agg #[.int .i64 qa, .int .i64 qb, .int .i64 qc]), (.agg #[.int .i32 0, .int .i64 2, .int .i64 qa, .int .i64 qb, .int .i64 qc]), (.bool false), (.bool false), (.bool false), (.agg #[.int .i64 1, .int .i64 8, .slice AG 8 cG]), (.string (strOfNums tg)), (.agg #[.int .i64 pa, .int .i64 pb, .int .i64 pc]), undef, (.string (strOfNums tn)), (.bool false), (.bool false)].getD j undef) (fun j => [PG.dflt, PG.dflt, PG.dflt, PG.dflt, PG.dflt, PG.dflt, PG.dflt, PG.dflt, PG.dflt, PG.dflt, PG.dflt, PG.dflt, PG.dflt, PG.dflt, PG.dflt, (PG.newG 1 8 (pa, pb, pc)), PG.dflt, PG.dflt, PG.dflt].getD j PG.dflt) (fun _ => 0) (by kernel_rfl) (by kernel_rfl) (by kernel_rfl) rfl (by kernel_rfl) (no4 rfl) (fun i j h => by revert h; exact no4 (p := fun _ => _) rfl i) (fun hRS => cases19 ⟨?_, ?_, ?_, ?_, ?_, ?_, ?_, ?_, ?_, ?_, ?_, ?_, ?_, ?_, ?_, ?_, ?_, ?_, ?_⟩) ?_
        · intro L a w' hL hsame hsz hJ hdep hcl
          have e0 : a.eval (.tmp 14) = (.pointer (some ⟨g14, 0, none⟩)) := eval_base hsame (by kernel_rfl)
          have hb := hJ.keptBox B14.out (by simp)
          have q0 : w'.cell? ⟨g14, 0, none⟩ = some (.int .i32 x) := hb.cell 0
          have q1 : w'.cell? ⟨g14, 1, none⟩ = some (.int .i64 1) := hb.cell 1
          have q2 : w'.cell? ⟨g14, 2, none⟩ = some (.int .i64 qa) := hb.cell 2
          have q3 : w'.cell? ⟨g14, 3, none⟩ = some (.int .i64 qb) := hb.cell 3
          have q4 : w'.cell? ⟨g14, 4, none⟩ = some (.int .i64 qc) := hb.cell 4
          refine Step.val _ rfl rfl (wanted_none rfl) (.agg #[.int .i32 x, .int .i64 1, .int .i64 qa, .int .i64 qb, .int .i64 qc]) w' (fun ρ hρ => ?_) (hJ.val hRS hcl hL rfl (Below.refl _ _) _ rfl)
          rw [hρ] at e0
          clear hb
          clear hJ hsame hdep hcl hρ hsz
          go_simp
        · intro L a w' hL hsame hsz hJ hdep hcl
          have e0 : a.eval (.tmp 12) = (.int .i32 x) := eval_base hsame (by kernel_rfl)
          refine Step.val _ rfl rfl (wanted_none rfl) (.int .i32 x) w' (fun ρ hρ => ?_) (hJ.val hRS hcl hL rfl (Below.refl _ _) _ rfl)
          rw [hρ] at e0
          clear hJ hsame hdep hcl hρ hsz
          go_simp
        · intro L a w' hL hsame hsz hJ hdep hcl
          have e0 : a.eval (.tmp 10) = (.pointer (some ⟨gQ, 0, none⟩)) := eval_base hsame (by kernel_rfl)
          have hb := hJ.keptBox BQ.out (by simp)
          have q0 : w'.cell? ⟨gQ, 0, none⟩ = some (.int .i64 qa) := hb.cell 0
          have q1 : w'.cell? ⟨gQ, 1, none⟩ = some (.int .i64 qb) := hb.cell 1
          have q2 : w'.cell? ⟨gQ, 2, none⟩ = some (.int .i64 qc) := hb.cell 2
          refine Step.val _ rfl rfl (wanted_none rfl) (.agg #[.int .i64 qa, .int .i64 qb, .int .i64 qc]) w' (fun ρ hρ => ?_) (hJ.val hRS hcl hL rfl (Below.refl _ _) _ rfl)
          rw [hρ] at e0
          clear hb
          clear hJ hsame hdep hcl hρ hsz
          go_simp
        · intro L a w' hL hsame hsz hJ hdep hcl
          have e0 : a.eval (.tmp 63) = (.int .i32 x) := eval_slot (j := 1) (by kernel_rfl) (hJ.valOf (by decide) (dep_of hdep 1 (by kernel_rfl)) rfl rfl)
          have e2 : a.eval (.tmp 64) = (.agg #[.int .i64 qa, .int .i64 qb, .int .i64 qc]) := eval_slot (j := 2) (by kernel_rfl) (hJ.valOf (by decide) (dep_of hdep 2 (by kernel_rfl)) rfl rfl)
          refine Step.val _ rfl rfl (wanted_none rfl) (.agg #[.int .i32 x, .int .i64 1, .int .i64 qa, .int .i64 qb, .int .i64 qc]) w' (fun ρ hρ => ?_) (hJ.val hRS hcl hL rfl (Below.refl _ _) _ rfl)
          rw [hρ] at e0 e2
          have ec0 : ρ (.const (.int .i64 1)) = (.int .i64 1) := (hρ _).symm
          clear hJ hsame hdep hcl hρ hsz
          go_simp
        · intro L a w' hL hsame hsz hJ hdep hcl
          have e0 : a.eval (.tmp 62) = (.agg #[.int .i32 x, .int .i64 1, .int .i64 qa, .int .i64 qb, .int .i64 qc]) := eval_slot (j := 0) (by kernel_rfl) (hJ.valOf (by decide) (dep_of hdep 0 (by kernel_rfl)) rfl rfl)
          have e1 : a.eval (.tmp 65) = (.agg #[.int .i32 x, .int .i64 1, .int .i64 qa, .int .i64 qb, .int .i64 qc]) := eval_slot (j := 3) (by kernel_rfl) (hJ.valOf (by decide) (dep_of hdep 3 (by kernel_rfl)) rfl rfl)
          refine Step.val _ rfl rfl (wanted_none rfl) (.bool false) w' (fun ρ hρ => ?_) (hJ.val hRS hcl hL rfl (Below.refl _ _) _ rfl)
          rw [hρ] at e0 e1
          clear hJ hsame hdep hcl hρ hsz
          go_simp
        · intro L a w' hL hsame hsz hJ hdep hcl
          have e0 : a.eval (.tmp 66) = (.bool false) := eval_slot (j := 4) (by kernel_rfl) (hJ.valOf (by decide) (dep_of hdep 4 (by kernel_rfl)) rfl rfl)
          refine Step.val _ rfl rfl (wanted_none rfl) (.bool false) w' (fun ρ hρ => ?_) (hJ.val hRS hcl hL rfl (Below.refl _ _) _ rfl)
          rw [hρ] at e0
          clear hJ hsame hdep hcl hρ hsz
          go_simp
        · intro L a w' hL hsame hsz hJ hdep hcl
          have gd : valOf _ 5 a = .bool false := hJ.valOf (by decide) (dep_of hdep 5 (by kernel_rfl)) rfl rfl
          have e0 : a.eval (.tmp 16) = (.pointer (some ⟨g16, 0, none⟩)) := eval_base hsame (by kernel_rfl)
          have hb := hJ.keptBox B16.out (by simp)
          have q0 : w'.cell? ⟨g16, 0, none⟩ = some (.int .i32 0) := hb.cell 0
          have q1 : w'.cell? ⟨g16, 1, none⟩ = some (.int .i64 2) := hb.cell 1
          have q2 : w'.cell? ⟨g16, 2, none⟩ = some (.int .i64 qa) := hb.cell 2
          have q3 : w'.cell? ⟨g16, 3, none⟩ = some (.int .i64 qb) := hb.cell 3
          have q4 : w'.cell? ⟨g16, 4, none⟩ = some (.int .i64 qc) := hb.cell 4
          refine Step.val _ rfl rfl (wanted_some (g := 5) (b := false) rfl gd) (.agg #[.int .i32 0, .int .i64 2, .int .i64 qa, .int .i64 qb, .int .i64 qc]) w' (fun ρ hρ => ?_) (hJ.val hRS hcl hL rfl (Below.refl _ _) _ rfl)
          rw [hρ] at e0
          clear hb
          clear hJ hsame hdep hcl hρ hsz gd
          go_simp
        · intro L a w' hL hsame hsz hJ hdep hcl
          have gd : valOf _ 5 a = .bool false := hJ.valOf (by decide) (dep_of hdep 5 (by kernel_rfl)) rfl rfl
          have e0 : a.eval (.tmp 10) = (.pointer (some ⟨gQ, 0, none⟩)) := eval_base hsame (by kernel_rfl)
          have hb := hJ.keptBox BQ.out (by simp)
          have q0 : w'.cell? ⟨gQ, 0, none⟩ = some (.int .i64 qa) := hb.cell 0
          have q1 : w'.cell? ⟨gQ, 1, none⟩ = some (.int .i64 qb) := hb.cell 1
          have q2 : w'.cell? ⟨gQ, 2, none⟩ = some (.int .i64 qc) := hb.cell 2
          refine Step.val _ rfl rfl (wanted_some (g := 5) (b := false) rfl gd) (.agg #[.int .i64 qa, .int .i64 qb, .int .i64 qc]) w' (fun ρ hρ => ?_) (hJ.val hRS hcl hL rfl (Below.refl _ _) _ rfl)
          rw [hρ] at e0
          clear hb
          clear hJ hsame hdep hcl hρ hsz gd
          go_simp
        · intro L a w' hL hsame hsz hJ hdep hcl
          have gd : valOf _ 5 a = .bool false := hJ.valOf (by decide) (dep_of hdep 5 (by kernel_rfl)) rfl rfl
          have e1 : a.eval (.tmp 69) = (.agg #[.int .i64 qa, .int .i64 qb, .int .i64 qc]) := eval_slot (j := 7) (by kernel_rfl) (hJ.valOf (by decide) (dep_of hdep 7 (by kernel_rfl)) rfl rfl)
          refine Step.val _ rfl rfl (wanted_some (g := 5) (b := false) rfl gd) (.agg #[.int .i32 0, .int .i64 2, .int .i64 qa, .int .i64 qb, .int .i64 qc]) w' (fun ρ hρ => ?_) (hJ.val hRS hcl hL rfl (Below.refl _ _) _ rfl)
          rw [hρ] at e1
          have ec0 : ρ (.const (.int .i64 2)) = (.int .i64 2) := (hρ _).symm
          clear hJ hsame hdep hcl hρ hsz gd
          go_simp
        · intro L a w' hL hsame hsz hJ hdep hcl
          have gd : valOf _ 5 a = .bool false := hJ.valOf (by decide) (dep_of hdep 5 (by kernel_rfl)) rfl rfl
          have e0 : a.eval (.tmp 68) = (.agg #[.int .i32 0, .int .i64 2, .int .i64 qa, .int .i64 qb, .int .i64 qc]) := eval_slot (j := 6) (by kernel_rfl) (hJ.valOf (by decide) (dep_of hdep 6 (by kernel_rfl)) rfl rfl)
          have e1 : a.eval (.tmp 70) = (.agg #[.int .i32 0, .int .i64 2, .int .i64 qa, .int .i64 qb, .int .i64 qc]) := eval_slot (j := 8) (by kernel_rfl) (hJ.valOf (by decide) (dep_of hdep 8 (by kernel_rfl)) rfl rfl)
          refine Step.val _ rfl rfl (wanted_some (g := 5) (b := false) rfl gd) (.bool false) w' (fun ρ hρ => ?_) (hJ.val hRS hcl hL rfl (Below.refl _ _) _ rfl)
          rw [hρ] at e0 e1
          clear hJ hsame hdep hcl hρ hsz gd
          go_simp
        · intro L a w' hL hsame hsz hJ hdep hcl
          have e0 : a.eval (.tmp 67) = (.bool false) := eval_slot (j := 5) (by kernel_rfl) (hJ.valOf (by decide) (dep_of hdep 5 (by kernel_rfl)) rfl rfl)
          have e2 : a.eval (.tmp 71) = (.bool false) := eval_slot (j := 9) (by kernel_rfl) (hJ.valOf (by decide) (dep_of hdep 9 (by kernel_rfl)) rfl rfl)
          refine Step.val _ rfl rfl (wanted_none rfl) (.bool false) w' (fun ρ hρ => ?_) (hJ.val hRS hcl hL rfl (Below.refl _ _) _ rfl)
          rw [hρ] at e0 e2
          have ec0 : ρ (.const (.bool true)) = (.bool true) := (hρ _).symm
          clear hJ hsame hdep hcl hρ hsz
          go_simp
        · intro L a w' hL hsame hsz hJ hdep hcl
          have e0 : a.eval (.tmp 72) = (.bool false) := eval_slot (j := 10) (by kernel_rfl) (hJ.valOf (by decide) (dep_of hdep 10 (by kernel_rfl)) rfl rfl)
          refine Step.val _ rfl rfl (wanted_none rfl) (.bool false) w' (fun ρ hρ => ?_) (hJ.val hRS hcl hL rfl (Below.refl _ _) _ rfl)
          rw [hρ] at e0
          clear hJ hsame hdep hcl hρ hsz
          go_simp
        · intro L a w' hL hsame hsz hJ hdep hcl
          have gd : valOf _ 11 a = .bool false := hJ.valOf (by decide) (dep_of hdep 11 (by kernel_rfl)) rfl rfl
          have e0 : a.eval (.tmp 13) = (.pointer (some ⟨gG, 0, none⟩)) := eval_base hsame (by kernel_rfl)
          have hb := hJ.keptBox HBG.out (by simp)
          have q0 : w'.cell? ⟨gG, 0, none⟩ = some (.int .i64 1) := hb.cell 0
          have q1 : w'.cell? ⟨gG, 1, none⟩ = some (.int .i64 8) := hb.cell 1
          have q2 : w'.cell? ⟨gG, 2, none⟩ = some (.slice AG 8 cG) := hb.cell 2
          refine Step.val _ rfl rfl (wanted_some (g := 11) (b := false) rfl gd) (.agg #[.int .i64 1, .int .i64 8, .slice AG 8 cG]) w' (fun ρ hρ => ?_) (hJ.val hRS hcl hL rfl (Below.refl _ _) _ rfl)
          rw [hρ] at e0
          clear hb
          clear hJ hsame hdep hcl hρ hsz gd
          go_simp
        · intro L a w' hL hsame hsz hJ hdep hcl
          have gd : valOf _ 11 a = .bool false := hJ.valOf (by decide) (dep_of hdep 11 (by kernel_rfl)) rfl rfl
          have e0 : a.eval (.tmp 74) = (.agg #[.int .i64 1, .int .i64 8, .slice AG 8 cG]) := eval_slot (j := 12) (by kernel_rfl) (hJ.valOf (by decide) (dep_of hdep 12 (by kernel_rfl)) rfl rfl)
          have UT := u_text F.out.rG (HIG.out.low (hJ.kept.toBelow (Nat.le_refl _) (by simp))) 0 (by rw [F.out.sG.1]; omega)
          rw [HTG.out] at UT
          refine Step.call _ rfl rfl (wanted_some (g := 11) (b := false) rfl gd) 10 #[.agg #[.int .i64 1, .int .i64 8, .slice AG 8 cG], .int .i64 0] (fun ρ hρ => ?_) ?_
          · skip
            rw [hρ] at e0
            have ec0 : ρ (.const (.int .i64 0)) = (.int .i64 0) := (hρ _).symm
            have ef : ρ (.func 10) = .func (.func 10) #[] #[] := (hρ _).symm
            clear hJ hsame hdep hcl hρ hsz gd
            go_simp
          · refine (UT).mono ?_
            rintro e w2 ⟨rfl, bb⟩
            exact ⟨_, rfl, hJ.val hRS hcl hL rfl bb _ rfl⟩
        · intro L a w' hL hsame hsz hJ hdep hcl
          have gd : valOf _ 11 a = .bool false := hJ.valOf (by decide) (dep_of hdep 11 (by kernel_rfl)) rfl rfl
          have e0 : a.eval (.tmp 9) = (.pointer (some ⟨gP, 0, none⟩)) := eval_base hsame (by kernel_rfl)
          have hb := hJ.keptBox BP.out (by simp)
          have q0 : w'.cell? ⟨gP, 0, none⟩ = some (.int .i64 pa) := hb.cell 0
          have q1 : w'.cell? ⟨gP, 1, none⟩ = some (.int .i64 pb) := hb.cell 1
          have q2 : w'.cell? ⟨gP, 2, none⟩ = some (.int .i64 pc) := hb.cell 2
          refine Step.val _ rfl rfl (wanted_some (g := 11) (b := false) rfl gd) (.agg #[.int .i64 pa, .int .i64 pb, .int .i64 pc]) w' (fun ρ hρ => ?_) (hJ.val hRS hcl hL rfl (Below.refl _ _) _ rfl)
          rw [hρ] at e0
          clear hb
          clear hJ hsame hdep hcl hρ hsz gd
          go_simp
        · intro L a w' hL hsame hsz hJ hdep hcl
          have gd : valOf _ 11 a = .bool false := hJ.valOf (by decide) (dep_of hdep 11 (by kernel_rfl)) rfl rfl
          have e2 : a.eval (.tmp 76) = (.agg #[.int .i64 pa, .int .i64 pb, .int .i64 pc]) := eval_slot (j := 14) (by kernel_rfl) (hJ.valOf (by decide) (dep_of hdep 14 (by kernel_rfl)) rfl rfl)
          refine Step.call _ rfl rfl (wanted_some (g := 11) (b := false) rfl gd) 9 #[.int .i64 1, .int .i64 8, .agg #[.int .i64 pa, .int .i64 pb, .int .i64 pc]] (fun ρ hρ => ?_) ?_
          · skip
            rw [hρ] at e2
            have ec0 : ρ (.const (.int .i64 1)) = (.int .i64 1) := (hρ _).symm
            have ec1 : ρ (.const (.int .i64 8)) = (.int .i64 8) := (hρ _).symm
            have ef : ρ (.func 9) = .func (.func 9) #[] #[] := (hρ _).symm
            clear hJ hsame hdep hcl hρ hsz gd
            go_simp
          · refine (u_new 1 8 (pa, pb, pc) w' (by omega) (by omega) (by omega) (by omega)).mono ?_
            rintro e w2 ⟨v, rfl, hg, bb⟩
            exact ⟨v, rfl, hJ.grid hRS hcl hL rfl bb v hg⟩
        · intro L a w' hL hsame hsz hJ hdep hcl
          have gd : valOf _ 11 a = .bool false := hJ.valOf (by decide) (dep_of hdep 11 (by kernel_rfl)) rfl rfl
          obtain ⟨v15, hv15, hG15⟩ := hJ.gridAt (j := 15) (by decide) (dep_of hdep 15 (by kernel_rfl)) rfl
          have hG15 : IsG w' (PG.newG 1 8 (pa, pb, pc)) v15 := hG15
          have e0 : a.eval (.tmp 77) = v15 := eval_slot (j := 15) (by kernel_rfl) hv15
          have UT := u_text (PG.right_newG HPQ.out.1 (by omega) (by omega) (by omega) (by omega)) hG15 0 (by show 0 < 1; omega)
          rw [HTN.out] at UT
          refine Step.call _ rfl rfl (wanted_some (g := 11) (b := false) rfl gd) 10 #[v15, .int .i64 0] (fun ρ hρ => ?_) ?_
          · skip
            rw [hρ] at e0
            have ec0 : ρ (.const (.int .i64 0)) = (.int .i64 0) := (hρ _).symm
            have ef : ρ (.func 10) = .func (.func 10) #[] #[] := (hρ _).symm
            clear hJ hsame hdep hcl hρ hsz gd
            go_simp
          · refine (UT).mono ?_
            rintro e w2 ⟨rfl, bb⟩
            exact ⟨_, rfl, hJ.val hRS hcl hL rfl bb _ rfl⟩
        · intro L a w' hL hsame hsz hJ hdep hcl
          have gd : valOf _ 11 a = .bool false := hJ.valOf (by decide) (dep_of hdep 11 (by kernel_rfl)) rfl rfl
          have e0 : a.eval (.tmp 75) = (.string (strOfNums tg)) := eval_slot (j := 13) (by kernel_rfl) (hJ.valOf (by decide) (dep_of hdep 13 (by kernel_rfl)) rfl rfl)
          have e1 : a.eval (.tmp 78) = (.string (strOfNums tn)) := eval_slot (j := 16) (by kernel_rfl) (hJ.valOf (by decide) (dep_of hdep 16 (by kernel_rfl)) rfl rfl)
          refine Step.val _ rfl rfl (wanted_some (g := 11) (b := false) rfl gd) (.bool false) w' (fun ρ hρ => ?_) (hJ.val hRS hcl hL rfl (Below.refl _ _) _ rfl)
          rw [hρ] at e0 e1
          clear hJ hsame hdep hcl hρ hsz gd
          go_simp
        · intro L a w' hL hsame hsz hJ hdep hcl
          have e0 : a.eval (.tmp 73) = (.bool false) := eval_slot (j := 11) (by kernel_rfl) (hJ.valOf (by decide) (dep_of hdep 11 (by kernel_rfl)) rfl rfl)
          have e2 : a.eval (.tmp 79) = (.bool false) := eval_slot (j := 17) (by kernel_rfl) (hJ.valOf (by decide) (dep_of hdep 17 (by kernel_rfl)) rfl rfl)
          refine Step.val _ rfl rfl (wanted_none rfl) (.bool false) w' (fun ρ hρ => ?_) (hJ.val hRS hcl hL rfl (Below.refl _ _) _ rfl)
          rw [hρ] at e0 e2
          have ec0 : ρ (.const (.bool true)) = (.bool true) := (hρ _).symm
          clear hJ hsame hdep hcl hρ hsz
          go_simp
        · intro L a w' hsame hsz hJ hall
          obtain ⟨u, hu, ha⟩ := act_puts hsame
          have h : (u 18 = .bool false) ∧ Below wc.heap.size wc w' := by
            (try simp only [hu])
            exact (And.intro (hJ.valOf (j := 18) (by decide) (hall 18 (by decide)) rfl rfl) (hJ.kept.toBelow (Nat.le_refl _) (by simp)))
          have h := hide h
          clear hJ hall hsz hu hsame
          subst ha
          change Exit.then _ _ Exit.normal (Act.put (Act.put (Act.put (Act.put (Act.put (Act.put (Act.put (Act.put (Act.put (Act.put (Act.put (Act.put (Act.put (Act.put (Act.put (Act.put (Act.put (Act.put (Act.put (putAll _ u 0 _) (some 62) (u 0)) (some 63) (u 1)) (some 64) (u 2)) (some 65) (u 3)) (some 66) (u 4)) (some 67) (u 5)) (some 68) (u 6)) (some 69) (u 7)) (some 70) (u 8)) (some 71) (u 9)) (some 72) (u 10)) (some 73) (u 11)) (some 74) (u 12)) (some 75) (u 13)) (some 76) (u 14)) (some 77) (u 15)) (some 78) (u 16)) (some 79) (u 17)) (some 80) (u 18)) _
          simp only [putAll]
          generalize u 0 = v0
          generalize u 1 = v1
          generalize u 2 = v2
          generalize u 3 = v3
          generalize u 4 = v4
          generalize u 5 = v5
          generalize u 6 = v6
          generalize u 7 = v7
          generalize u 8 = v8
          generalize u 9 = v9
          generalize u 10 = v10
          generalize u 11 = v11
          generalize u 12 = v12
          generalize u 13 = v13
          generalize u 14 = v14
          generalize u 15 = v15
          generalize u 16 = v16
          generalize u 17 = v17
          generalize u 18 = v18 at h ⊢
          go_simp
          go_step
          go_meet
          exact h.out
    case rest =>
    obtain ⟨rfl, bc⟩ := hcut
    have BB := hide (BB.out.trans (bc.mono BB.out.size))
    have SP := hide (SP.out.keep bc)
    have BP := hide (BP.out.below bc BP.out.lt)
    have BQ := hide (BQ.out.below bc BQ.out.lt)
    have VG := hide (VG.out.low bc)
    have B14 := hide (B14.out.below bc B14.out.lt)
    have B16 := hide (B16.out.below bc B16.out.lt)
    have HBG := hide (HBG.out.below bc HBG.out.lt)
    have HIG := hide (HIG.out.low bc)
    clear bc 
    go_upto_region 9 with fail
    go_cut [18] (fun u wx => CBox (32, 0, (qa, qb, qc)) u wx ∧ Below wc.heap.size wc wx)
    case first =>
      as_aux_lemma =>
        have hq0 : wc.cell? ⟨gQ, 0, none⟩ = some (.int .i64 qa) := BQ.out.cell 0
        have hq1 : wc.cell? ⟨gQ, 1, none⟩ = some (.int .i64 qb) := BQ.out.cell 1
        have hq2 : wc.cell? ⟨gQ, 2, none⟩ = some (.int .i64 qc) := BQ.out.cell 2
        go_wp2_with fail
        go_meet
        exact ⟨⟨_, rfl, Box.new _ _ _⟩, (Below.refl _ _).alloc (Nat.le_refl _) _⟩
    obtain ⟨⟨g18, rfl, h18⟩, bc⟩ := hcut
    have BB := hide (BB.out.trans (bc.mono BB.out.size))
    have SP := hide (SP.out.keep bc)
    have BP := hide (BP.out.below bc BP.out.lt)
    have BQ := hide (BQ.out.below bc BQ.out.lt)
    have HBG := hide (HBG.out.below bc HBG.out.lt)
    have HIG := hide (HIG.out.low bc)
    have B18 := hide (show Box wc g18 32 #[.int .i32 32, .int .i64 0, .int .i64 qa, .int .i64 qb, .int .i64 qc] from h18)
    clear bc h18
    obtain ⟨hw1, hw2⟩ := HW.out
    have hw3 : IntKind.i64.wrap ((k : Int) + 1) = (k : Int) + 1 := IntWalk.i64_in _ (by have := HK.out; omega)
    go_upto_region 10 with fail
    go_cut [19, 20] (fun u19 u20 wx => (GVar wc.heap.size LG u19 wx ∧ GVar wc.heap.size RG u20 wx) ∧ Below wc.heap.size wc wx)
    case first =>
      as_aux_lemma =>
        refine wp_region_rj (n := 173) [] (fun _ => #[]) [(0, 0, 0, 0), (0, 0, 0, 0), (0, 0, 0, 0), (1, 0, 0, 0), (0, 0, 0, 0), (0, 0, 0, 0), (0, 0, 0, 0), (0, 0, 0, 0), (1, 0, 0, 0), (2, 0, 0, 26), (2, 0, 0, 26), (3, 9, 3, 26), (3, 10, 8, 26)] (fun j => [(.agg #[.int .i64 1, .int .i64 8, .slice AG 8 cG]), (.int .i64 k), (.agg #[.int .i64 pa, .int .i64 pb, .int .i64 pc]), undef, (.agg #[.int .i64 1, .int .i64 8, .slice AG 8 cG]), (.int .i64 k), (.int .i64 ((k : Int) + 1)), (.agg #[.int .i64 pa, .int .i64 pb, .int .i64 pc]), undef, undef, undef, undef, undef].getD j undef) (fun j => [PG.dflt, PG.dflt, PG.dflt, LG, PG.dflt, PG.dflt, PG.dflt, PG.dflt, RG, PG.dflt, PG.dflt, PG.dflt, PG.dflt].getD j PG.dflt) (fun _ => 0) (by kernel_rfl) (by kernel_rfl) (by kernel_rfl) rfl (by kernel_rfl) (no4 rfl) (fun i j h => by revert h; exact no4 (p := fun _ => _) rfl i) (fun hRS => cases13 ⟨?_, ?_, ?_, ?_, ?_, ?_, ?_, ?_, ?_, ?_, ?_, ?_, ?_⟩) ?_
        · intro L a w' hL hsame hsz hJ hdep hcl
          have e0 : a.eval (.tmp 13) = (.pointer (some ⟨gG, 0, none⟩)) := eval_base hsame (by kernel_rfl)
          have hb := hJ.keptBox HBG.out (by simp)
          have q0 : w'.cell? ⟨gG, 0, none⟩ = some (.int .i64 1) := hb.cell 0
          have q1 : w'.cell? ⟨gG, 1, none⟩ = some (.int .i64 8) := hb.cell 1
          have q2 : w'.cell? ⟨gG, 2, none⟩ = some (.slice AG 8 cG) := hb.cell 2
          refine Step.val _ rfl rfl (wanted_none rfl) (.agg #[.int .i64 1, .int .i64 8, .slice AG 8 cG]) w' (fun ρ hρ => ?_) (hJ.val hRS hcl hL rfl (Below.refl _ _) _ rfl)
          rw [hρ] at e0
          clear hb
          clear hJ hsame hdep hcl hρ hsz
          go_simp
        · intro L a w' hL hsame hsz hJ hdep hcl
          have e0 : a.eval (.tmp 11) = (.int .i64 k) := eval_base hsame (by kernel_rfl)
          refine Step.val _ rfl rfl (wanted_none rfl) (.int .i64 k) w' (fun ρ hρ => ?_) (hJ.val hRS hcl hL rfl (Below.refl _ _) _ rfl)
          rw [hρ] at e0
          clear hJ hsame hdep hcl hρ hsz
          go_simp
        · intro L a w' hL hsame hsz hJ hdep hcl
          have e0 : a.eval (.tmp 9) = (.pointer (some ⟨gP, 0, none⟩)) := eval_base hsame (by kernel_rfl)
          have hb := hJ.keptBox BP.out (by simp)
          have q0 : w'.cell? ⟨gP, 0, none⟩ = some (.int .i64 pa) := hb.cell 0
          have q1 : w'.cell? ⟨gP, 1, none⟩ = some (.int .i64 pb) := hb.cell 1
          have q2 : w'.cell? ⟨gP, 2, none⟩ = some (.int .i64 pc) := hb.cell 2
          refine Step.val _ rfl rfl (wanted_none rfl) (.agg #[.int .i64 pa, .int .i64 pb, .int .i64 pc]) w' (fun ρ hρ => ?_) (hJ.val hRS hcl hL rfl (Below.refl _ _) _ rfl)
          rw [hρ] at e0
          clear hb
          clear hJ hsame hdep hcl hρ hsz
          go_simp
        · intro L a w' hL hsame hsz hJ hdep hcl
          have e0 : a.eval (.tmp 83) = (.agg #[.int .i64 1, .int .i64 8, .slice AG 8 cG]) := eval_slot (j := 0) (by kernel_rfl) (hJ.valOf (by decide) (dep_of hdep 0 (by kernel_rfl)) rfl rfl)
          have e2 : a.eval (.tmp 84) = (.int .i64 k) := eval_slot (j := 1) (by kernel_rfl) (hJ.valOf (by decide) (dep_of hdep 1 (by kernel_rfl)) rfl rfl)
          have e4 : a.eval (.tmp 85) = (.agg #[.int .i64 pa, .int .i64 pb, .int .i64 pc]) := eval_slot (j := 2) (by kernel_rfl) (hJ.valOf (by decide) (dep_of hdep 2 (by kernel_rfl)) rfl rfl)
          have UP := u_put F.out.rG (HIG.out.low (hJ.kept.toBelow (Nat.le_refl _) (by simp))) 0 (k) 97 (pa, pb, pc) (by omega) (by have := HK.out; omega) (by omega) (by omega) (SP.out.keptS hJ.kept (by simp))
          rw [F.out.eL] at UP
          refine Step.call _ rfl rfl (wanted_none rfl) 8 #[.agg #[.int .i64 1, .int .i64 8, .slice AG 8 cG], .int .i64 0, .int .i64 k, .int .i32 97, .agg #[.int .i64 pa, .int .i64 pb, .int .i64 pc]] (fun ρ hρ => ?_) ?_
          · skip
            rw [hρ] at e0 e2 e4
            have ec0 : ρ (.const (.int .i64 0)) = (.int .i64 0) := (hρ _).symm
            have ec1 : ρ (.const (.int .i32 97)) = (.int .i32 97) := (hρ _).symm
            have ef : ρ (.func 8) = .func (.func 8) #[] #[] := (hρ _).symm
            clear hJ hsame hdep hcl hρ hsz
            go_simp
          · refine (UP).mono ?_
            rintro e w2 ⟨v, rfl, hg, bb⟩
            exact ⟨v, rfl, hJ.grid hRS hcl hL rfl bb v hg⟩
        · intro L a w' hL hsame hsz hJ hdep hcl
          have e0 : a.eval (.tmp 13) = (.pointer (some ⟨gG, 0, none⟩)) := eval_base hsame (by kernel_rfl)
          have hb := hJ.keptBox HBG.out (by simp)
          have q0 : w'.cell? ⟨gG, 0, none⟩ = some (.int .i64 1) := hb.cell 0
          have q1 : w'.cell? ⟨gG, 1, none⟩ = some (.int .i64 8) := hb.cell 1
          have q2 : w'.cell? ⟨gG, 2, none⟩ = some (.slice AG 8 cG) := hb.cell 2
          refine Step.val _ rfl rfl (wanted_none rfl) (.agg #[.int .i64 1, .int .i64 8, .slice AG 8 cG]) w' (fun ρ hρ => ?_) (hJ.val hRS hcl hL rfl (Below.refl _ _) _ rfl)
          rw [hρ] at e0
          clear hb
          clear hJ hsame hdep hcl hρ hsz
          go_simp
        · intro L a w' hL hsame hsz hJ hdep hcl
          have e0 : a.eval (.tmp 11) = (.int .i64 k) := eval_base hsame (by kernel_rfl)
          refine Step.val _ rfl rfl (wanted_none rfl) (.int .i64 k) w' (fun ρ hρ => ?_) (hJ.val hRS hcl hL rfl (Below.refl _ _) _ rfl)
          rw [hρ] at e0
          clear hJ hsame hdep hcl hρ hsz
          go_simp
        · intro L a w' hL hsame hsz hJ hdep hcl
          have e0 : a.eval (.tmp 88) = (.int .i64 k) := eval_slot (j := 5) (by kernel_rfl) (hJ.valOf (by decide) (dep_of hdep 5 (by kernel_rfl)) rfl rfl)
          refine Step.val _ rfl rfl (wanted_none rfl) (.int .i64 ((k : Int) + 1)) w' (fun ρ hρ => ?_) (hJ.val hRS hcl hL rfl (Below.refl _ _) _ rfl)
          rw [hρ] at e0
          have ec0 : ρ (.const (.int .i64 1)) = (.int .i64 1) := (hρ _).symm
          clear hJ hsame hdep hcl hρ hsz
          go_simp
        · intro L a w' hL hsame hsz hJ hdep hcl
          have e0 : a.eval (.tmp 9) = (.pointer (some ⟨gP, 0, none⟩)) := eval_base hsame (by kernel_rfl)
          have hb := hJ.keptBox BP.out (by simp)
          have q0 : w'.cell? ⟨gP, 0, none⟩ = some (.int .i64 pa) := hb.cell 0
          have q1 : w'.cell? ⟨gP, 1, none⟩ = some (.int .i64 pb) := hb.cell 1
          have q2 : w'.cell? ⟨gP, 2, none⟩ = some (.int .i64 pc) := hb.cell 2
          refine Step.val _ rfl rfl (wanted_none rfl) (.agg #[.int .i64 pa, .int .i64 pb, .int .i64 pc]) w' (fun ρ hρ => ?_) (hJ.val hRS hcl hL rfl (Below.refl _ _) _ rfl)
          rw [hρ] at e0
          clear hb
          clear hJ hsame hdep hcl hρ hsz
          go_simp
        · intro L a w' hL hsame hsz hJ hdep hcl
          have e0 : a.eval (.tmp 87) = (.agg #[.int .i64 1, .int .i64 8, .slice AG 8 cG]) := eval_slot (j := 4) (by kernel_rfl) (hJ.valOf (by decide) (dep_of hdep 4 (by kernel_rfl)) rfl rfl)
          have e2 : a.eval (.tmp 89) = (.int .i64 ((k : Int) + 1)) := eval_slot (j := 6) (by kernel_rfl) (hJ.valOf (by decide) (dep_of hdep 6 (by kernel_rfl)) rfl rfl)
          have e4 : a.eval (.tmp 90) = (.agg #[.int .i64 pa, .int .i64 pb, .int .i64 pc]) := eval_slot (j := 7) (by kernel_rfl) (hJ.valOf (by decide) (dep_of hdep 7 (by kernel_rfl)) rfl rfl)
          have UP := u_put F.out.rG (HIG.out.low (hJ.kept.toBelow (Nat.le_refl _) (by simp))) 0 (k + 1) 98 (pa, pb, pc) (by omega) (by have := HK.out; omega) (by omega) (by omega) (SP.out.keptS hJ.kept (by simp))
          rw [F.out.eR] at UP
          refine Step.call _ rfl rfl (wanted_none rfl) 8 #[.agg #[.int .i64 1, .int .i64 8, .slice AG 8 cG], .int .i64 0, .int .i64 ((k : Int) + 1), .int .i32 98, .agg #[.int .i64 pa, .int .i64 pb, .int .i64 pc]] (fun ρ hρ => ?_) ?_
          · skip
            rw [hρ] at e0 e2 e4
            have ec0 : ρ (.const (.int .i64 0)) = (.int .i64 0) := (hρ _).symm
            have ec1 : ρ (.const (.int .i32 98)) = (.int .i32 98) := (hρ _).symm
            have ef : ρ (.func 8) = .func (.func 8) #[] #[] := (hρ _).symm
            clear hJ hsame hdep hcl hρ hsz
            go_simp
          · refine (UP).mono ?_
            rintro e w2 ⟨v, rfl, hg, bb⟩
            exact ⟨v, rfl, hJ.grid hRS hcl hL rfl bb v hg⟩
        · intro L a w' hL hsame hsz hJ hdep hcl
          refine Step.val _ rfl rfl (wanted_none rfl) (.pointer (some ⟨w'.heap.size, 0, none⟩)) (w'.alloc (.cells #[.int .i64 0, .int .i64 0, .slice none 0 0] 26)) (fun ρ hρ => ?_) (hJ.box hRS hcl hL rfl 26 rfl (.int .i64 0) (.int .i64 0) (.slice none 0 0))
          clear hJ hsame hdep hcl hρ hsz
          go_simp
        · intro L a w' hL hsame hsz hJ hdep hcl
          refine Step.val _ rfl rfl (wanted_none rfl) (.pointer (some ⟨w'.heap.size, 0, none⟩)) (w'.alloc (.cells #[.int .i64 0, .int .i64 0, .slice none 0 0] 26)) (fun ρ hρ => ?_) (hJ.box hRS hcl hL rfl 26 rfl (.int .i64 0) (.int .i64 0) (.slice none 0 0))
          clear hJ hsame hdep hcl hρ hsz
          go_simp
        · intro L a w' hL hsame hsz hJ hdep hcl
          obtain ⟨sv, hsv, hso⟩ := hJ.gridOf (by decide) (dep_of hdep 3 (by kernel_rfl)) rfl
          obtain ⟨sA, sc, rfl, _⟩ := own_form' hso
          have es : a.eval (.tmp 86) = .agg #[.int .i64 (LG).rows, .int .i64 (LG).cols, .slice sA ((LG).rows * (LG).cols) sc] := eval_slot (j := 3) (by kernel_rfl) hsv
          have la := dep_of hdep 9 (by kernel_rfl)
          obtain ⟨g, cs, hg, hg0, hb, hs3⟩ := hJ.boxOf (by decide) la rfl
          obtain ⟨c0, c1, c2, rfl⟩ := three_of hs3
          obtain ⟨m0, m1, m2, f0, f1, f2⟩ := hb.three
          have ea : a.eval (.tmp 19) = .pointer (some ⟨g, 0, none⟩) := eval_slot (j := 9) (by kernel_rfl) hg
          refine Step.skip _ rfl (wanted_none rfl) (set3 w' g (.int .i64 (LG).rows) (.int .i64 (LG).cols) (.slice sA ((LG).rows * (LG).cols) sc)) (fun ρ hρ => ?_) (hJ.put hRS hcl hL rfl la (dep_of hdep 3 (by kernel_rfl)) hg hsv)
          rw [hρ] at es ea
          clear hJ hsame hdep hcl hρ hsz hg hb hso hsv
          unfold set3
          go_simp
        · intro L a w' hL hsame hsz hJ hdep hcl
          obtain ⟨sv, hsv, hso⟩ := hJ.gridOf (by decide) (dep_of hdep 8 (by kernel_rfl)) rfl
          obtain ⟨sA, sc, rfl, _⟩ := own_form' hso
          have es : a.eval (.tmp 91) = .agg #[.int .i64 (RG).rows, .int .i64 (RG).cols, .slice sA ((RG).rows * (RG).cols) sc] := eval_slot (j := 8) (by kernel_rfl) hsv
          have la := dep_of hdep 10 (by kernel_rfl)
          obtain ⟨g, cs, hg, hg0, hb, hs3⟩ := hJ.boxOf (by decide) la rfl
          obtain ⟨c0, c1, c2, rfl⟩ := three_of hs3
          obtain ⟨m0, m1, m2, f0, f1, f2⟩ := hb.three
          have ea : a.eval (.tmp 20) = .pointer (some ⟨g, 0, none⟩) := eval_slot (j := 10) (by kernel_rfl) hg
          refine Step.skip _ rfl (wanted_none rfl) (set3 w' g (.int .i64 (RG).rows) (.int .i64 (RG).cols) (.slice sA ((RG).rows * (RG).cols) sc)) (fun ρ hρ => ?_) (hJ.put hRS hcl hL rfl la (dep_of hdep 8 (by kernel_rfl)) hg hsv)
          rw [hρ] at es ea
          clear hJ hsame hdep hcl hρ hsz hg hb hso hsv
          unfold set3
          go_simp
        · intro L a w' hsame hsz hJ hall
          obtain ⟨u, hu, ha⟩ := act_puts hsame
          have h : (GVar wc.heap.size LG (u 9) w' ∧ GVar wc.heap.size RG (u 10) w') ∧ Below wc.heap.size wc w' := by
            (try simp only [hu])
            exact (And.intro (And.intro (hJ.var hall 11 (by decide) rfl rfl (by decide) rfl (by decide) rfl) (hJ.var hall 12 (by decide) rfl rfl (by decide) rfl (by decide) rfl)) (hJ.kept.toBelow (Nat.le_refl _) (by simp)))
          have h := hide h
          clear hJ hall hsz hu hsame
          subst ha
          change Exit.then _ _ Exit.normal (Act.put (Act.put (Act.put (Act.put (Act.put (Act.put (Act.put (Act.put (Act.put (Act.put (Act.put (Act.put (Act.put (putAll _ u 0 _) (some 83) (u 0)) (some 84) (u 1)) (some 85) (u 2)) (some 86) (u 3)) (some 87) (u 4)) (some 88) (u 5)) (some 89) (u 6)) (some 90) (u 7)) (some 91) (u 8)) (some 19) (u 9)) (some 20) (u 10)) none (u 11)) none (u 12)) _
          simp only [putAll]
          generalize u 0 = v0
          generalize u 1 = v1
          generalize u 2 = v2
          generalize u 3 = v3
          generalize u 4 = v4
          generalize u 5 = v5
          generalize u 6 = v6
          generalize u 7 = v7
          generalize u 8 = v8
          generalize u 9 = v9 at h ⊢
          generalize u 10 = v10 at h ⊢
          generalize u 11 = v11
          generalize u 12 = v12
          go_simp
          go_step
          go_meet
          exact h.out
    case rest =>
    obtain ⟨⟨⟨gL, rfl, -, hL⟩, ⟨gR, rfl, -, hR⟩⟩, bc⟩ := hcut
    have BB := hide (BB.out.trans (bc.mono BB.out.size))
    have SP := hide (SP.out.keep bc)
    have BP := hide (BP.out.below bc BP.out.lt)
    have BQ := hide (BQ.out.below bc BQ.out.lt)
    have HBG := hide (HBG.out.below bc HBG.out.lt)
    have HIG := hide (HIG.out.low bc)
    have B18 := hide (B18.out.below bc B18.out.lt)
    have VL := hide (hL)
    have VR := hide (hR)
    clear bc hL hR
    clear hw1 hw2 hw3
    go_upto_region 11 with fail
    go_cut [21, 22] (fun u v wx => (CBox (32, 0, (qa, qb, qc)) u wx ∧ v = .bool true) ∧ Below wc.heap.size wc wx)
    case first =>
      as_aux_lemma =>
        obtain ⟨A, cc, hbx, hl, h1, h2, hig⟩ := VL.out.open_ F.out.sL.1 F.out.sL.2
        have AT := u_atc F.out.rL hig 0 (k + 1) (by rw [F.out.sL.1]; omega) (by have := HK.out; rw [F.out.sL.2]; omega) F.out.l1
        unfold gv at AT
        simp only [Nat.one_mul] at AT hbx
        have AT := hide AT
        obtain ⟨m0, m1, m2, -, -, -⟩ := hbx.three
        obtain ⟨hw1, hw2⟩ := HW.out
        clear hbx hl h1 h2 hig
        go_wp2_with (
          go_at_call 20
          go_must (refine AT.out.mono ?_)
          rintro e w2 ⟨rfl, b2⟩
          have b2 := hide b2
          clear m0 m1 m2)
        go_meet
        exact ⟨⟨⟨_, rfl, Box.new _ _ _⟩, rfl⟩, b2.out.alloc (by have := b2.out.size; omega) _⟩
    obtain ⟨⟨⟨g21, rfl, hB21⟩, rfl⟩, bc⟩ := hcut
    have BB := hide (BB.out.trans (bc.mono BB.out.size))
    have SP := hide (SP.out.keep bc)
    have BP := hide (BP.out.below bc BP.out.lt)
    have BQ := hide (BQ.out.below bc BQ.out.lt)
    have HBG := hide (HBG.out.below bc HBG.out.lt)
    have HIG := hide (HIG.out.low bc)
    have B18 := hide (B18.out.below bc B18.out.lt)
    have VL := hide (VL.out.low bc)
    have VR := hide (VR.out.low bc)
    have B21 := hide (show Box wc g21 32 #[.int .i32 32, .int .i64 0, .int .i64 qa, .int .i64 qb, .int .i64 qc] from hB21)
    clear bc hB21
    go_upto_region 12 with fail
    go_cut [23, 24] (fun u v wx => (CBox (32, 0, (qa, qb, qc)) u wx ∧ v = .bool true) ∧ Below wc.heap.size wc wx)
    case first =>
      as_aux_lemma =>
        obtain ⟨A, cc, hbx, hl, h1, h2, hig⟩ := VR.out.open_ F.out.sR.1 F.out.sR.2
        have AT := u_atc F.out.rR hig 0 (k) (by rw [F.out.sR.1]; omega) (by have := HK.out; rw [F.out.sR.2]; omega) F.out.r0
        unfold gv at AT
        simp only [Nat.one_mul] at AT hbx
        have AT := hide AT
        obtain ⟨m0, m1, m2, -, -, -⟩ := hbx.three
        obtain ⟨hw1, hw2⟩ := HW.out
        clear hbx hl h1 h2 hig
        go_wp2_with (
          go_at_call 20
          go_must (refine AT.out.mono ?_)
          rintro e w2 ⟨rfl, b2⟩
          have b2 := hide b2
          clear m0 m1 m2)
        go_meet
        exact ⟨⟨⟨_, rfl, Box.new _ _ _⟩, rfl⟩, b2.out.alloc (by have := b2.out.size; omega) _⟩
    obtain ⟨⟨⟨g23, rfl, hB23⟩, rfl⟩, bc⟩ := hcut
    have BB := hide (BB.out.trans (bc.mono BB.out.size))
    have SP := hide (SP.out.keep bc)
    have BP := hide (BP.out.below bc BP.out.lt)
    have BQ := hide (BQ.out.below bc BQ.out.lt)
    have HBG := hide (HBG.out.below bc HBG.out.lt)
    have HIG := hide (HIG.out.low bc)
    have B18 := hide (B18.out.below bc B18.out.lt)
    have VL := hide (VL.out.low bc)
    have VR := hide (VR.out.low bc)
    have B21 := hide (B21.out.below bc B21.out.lt)
    have B23 := hide (show Box wc g23 32 #[.int .i32 32, .int .i64 0, .int .i64 qa, .int .i64 qb, .int .i64 qc] from hB23)
    clear bc hB23
    go_upto_region 13 with fail
    go_cut [25] (fun u wx => GVar wc.heap.size WG u wx ∧ Below wc.heap.size wc wx)
    case first =>
      as_aux_lemma =>
        have hp0 : wc.cell? ⟨gP, 0, none⟩ = some (.int .i64 pa) := BP.out.cell 0
        have hp1 : wc.cell? ⟨gP, 1, none⟩ = some (.int .i64 pb) := BP.out.cell 1
        have hp2 : wc.cell? ⟨gP, 2, none⟩ = some (.int .i64 pc) := BP.out.cell 2
        obtain ⟨m0, m1, m2, -, -, -⟩ := Box.three (a := .int .i64 1) (b := .int .i64 8) (c := .slice AG 8 cG) HBG.out
        have WT := u_wipe F.out.rG HIG.out 0 (k + 1) (k + 2) (pa, pb, pc) (by have := HK.out; omega) (by have := HK.out; omega)
        rw [F.out.eW] at WT
        have WT := hide WT
        obtain ⟨hw1, hw2⟩ := HW.out
        go_wp2_with (
          go_at_call 16
          go_must (refine WT.out.mono ?_)
          rintro e w2 ⟨v, rfl, ⟨s, rfl, ho⟩, b2⟩
          obtain ⟨sA, sc, rfl, _⟩ := own_form' ho
          have b2 := hide b2
          have ho := hide ho
          unfold gv
          clear m0 m1 m2 hp0 hp1 hp2)
        go_meet
        exact ⟨⟨_, rfl, b2.out.size, _, Box.new _ _ _, _, rfl, own_low ho.out ((Below.refl _ _).alloc (Nat.le_refl _) _)⟩, b2.out.alloc (by have := b2.out.size; omega) _⟩
    obtain ⟨⟨gW, rfl, -, hW⟩, bc⟩ := hcut
    have BB := hide (BB.out.trans (bc.mono BB.out.size))
    have SP := hide (SP.out.keep bc)
    have BP := hide (BP.out.below bc BP.out.lt)
    have BQ := hide (BQ.out.below bc BQ.out.lt)
    have HBG := hide (HBG.out.below bc HBG.out.lt)
    have HIG := hide (HIG.out.low bc)
    have B18 := hide (B18.out.below bc B18.out.lt)
    have VL := hide (VL.out.low bc)
    have VR := hide (VR.out.low bc)
    have B21 := hide (B21.out.below bc B21.out.lt)
    have B23 := hide (B23.out.below bc B23.out.lt)
    have VW := hide (hW)
    clear bc hW
    go_upto_region 14 with fail
    go_cut [26, 27] (fun u v wx => (CBox (32, 0, (qa, qb, qc)) u wx ∧ v = .bool true) ∧ Below wc.heap.size wc wx)
    case first =>
      as_aux_lemma =>
        obtain ⟨A, cc, hbx, hl, h1, h2, hig⟩ := VW.out.open_ F.out.sW.1 F.out.sW.2
        have AT := u_atc F.out.rW hig 0 (k) (by rw [F.out.sW.1]; omega) (by have := HK.out; rw [F.out.sW.2]; omega) F.out.w0
        unfold gv at AT
        simp only [Nat.one_mul] at AT hbx
        have AT := hide AT
        obtain ⟨m0, m1, m2, -, -, -⟩ := hbx.three
        obtain ⟨hw1, hw2⟩ := HW.out
        clear hbx hl h1 h2 hig
        go_wp2_with (
          go_at_call 20
          go_must (refine AT.out.mono ?_)
          rintro e w2 ⟨rfl, b2⟩
          have b2 := hide b2
          clear m0 m1 m2)
        go_meet
        exact ⟨⟨⟨_, rfl, Box.new _ _ _⟩, rfl⟩, b2.out.alloc (by have := b2.out.size; omega) _⟩
    obtain ⟨⟨⟨g26, rfl, hB26⟩, rfl⟩, bc⟩ := hcut
    have BB := hide (BB.out.trans (bc.mono BB.out.size))
    have SP := hide (SP.out.keep bc)
    have BP := hide (BP.out.below bc BP.out.lt)
    have BQ := hide (BQ.out.below bc BQ.out.lt)
    have HBG := hide (HBG.out.below bc HBG.out.lt)
    have HIG := hide (HIG.out.low bc)
    have B18 := hide (B18.out.below bc B18.out.lt)
    have VL := hide (VL.out.low bc)
    have VR := hide (VR.out.low bc)
    have B21 := hide (B21.out.below bc B21.out.lt)
    have B23 := hide (B23.out.below bc B23.out.lt)
    have VW := hide (VW.out.low bc)
    have B26 := hide (show Box wc g26 32 #[.int .i32 32, .int .i64 0, .int .i64 qa, .int .i64 qb, .int .i64 qc] from hB26)
    clear bc hB26
    go_upto_region 15 with fail
    go_cut [28, 29] (fun u v wx => (CBox (32, 0, (pa, pb, pc)) u wx ∧ v = .bool true) ∧ Below wc.heap.size wc wx)
    case first =>
      as_aux_lemma =>
        obtain ⟨A, cc, hbx, hl, h1, h2, hig⟩ := VW.out.open_ F.out.sW.1 F.out.sW.2
        have AT := u_atc F.out.rW hig 0 (k + 1) (by rw [F.out.sW.1]; omega) (by have := HK.out; rw [F.out.sW.2]; omega) F.out.w1
        unfold gv at AT
        simp only [Nat.one_mul] at AT hbx
        have AT := hide AT
        obtain ⟨m0, m1, m2, -, -, -⟩ := hbx.three
        obtain ⟨hw1, hw2⟩ := HW.out
        clear hbx hl h1 h2 hig
        go_wp2_with (
          go_at_call 20
          go_must (refine AT.out.mono ?_)
          rintro e w2 ⟨rfl, b2⟩
          have b2 := hide b2
          clear m0 m1 m2)
        go_meet
        exact ⟨⟨⟨_, rfl, Box.new _ _ _⟩, rfl⟩, b2.out.alloc (by have := b2.out.size; omega) _⟩
    obtain ⟨⟨⟨g28, rfl, hB28⟩, rfl⟩, bc⟩ := hcut
    have BB := hide (BB.out.trans (bc.mono BB.out.size))
    have SP := hide (SP.out.keep bc)
    have BP := hide (BP.out.below bc BP.out.lt)
    have BQ := hide (BQ.out.below bc BQ.out.lt)
    have HBG := hide (HBG.out.below bc HBG.out.lt)
    have HIG := hide (HIG.out.low bc)
    have B18 := hide (B18.out.below bc B18.out.lt)
    have VL := hide (VL.out.low bc)
    have VR := hide (VR.out.low bc)
    have B21 := hide (B21.out.below bc B21.out.lt)
    have B23 := hide (B23.out.below bc B23.out.lt)
    have VW := hide (VW.out.low bc)
    have B26 := hide (B26.out.below bc B26.out.lt)
    have B28 := hide (show Box wc g28 32 #[.int .i32 32, .int .i64 0, .int .i64 pa, .int .i64 pb, .int .i64 pc] from hB28)
    clear bc hB28
    go_upto_region 16 with fail
    go_cut [30] (fun u wx => GVar wc.heap.size CG u wx ∧ Below wc.heap.size wc wx)
    case first =>
      as_aux_lemma =>
        have hp0 : wc.cell? ⟨gP, 0, none⟩ = some (.int .i64 pa) := BP.out.cell 0
        have hp1 : wc.cell? ⟨gP, 1, none⟩ = some (.int .i64 pb) := BP.out.cell 1
        have hp2 : wc.cell? ⟨gP, 2, none⟩ = some (.int .i64 pc) := BP.out.cell 2
        obtain ⟨m0, m1, m2, -, -, -⟩ := Box.three (a := .int .i64 1) (b := .int .i64 8) (c := .slice AG 8 cG) HBG.out
        have WT := u_resize F.out.rG HIG.out 1 (k + 1) (by omega) (by omega) (by omega) (by have := HK.out; omega)
        rw [F.out.eC] at WT
        have WT := hide WT
        obtain ⟨hw1, hw2⟩ := HW.out
        go_wp2_with (
          go_at_call 18
          go_must (refine WT.out.mono ?_)
          rintro e w2 ⟨v, rfl, ⟨s, rfl, ho⟩, b2⟩
          obtain ⟨sA, sc, rfl, _⟩ := own_form' ho
          have b2 := hide b2
          have ho := hide ho
          unfold gv
          clear m0 m1 m2 hp0 hp1 hp2)
        go_meet
        exact ⟨⟨_, rfl, b2.out.size, _, Box.new _ _ _, _, rfl, own_low ho.out ((Below.refl _ _).alloc (Nat.le_refl _) _)⟩, b2.out.alloc (by have := b2.out.size; omega) _⟩
    obtain ⟨⟨gC, rfl, -, hC⟩, bc⟩ := hcut
    have BB := hide (BB.out.trans (bc.mono BB.out.size))
    have SP := hide (SP.out.keep bc)
    have BP := hide (BP.out.below bc BP.out.lt)
    have BQ := hide (BQ.out.below bc BQ.out.lt)
    have HBG := hide (HBG.out.below bc HBG.out.lt)
    have HIG := hide (HIG.out.low bc)
    have B18 := hide (B18.out.below bc B18.out.lt)
    have VL := hide (VL.out.low bc)
    have VR := hide (VR.out.low bc)
    have B21 := hide (B21.out.below bc B21.out.lt)
    have B23 := hide (B23.out.below bc B23.out.lt)
    have VW := hide (VW.out.low bc)
    have B26 := hide (B26.out.below bc B26.out.lt)
    have B28 := hide (B28.out.below bc B28.out.lt)
    have VC := hide (hC)
    clear bc hC
    go_upto_region 17 with fail
    go_cut [31, 32] (fun u v wx => (CBox (32, 0, (qa, qb, qc)) u wx ∧ v = .bool true) ∧ Below wc.heap.size wc wx)
    case first =>
      as_aux_lemma =>
        obtain ⟨A, cc, hbx, hl, h1, h2, hig⟩ := VC.out.open_ F.out.sC.1 F.out.sC.2
        have AT := u_atc F.out.rC hig 0 (k) (by rw [F.out.sC.1]; omega) (by have := HK.out; rw [F.out.sC.2]; omega) F.out.c0
        unfold gv at AT
        simp only [Nat.one_mul] at AT hbx
        have AT := hide AT
        obtain ⟨m0, m1, m2, -, -, -⟩ := hbx.three
        obtain ⟨hw1, hw2⟩ := HW.out
        clear hbx hl h1 h2 hig
        go_wp2_with (
          go_at_call 20
          go_must (refine AT.out.mono ?_)
          rintro e w2 ⟨rfl, b2⟩
          have b2 := hide b2
          clear m0 m1 m2)
        go_meet
        exact ⟨⟨⟨_, rfl, Box.new _ _ _⟩, rfl⟩, b2.out.alloc (by have := b2.out.size; omega) _⟩
    obtain ⟨⟨⟨g31, rfl, hB31⟩, rfl⟩, bc⟩ := hcut
    have BB := hide (BB.out.trans (bc.mono BB.out.size))
    have SP := hide (SP.out.keep bc)
    have BP := hide (BP.out.below bc BP.out.lt)
    have BQ := hide (BQ.out.below bc BQ.out.lt)
    have HBG := hide (HBG.out.below bc HBG.out.lt)
    have HIG := hide (HIG.out.low bc)
    have B18 := hide (B18.out.below bc B18.out.lt)
    have VL := hide (VL.out.low bc)
    have VR := hide (VR.out.low bc)
    have B21 := hide (B21.out.below bc B21.out.lt)
    have B23 := hide (B23.out.below bc B23.out.lt)
    have VW := hide (VW.out.low bc)
    have B26 := hide (B26.out.below bc B26.out.lt)
    have B28 := hide (B28.out.below bc B28.out.lt)
    have VC := hide (VC.out.low bc)
    have B31 := hide (show Box wc g31 32 #[.int .i32 32, .int .i64 0, .int .i64 qa, .int .i64 qb, .int .i64 qc] from hB31)
    clear bc hB31
    go_upto_region 18 with fail
    go_cut [8] (fun u8 wx => (u8 = .bool true) ∧ Below wc.heap.size wc wx)
    case first =>
      as_aux_lemma =>
        refine wp_region_rj (n := 173) [] (fun _ => #[]) [(0, 0, 0, 0), (0, 0, 0, 0), (0, 0, 0, 0), (0, 0, 0, 0), (0, 0, 0, 0), (0, 0, 0, 0), (0, 0, 0, 0), (0, 0, 0, 0), (0, 0, 0, 0), (0, 0, 0, 0), (0, 0, 0, 0), (0, 0, 0, 0), (0, 0, 0, 0), (0, 0, 0, 0), (0, 0, 0, 0), (0, 0, 0, 0), (0, 0, 0, 0), (0, 0, 0, 0), (0, 0, 0, 0), (0, 0, 0, 0), (0, 0, 0, 0), (0, 0, 0, 0), (0, 0, 0, 0), (0, 0, 0, 0), (0, 0, 0, 0), (0, 0, 0, 0), (0, 0, 0, 0), (0, 0, 0, 0), (0, 0, 0, 0), (0, 0, 0, 0), (0, 0, 0, 0), (1, 0, 0, 0), (0, 0, 0, 0), (0, 0, 0, 0), (0, 0, 0, 0), (0, 0, 0, 0), (0, 0, 0, 0), (0, 0, 0, 0), (0, 0, 0, 0)] (fun j => [(.agg #[.int .i32 32, .int .i64 0, .int .i64 qa, .int .i64 qb, .int .i64 qc]), (.agg #[.int .i32 32, .int .i64 0, .int .i64 qa, .int .i64 qb, .int .i64 qc]), (.bool true), (.bool true), (.agg #[.int .i32 32, .int .i64 0, .int .i64 qa, .int .i64 qb, .int .i64 qc]), (.agg #[.int .i32 32, .int .i64 0, .int .i64 qa, .int .i64 qb, .int .i64 qc]), (.bool true), (.bool true), (.bool true), (.agg #[.int .i32 32, .int .i64 0, .int .i64 qa, .int .i64 qb, .int .i64 qc]), (.agg #[.int .i32 32, .int .i64 0, .int .i64 qa, .int .i64 qb, .int .i64 qc]), (.bool true), (.bool true), (.bool true), (.agg #[.int .i32 32, .int .i64 0, .int .i64 pa, .int .i64 pb, .int .i64 pc]), (.agg #[.int .i64 pa, .int .i64 pb, .int .i64 pc]), (.agg #[.int .i32 32, .int .i64 0, .int .i64 pa, .int .i64 pb, .int .i64 pc]), (.bool true), (.bool true), (.bool true), (.bool true), (.bool true), (.bool true), (.agg #[.int .i32 32, .int .i64 0, .int .i64 qa, .int .i64 qb, .int .i64 qc]), (.agg #[.int .i32 32, .int .i64 0, .int .i64 qa, .int .i64 qb, .int .i64 qc]), (.bool true), (.bool true), (.bool true), (.agg #[.int .i64 1, .int .i64 8, .slice AG 8 cG]), (.int .i32 x), (.agg #[.int .i64 pa, .int .i64 pb, .int .i64 pc]), undef, (.agg #[.int .i64 1, .int .i64 8, .slice AG 8 cG]), (.bool true), (.bool true), (.bool true), (.bool true), (.bool true), (.bool true)].getD j undef) (fun j => [PG.dflt, PG.dflt, PG.dflt, PG.dflt, PG.dflt, PG.dflt, PG.dflt, PG.dflt, PG.dflt, PG.dflt, PG.dflt, PG.dflt, PG.dflt, PG.dflt, PG.dflt, PG.dflt, PG.dflt, PG.dflt, PG.dflt, PG.dflt, PG.dflt, PG.dflt, PG.dflt, PG.dflt, PG.dflt, PG.dflt, PG.dflt, PG.dflt, PG.dflt, PG.dflt, PG.dflt, G, PG.dflt, PG.dflt, PG.dflt, PG.dflt, PG.dflt, PG.dflt, PG.dflt].getD j PG.dflt) (fun _ => 0) (by kernel_rfl) (by kernel_rfl) (by kernel_rfl) rfl (by kernel_rfl) (no4 rfl) (fun i j h => by revert h; exact no4 (p := fun _ => _) rfl i) (fun hRS => cases39 ⟨?_, ?_, ?_, ?_, ?_, ?_, ?_, ?_, ?_, ?_, ?_, ?_, ?_, ?_, ?_, ?_, ?_, ?_, ?_, ?_, ?_, ?_, ?_, ?_, ?_, ?_, ?_, ?_, ?_, ?_, ?_, ?_, ?_, ?_, ?_, ?_, ?_, ?_, ?_⟩) ?_
        · intro L a w' hL hsame hsz hJ hdep hcl
          have e0 : a.eval (.tmp 21) = (.pointer (some ⟨g21, 0, none⟩)) := eval_base hsame (by kernel_rfl)
          have hb := hJ.keptBox B21.out (by simp)
          have q0 : w'.cell? ⟨g21, 0, none⟩ = some (.int .i32 32) := hb.cell 0
          have q1 : w'.cell? ⟨g21, 1, none⟩ = some (.int .i64 0) := hb.cell 1
          have q2 : w'.cell? ⟨g21, 2, none⟩ = some (.int .i64 qa) := hb.cell 2
          have q3 : w'.cell? ⟨g21, 3, none⟩ = some (.int .i64 qb) := hb.cell 3
          have q4 : w'.cell? ⟨g21, 4, none⟩ = some (.int .i64 qc) := hb.cell 4
          refine Step.val _ rfl rfl (wanted_none rfl) (.agg #[.int .i32 32, .int .i64 0, .int .i64 qa, .int .i64 qb, .int .i64 qc]) w' (fun ρ hρ => ?_) (hJ.val hRS hcl hL rfl (Below.refl _ _) _ rfl)
          rw [hρ] at e0
          clear hb
          clear hJ hsame hdep hcl hρ hsz
          go_simp
        · intro L a w' hL hsame hsz hJ hdep hcl
          have e0 : a.eval (.tmp 18) = (.pointer (some ⟨g18, 0, none⟩)) := eval_base hsame (by kernel_rfl)
          have hb := hJ.keptBox B18.out (by simp)
          have q0 : w'.cell? ⟨g18, 0, none⟩ = some (.int .i32 32) := hb.cell 0
          have q1 : w'.cell? ⟨g18, 1, none⟩ = some (.int .i64 0) := hb.cell 1
          have q2 : w'.cell? ⟨g18, 2, none⟩ = some (.int .i64 qa) := hb.cell 2
          have q3 : w'.cell? ⟨g18, 3, none⟩ = some (.int .i64 qb) := hb.cell 3
          have q4 : w'.cell? ⟨g18, 4, none⟩ = some (.int .i64 qc) := hb.cell 4
          refine Step.val _ rfl rfl (wanted_none rfl) (.agg #[.int .i32 32, .int .i64 0, .int .i64 qa, .int .i64 qb, .int .i64 qc]) w' (fun ρ hρ => ?_) (hJ.val hRS hcl hL rfl (Below.refl _ _) _ rfl)
          rw [hρ] at e0
          clear hb
          clear hJ hsame hdep hcl hρ hsz
          go_simp
        · intro L a w' hL hsame hsz hJ hdep hcl
          have e0 : a.eval (.tmp 135) = (.agg #[.int .i32 32, .int .i64 0, .int .i64 qa, .int .i64 qb, .int .i64 qc]) := eval_slot (j := 0) (by kernel_rfl) (hJ.valOf (by decide) (dep_of hdep 0 (by kernel_rfl)) rfl rfl)
          have e1 : a.eval (.tmp 136) = (.agg #[.int .i32 32, .int .i64 0, .int .i64 qa, .int .i64 qb, .int .i64 qc]) := eval_slot (j := 1) (by kernel_rfl) (hJ.valOf (by decide) (dep_of hdep 1 (by kernel_rfl)) rfl rfl)
          refine Step.val _ rfl rfl (wanted_none rfl) (.bool true) w' (fun ρ hρ => ?_) (hJ.val hRS hcl hL rfl (Below.refl _ _) _ rfl)
          rw [hρ] at e0 e1
          clear hJ hsame hdep hcl hρ hsz
          go_simp
        · intro L a w' hL hsame hsz hJ hdep hcl
          have e0 : a.eval (.tmp 137) = (.bool true) := eval_slot (j := 2) (by kernel_rfl) (hJ.valOf (by decide) (dep_of hdep 2 (by kernel_rfl)) rfl rfl)
          refine Step.val _ rfl rfl (wanted_none rfl) (.bool true) w' (fun ρ hρ => ?_) (hJ.val hRS hcl hL rfl (Below.refl _ _) _ rfl)
          rw [hρ] at e0
          clear hJ hsame hdep hcl hρ hsz
          go_simp
        · intro L a w' hL hsame hsz hJ hdep hcl
          have gd : valOf _ 3 a = .bool true := hJ.valOf (by decide) (dep_of hdep 3 (by kernel_rfl)) rfl rfl
          have e0 : a.eval (.tmp 23) = (.pointer (some ⟨g23, 0, none⟩)) := eval_base hsame (by kernel_rfl)
          have hb := hJ.keptBox B23.out (by simp)
          have q0 : w'.cell? ⟨g23, 0, none⟩ = some (.int .i32 32) := hb.cell 0
          have q1 : w'.cell? ⟨g23, 1, none⟩ = some (.int .i64 0) := hb.cell 1
          have q2 : w'.cell? ⟨g23, 2, none⟩ = some (.int .i64 qa) := hb.cell 2
          have q3 : w'.cell? ⟨g23, 3, none⟩ = some (.int .i64 qb) := hb.cell 3
          have q4 : w'.cell? ⟨g23, 4, none⟩ = some (.int .i64 qc) := hb.cell 4
          refine Step.val _ rfl rfl (wanted_some (g := 3) (b := true) rfl gd) (.agg #[.int .i32 32, .int .i64 0, .int .i64 qa, .int .i64 qb, .int .i64 qc]) w' (fun ρ hρ => ?_) (hJ.val hRS hcl hL rfl (Below.refl _ _) _ rfl)
          rw [hρ] at e0
          clear hb
          clear hJ hsame hdep hcl hρ hsz gd
          go_simp
        · intro L a w' hL hsame hsz hJ hdep hcl
          have gd : valOf _ 3 a = .bool true := hJ.valOf (by decide) (dep_of hdep 3 (by kernel_rfl)) rfl rfl
          have e0 : a.eval (.tmp 18) = (.pointer (some ⟨g18, 0, none⟩)) := eval_base hsame (by kernel_rfl)
          have hb := hJ.keptBox B18.out (by simp)
          have q0 : w'.cell? ⟨g18, 0, none⟩ = some (.int .i32 32) := hb.cell 0
          have q1 : w'.cell? ⟨g18, 1, none⟩ = some (.int .i64 0) := hb.cell 1
          have q2 : w'.cell? ⟨g18, 2, none⟩ = some (.int .i64 qa) := hb.cell 2
          have q3 : w'.cell? ⟨g18, 3, none⟩ = some (.int .i64 qb) := hb.cell 3
          have q4 : w'.cell? ⟨g18, 4, none⟩ = some (.int .i64 qc) := hb.cell 4
          refine Step.val _ rfl rfl (wanted_some (g := 3) (b := true) rfl gd) (.agg #[.int .i32 32, .int .i64 0, .int .i64 qa, .int .i64 qb, .int .i64 qc]) w' (fun ρ hρ => ?_) (hJ.val hRS hcl hL rfl (Below.refl _ _) _ rfl)
          rw [hρ] at e0
          clear hb
          clear hJ hsame hdep hcl hρ hsz gd
          go_simp
        · intro L a w' hL hsame hsz hJ hdep hcl
          have gd : valOf _ 3 a = .bool true := hJ.valOf (by decide) (dep_of hdep 3 (by kernel_rfl)) rfl rfl
          have e0 : a.eval (.tmp 139) = (.agg #[.int .i32 32, .int .i64 0, .int .i64 qa, .int .i64 qb, .int .i64 qc]) := eval_slot (j := 4) (by kernel_rfl) (hJ.valOf (by decide) (dep_of hdep 4 (by kernel_rfl)) rfl rfl)
          have e1 : a.eval (.tmp 140) = (.agg #[.int .i32 32, .int .i64 0, .int .i64 qa, .int .i64 qb, .int .i64 qc]) := eval_slot (j := 5) (by kernel_rfl) (hJ.valOf (by decide) (dep_of hdep 5 (by kernel_rfl)) rfl rfl)
          refine Step.val _ rfl rfl (wanted_some (g := 3) (b := true) rfl gd) (.bool true) w' (fun ρ hρ => ?_) (hJ.val hRS hcl hL rfl (Below.refl _ _) _ rfl)
          rw [hρ] at e0 e1
          clear hJ hsame hdep hcl hρ hsz gd
          go_simp
        · intro L a w' hL hsame hsz hJ hdep hcl
          have e0 : a.eval (.tmp 138) = (.bool true) := eval_slot (j := 3) (by kernel_rfl) (hJ.valOf (by decide) (dep_of hdep 3 (by kernel_rfl)) rfl rfl)
          have e1 : a.eval (.tmp 141) = (.bool true) := eval_slot (j := 6) (by kernel_rfl) (hJ.valOf (by decide) (dep_of hdep 6 (by kernel_rfl)) rfl rfl)
          refine Step.val _ rfl rfl (wanted_none rfl) (.bool true) w' (fun ρ hρ => ?_) (hJ.val hRS hcl hL rfl (Below.refl _ _) _ rfl)
          rw [hρ] at e0 e1
          have ec0 : ρ (.const (.bool false)) = (.bool false) := (hρ _).symm
          clear hJ hsame hdep hcl hρ hsz
          go_simp
        · intro L a w' hL hsame hsz hJ hdep hcl
          have e0 : a.eval (.tmp 142) = (.bool true) := eval_slot (j := 7) (by kernel_rfl) (hJ.valOf (by decide) (dep_of hdep 7 (by kernel_rfl)) rfl rfl)
          refine Step.val _ rfl rfl (wanted_none rfl) (.bool true) w' (fun ρ hρ => ?_) (hJ.val hRS hcl hL rfl (Below.refl _ _) _ rfl)
          rw [hρ] at e0
          clear hJ hsame hdep hcl hρ hsz
          go_simp
        · intro L a w' hL hsame hsz hJ hdep hcl
          have gd : valOf _ 8 a = .bool true := hJ.valOf (by decide) (dep_of hdep 8 (by kernel_rfl)) rfl rfl
          have e0 : a.eval (.tmp 26) = (.pointer (some ⟨g26, 0, none⟩)) := eval_base hsame (by kernel_rfl)
          have hb := hJ.keptBox B26.out (by simp)
          have q0 : w'.cell? ⟨g26, 0, none⟩ = some (.int .i32 32) := hb.cell 0
          have q1 : w'.cell? ⟨g26, 1, none⟩ = some (.int .i64 0) := hb.cell 1
          have q2 : w'.cell? ⟨g26, 2, none⟩ = some (.int .i64 qa) := hb.cell 2
          have q3 : w'.cell? ⟨g26, 3, none⟩ = some (.int .i64 qb) := hb.cell 3
          have q4 : w'.cell? ⟨g26, 4, none⟩ = some (.int .i64 qc) := hb.cell 4
          refine Step.val _ rfl rfl (wanted_some (g := 8) (b := true) rfl gd) (.agg #[.int .i32 32, .int .i64 0, .int .i64 qa, .int .i64 qb, .int .i64 qc]) w' (fun ρ hρ => ?_) (hJ.val hRS hcl hL rfl (Below.refl _ _) _ rfl)
          rw [hρ] at e0
          clear hb
          clear hJ hsame hdep hcl hρ hsz gd
          go_simp
        · intro L a w' hL hsame hsz hJ hdep hcl
          have gd : valOf _ 8 a = .bool true := hJ.valOf (by decide) (dep_of hdep 8 (by kernel_rfl)) rfl rfl
          have e0 : a.eval (.tmp 18) = (.pointer (some ⟨g18, 0, none⟩)) := eval_base hsame (by kernel_rfl)
          have hb := hJ.keptBox B18.out (by simp)
          have q0 : w'.cell? ⟨g18, 0, none⟩ = some (.int .i32 32) := hb.cell 0
          have q1 : w'.cell? ⟨g18, 1, none⟩ = some (.int .i64 0) := hb.cell 1
          have q2 : w'.cell? ⟨g18, 2, none⟩ = some (.int .i64 qa) := hb.cell 2
          have q3 : w'.cell? ⟨g18, 3, none⟩ = some (.int .i64 qb) := hb.cell 3
          have q4 : w'.cell? ⟨g18, 4, none⟩ = some (.int .i64 qc) := hb.cell 4
          refine Step.val _ rfl rfl (wanted_some (g := 8) (b := true) rfl gd) (.agg #[.int .i32 32, .int .i64 0, .int .i64 qa, .int .i64 qb, .int .i64 qc]) w' (fun ρ hρ => ?_) (hJ.val hRS hcl hL rfl (Below.refl _ _) _ rfl)
          rw [hρ] at e0
          clear hb
          clear hJ hsame hdep hcl hρ hsz gd
          go_simp
        · intro L a w' hL hsame hsz hJ hdep hcl
          have gd : valOf _ 8 a = .bool true := hJ.valOf (by decide) (dep_of hdep 8 (by kernel_rfl)) rfl rfl
          have e0 : a.eval (.tmp 144) = (.agg #[.int .i32 32, .int .i64 0, .int .i64 qa, .int .i64 qb, .int .i64 qc]) := eval_slot (j := 9) (by kernel_rfl) (hJ.valOf (by decide) (dep_of hdep 9 (by kernel_rfl)) rfl rfl)
          have e1 : a.eval (.tmp 145) = (.agg #[.int .i32 32, .int .i64 0, .int .i64 qa, .int .i64 qb, .int .i64 qc]) := eval_slot (j := 10) (by kernel_rfl) (hJ.valOf (by decide) (dep_of hdep 10 (by kernel_rfl)) rfl rfl)
          refine Step.val _ rfl rfl (wanted_some (g := 8) (b := true) rfl gd) (.bool true) w' (fun ρ hρ => ?_) (hJ.val hRS hcl hL rfl (Below.refl _ _) _ rfl)
          rw [hρ] at e0 e1
          clear hJ hsame hdep hcl hρ hsz gd
          go_simp
        · intro L a w' hL hsame hsz hJ hdep hcl
          have e0 : a.eval (.tmp 143) = (.bool true) := eval_slot (j := 8) (by kernel_rfl) (hJ.valOf (by decide) (dep_of hdep 8 (by kernel_rfl)) rfl rfl)
          have e1 : a.eval (.tmp 146) = (.bool true) := eval_slot (j := 11) (by kernel_rfl) (hJ.valOf (by decide) (dep_of hdep 11 (by kernel_rfl)) rfl rfl)
          refine Step.val _ rfl rfl (wanted_none rfl) (.bool true) w' (fun ρ hρ => ?_) (hJ.val hRS hcl hL rfl (Below.refl _ _) _ rfl)
          rw [hρ] at e0 e1
          have ec0 : ρ (.const (.bool false)) = (.bool false) := (hρ _).symm
          clear hJ hsame hdep hcl hρ hsz
          go_simp
        · intro L a w' hL hsame hsz hJ hdep hcl
          have e0 : a.eval (.tmp 147) = (.bool true) := eval_slot (j := 12) (by kernel_rfl) (hJ.valOf (by decide) (dep_of hdep 12 (by kernel_rfl)) rfl rfl)
          refine Step.val _ rfl rfl (wanted_none rfl) (.bool true) w' (fun ρ hρ => ?_) (hJ.val hRS hcl hL rfl (Below.refl _ _) _ rfl)
          rw [hρ] at e0
          clear hJ hsame hdep hcl hρ hsz
          go_simp
        · intro L a w' hL hsame hsz hJ hdep hcl
          have gd : valOf _ 13 a = .bool true := hJ.valOf (by decide) (dep_of hdep 13 (by kernel_rfl)) rfl rfl
          have e0 : a.eval (.tmp 28) = (.pointer (some ⟨g28, 0, none⟩)) := eval_base hsame (by kernel_rfl)
          have hb := hJ.keptBox B28.out (by simp)
          have q0 : w'.cell? ⟨g28, 0, none⟩ = some (.int .i32 32) := hb.cell 0
          have q1 : w'.cell? ⟨g28, 1, none⟩ = some (.int .i64 0) := hb.cell 1
          have q2 : w'.cell? ⟨g28, 2, none⟩ = some (.int .i64 pa) := hb.cell 2
          have q3 : w'.cell? ⟨g28, 3, none⟩ = some (.int .i64 pb) := hb.cell 3
          have q4 : w'.cell? ⟨g28, 4, none⟩ = some (.int .i64 pc) := hb.cell 4
          refine Step.val _ rfl rfl (wanted_some (g := 13) (b := true) rfl gd) (.agg #[.int .i32 32, .int .i64 0, .int .i64 pa, .int .i64 pb, .int .i64 pc]) w' (fun ρ hρ => ?_) (hJ.val hRS hcl hL rfl (Below.refl _ _) _ rfl)
          rw [hρ] at e0
          clear hb
          clear hJ hsame hdep hcl hρ hsz gd
          go_simp
        · intro L a w' hL hsame hsz hJ hdep hcl
          have gd : valOf _ 13 a = .bool true := hJ.valOf (by decide) (dep_of hdep 13 (by kernel_rfl)) rfl rfl
          have e0 : a.eval (.tmp 9) = (.pointer (some ⟨gP, 0, none⟩)) := eval_base hsame (by kernel_rfl)
          have hb := hJ.keptBox BP.out (by simp)
          have q0 : w'.cell? ⟨gP, 0, none⟩ = some (.int .i64 pa) := hb.cell 0
          have q1 : w'.cell? ⟨gP, 1, none⟩ = some (.int .i64 pb) := hb.cell 1
          have q2 : w'.cell? ⟨gP, 2, none⟩ = some (.int .i64 pc) := hb.cell 2
          refine Step.val _ rfl rfl (wanted_some (g := 13) (b := true) rfl gd) (.agg #[.int .i64 pa, .int .i64 pb, .int .i64 pc]) w' (fun ρ hρ => ?_) (hJ.val hRS hcl hL rfl (Below.refl _ _) _ rfl)
          rw [hρ] at e0
          clear hb
          clear hJ hsame hdep hcl hρ hsz gd
          go_simp
        · intro L a w' hL hsame hsz hJ hdep hcl
          have gd : valOf _ 13 a = .bool true := hJ.valOf (by decide) (dep_of hdep 13 (by kernel_rfl)) rfl rfl
          have e1 : a.eval (.tmp 150) = (.agg #[.int .i64 pa, .int .i64 pb, .int .i64 pc]) := eval_slot (j := 15) (by kernel_rfl) (hJ.valOf (by decide) (dep_of hdep 15 (by kernel_rfl)) rfl rfl)
          refine Step.val _ rfl rfl (wanted_some (g := 13) (b := true) rfl gd) (.agg #[.int .i32 32, .int .i64 0, .int .i64 pa, .int .i64 pb, .int .i64 pc]) w' (fun ρ hρ => ?_) (hJ.val hRS hcl hL rfl (Below.refl _ _) _ rfl)
          rw [hρ] at e1
          have ec0 : ρ (.const (.int .i32 32)) = (.int .i32 32) := (hρ _).symm
          clear hJ hsame hdep hcl hρ hsz gd
          go_simp
        · intro L a w' hL hsame hsz hJ hdep hcl
          have gd : valOf _ 13 a = .bool true := hJ.valOf (by decide) (dep_of hdep 13 (by kernel_rfl)) rfl rfl
          have e0 : a.eval (.tmp 149) = (.agg #[.int .i32 32, .int .i64 0, .int .i64 pa, .int .i64 pb, .int .i64 pc]) := eval_slot (j := 14) (by kernel_rfl) (hJ.valOf (by decide) (dep_of hdep 14 (by kernel_rfl)) rfl rfl)
          have e1 : a.eval (.tmp 151) = (.agg #[.int .i32 32, .int .i64 0, .int .i64 pa, .int .i64 pb, .int .i64 pc]) := eval_slot (j := 16) (by kernel_rfl) (hJ.valOf (by decide) (dep_of hdep 16 (by kernel_rfl)) rfl rfl)
          refine Step.val _ rfl rfl (wanted_some (g := 13) (b := true) rfl gd) (.bool true) w' (fun ρ hρ => ?_) (hJ.val hRS hcl hL rfl (Below.refl _ _) _ rfl)
          rw [hρ] at e0 e1
          clear hJ hsame hdep hcl hρ hsz gd
          go_simp
        · intro L a w' hL hsame hsz hJ hdep hcl
          have e0 : a.eval (.tmp 148) = (.bool true) := eval_slot (j := 13) (by kernel_rfl) (hJ.valOf (by decide) (dep_of hdep 13 (by kernel_rfl)) rfl rfl)
          have e1 : a.eval (.tmp 152) = (.bool true) := eval_slot (j := 17) (by kernel_rfl) (hJ.valOf (by decide) (dep_of hdep 17 (by kernel_rfl)) rfl rfl)
          refine Step.val _ rfl rfl (wanted_none rfl) (.bool true) w' (fun ρ hρ => ?_) (hJ.val hRS hcl hL rfl (Below.refl _ _) _ rfl)
          rw [hρ] at e0 e1
          have ec0 : ρ (.const (.bool false)) = (.bool false) := (hρ _).symm
          clear hJ hsame hdep hcl hρ hsz
          go_simp
        · intro L a w' hL hsame hsz hJ hdep hcl
          have e0 : a.eval (.tmp 153) = (.bool true) := eval_slot (j := 18) (by kernel_rfl) (hJ.valOf (by decide) (dep_of hdep 18 (by kernel_rfl)) rfl rfl)
          refine Step.val _ rfl rfl (wanted_none rfl) (.bool true) w' (fun ρ hρ => ?_) (hJ.val hRS hcl hL rfl (Below.refl _ _) _ rfl)
          rw [hρ] at e0
          clear hJ hsame hdep hcl hρ hsz
          go_simp
        · intro L a w' hL hsame hsz hJ hdep hcl
          have gd : valOf _ 19 a = .bool true := hJ.valOf (by decide) (dep_of hdep 19 (by kernel_rfl)) rfl rfl
          have e0 : a.eval (.tmp 32) = (.bool true) := eval_base hsame (by kernel_rfl)
          refine Step.val _ rfl rfl (wanted_some (g := 19) (b := true) rfl gd) (.bool true) w' (fun ρ hρ => ?_) (hJ.val hRS hcl hL rfl (Below.refl _ _) _ rfl)
          rw [hρ] at e0
          clear hJ hsame hdep hcl hρ hsz gd
          go_simp
        · intro L a w' hL hsame hsz hJ hdep hcl
          have e0 : a.eval (.tmp 154) = (.bool true) := eval_slot (j := 19) (by kernel_rfl) (hJ.valOf (by decide) (dep_of hdep 19 (by kernel_rfl)) rfl rfl)
          have e1 : a.eval (.tmp 155) = (.bool true) := eval_slot (j := 20) (by kernel_rfl) (hJ.valOf (by decide) (dep_of hdep 20 (by kernel_rfl)) rfl rfl)
          refine Step.val _ rfl rfl (wanted_none rfl) (.bool true) w' (fun ρ hρ => ?_) (hJ.val hRS hcl hL rfl (Below.refl _ _) _ rfl)
          rw [hρ] at e0 e1
          have ec0 : ρ (.const (.bool false)) = (.bool false) := (hρ _).symm
          clear hJ hsame hdep hcl hρ hsz
          go_simp
        · intro L a w' hL hsame hsz hJ hdep hcl
          have e0 : a.eval (.tmp 156) = (.bool true) := eval_slot (j := 21) (by kernel_rfl) (hJ.valOf (by decide) (dep_of hdep 21 (by kernel_rfl)) rfl rfl)
          refine Step.val _ rfl rfl (wanted_none rfl) (.bool true) w' (fun ρ hρ => ?_) (hJ.val hRS hcl hL rfl (Below.refl _ _) _ rfl)
          rw [hρ] at e0
          clear hJ hsame hdep hcl hρ hsz
          go_simp
        · intro L a w' hL hsame hsz hJ hdep hcl
          have gd : valOf _ 22 a = .bool true := hJ.valOf (by decide) (dep_of hdep 22 (by kernel_rfl)) rfl rfl
          have e0 : a.eval (.tmp 31) = (.pointer (some ⟨g31, 0, none⟩)) := eval_base hsame (by kernel_rfl)
          have hb := hJ.keptBox B31.out (by simp)
          have q0 : w'.cell? ⟨g31, 0, none⟩ = some (.int .i32 32) := hb.cell 0
          have q1 : w'.cell? ⟨g31, 1, none⟩ = some (.int .i64 0) := hb.cell 1
          have q2 : w'.cell? ⟨g31, 2, none⟩ = some (.int .i64 qa) := hb.cell 2
          have q3 : w'.cell? ⟨g31, 3, none⟩ = some (.int .i64 qb) := hb.cell 3
          have q4 : w'.cell? ⟨g31, 4, none⟩ = some (.int .i64 qc) := hb.cell 4
          refine Step.val _ rfl rfl (wanted_some (g := 22) (b := true) rfl gd) (.agg #[.int .i32 32, .int .i64 0, .int .i64 qa, .int .i64 qb, .int .i64 qc]) w' (fun ρ hρ => ?_) (hJ.val hRS hcl hL rfl (Below.refl _ _) _ rfl)
          rw [hρ] at e0
          clear hb
          clear hJ hsame hdep hcl hρ hsz gd
          go_simp
        · intro L a w' hL hsame hsz hJ hdep hcl
          have gd : valOf _ 22 a = .bool true := hJ.valOf (by decide) (dep_of hdep 22 (by kernel_rfl)) rfl rfl
          have e0 : a.eval (.tmp 18) = (.pointer (some ⟨g18, 0, none⟩)) := eval_base hsame (by kernel_rfl)
          have hb := hJ.keptBox B18.out (by simp)
          have q0 : w'.cell? ⟨g18, 0, none⟩ = some (.int .i32 32) := hb.cell 0
          have q1 : w'.cell? ⟨g18, 1, none⟩ = some (.int .i64 0) := hb.cell 1
          have q2 : w'.cell? ⟨g18, 2, none⟩ = some (.int .i64 qa) := hb.cell 2
          have q3 : w'.cell? ⟨g18, 3, none⟩ = some (.int .i64 qb) := hb.cell 3
          have q4 : w'.cell? ⟨g18, 4, none⟩ = some (.int .i64 qc) := hb.cell 4
          refine Step.val _ rfl rfl (wanted_some (g := 22) (b := true) rfl gd) (.agg #[.int .i32 32, .int .i64 0, .int .i64 qa, .int .i64 qb, .int .i64 qc]) w' (fun ρ hρ => ?_) (hJ.val hRS hcl hL rfl (Below.refl _ _) _ rfl)
          rw [hρ] at e0
          clear hb
          clear hJ hsame hdep hcl hρ hsz gd
          go_simp
        · intro L a w' hL hsame hsz hJ hdep hcl
          have gd : valOf _ 22 a = .bool true := hJ.valOf (by decide) (dep_of hdep 22 (by kernel_rfl)) rfl rfl
          have e0 : a.eval (.tmp 158) = (.agg #[.int .i32 32, .int .i64 0, .int .i64 qa, .int .i64 qb, .int .i64 qc]) := eval_slot (j := 23) (by kernel_rfl) (hJ.valOf (by decide) (dep_of hdep 23 (by kernel_rfl)) rfl rfl)
          have e1 : a.eval (.tmp 159) = (.agg #[.int .i32 32, .int .i64 0, .int .i64 qa, .int .i64 qb, .int .i64 qc]) := eval_slot (j := 24) (by kernel_rfl) (hJ.valOf (by decide) (dep_of hdep 24 (by kernel_rfl)) rfl rfl)
          refine Step.val _ rfl rfl (wanted_some (g := 22) (b := true) rfl gd) (.bool true) w' (fun ρ hρ => ?_) (hJ.val hRS hcl hL rfl (Below.refl _ _) _ rfl)
          rw [hρ] at e0 e1
          clear hJ hsame hdep hcl hρ hsz gd
          go_simp
        · intro L a w' hL hsame hsz hJ hdep hcl
          have e0 : a.eval (.tmp 157) = (.bool true) := eval_slot (j := 22) (by kernel_rfl) (hJ.valOf (by decide) (dep_of hdep 22 (by kernel_rfl)) rfl rfl)
          have e1 : a.eval (.tmp 160) = (.bool true) := eval_slot (j := 25) (by kernel_rfl) (hJ.valOf (by decide) (dep_of hdep 25 (by kernel_rfl)) rfl rfl)
          refine Step.val _ rfl rfl (wanted_none rfl) (.bool true) w' (fun ρ hρ => ?_) (hJ.val hRS hcl hL rfl (Below.refl _ _) _ rfl)
          rw [hρ] at e0 e1
          have ec0 : ρ (.const (.bool false)) = (.bool false) := (hρ _).symm
          clear hJ hsame hdep hcl hρ hsz
          go_simp
        · intro L a w' hL hsame hsz hJ hdep hcl
          have e0 : a.eval (.tmp 161) = (.bool true) := eval_slot (j := 26) (by kernel_rfl) (hJ.valOf (by decide) (dep_of hdep 26 (by kernel_rfl)) rfl rfl)
          refine Step.val _ rfl rfl (wanted_none rfl) (.bool true) w' (fun ρ hρ => ?_) (hJ.val hRS hcl hL rfl (Below.refl _ _) _ rfl)
          rw [hρ] at e0
          clear hJ hsame hdep hcl hρ hsz
          go_simp
        · intro L a w' hL hsame hsz hJ hdep hcl
          have gd : valOf _ 27 a = .bool true := hJ.valOf (by decide) (dep_of hdep 27 (by kernel_rfl)) rfl rfl
          have e0 : a.eval (.tmp 13) = (.pointer (some ⟨gG, 0, none⟩)) := eval_base hsame (by kernel_rfl)
          have hb := hJ.keptBox HBG.out (by simp)
          have q0 : w'.cell? ⟨gG, 0, none⟩ = some (.int .i64 1) := hb.cell 0
          have q1 : w'.cell? ⟨gG, 1, none⟩ = some (.int .i64 8) := hb.cell 1
          have q2 : w'.cell? ⟨gG, 2, none⟩ = some (.slice AG 8 cG) := hb.cell 2
          refine Step.val _ rfl rfl (wanted_some (g := 27) (b := true) rfl gd) (.agg #[.int .i64 1, .int .i64 8, .slice AG 8 cG]) w' (fun ρ hρ => ?_) (hJ.val hRS hcl hL rfl (Below.refl _ _) _ rfl)
          rw [hρ] at e0
          clear hb
          clear hJ hsame hdep hcl hρ hsz gd
          go_simp
        · intro L a w' hL hsame hsz hJ hdep hcl
          have gd : valOf _ 27 a = .bool true := hJ.valOf (by decide) (dep_of hdep 27 (by kernel_rfl)) rfl rfl
          have e0 : a.eval (.tmp 12) = (.int .i32 x) := eval_base hsame (by kernel_rfl)
          refine Step.val _ rfl rfl (wanted_some (g := 27) (b := true) rfl gd) (.int .i32 x) w' (fun ρ hρ => ?_) (hJ.val hRS hcl hL rfl (Below.refl _ _) _ rfl)
          rw [hρ] at e0
          clear hJ hsame hdep hcl hρ hsz gd
          go_simp
        · intro L a w' hL hsame hsz hJ hdep hcl
          have gd : valOf _ 27 a = .bool true := hJ.valOf (by decide) (dep_of hdep 27 (by kernel_rfl)) rfl rfl
          have e0 : a.eval (.tmp 9) = (.pointer (some ⟨gP, 0, none⟩)) := eval_base hsame (by kernel_rfl)
          have hb := hJ.keptBox BP.out (by simp)
          have q0 : w'.cell? ⟨gP, 0, none⟩ = some (.int .i64 pa) := hb.cell 0
          have q1 : w'.cell? ⟨gP, 1, none⟩ = some (.int .i64 pb) := hb.cell 1
          have q2 : w'.cell? ⟨gP, 2, none⟩ = some (.int .i64 pc) := hb.cell 2
          refine Step.val _ rfl rfl (wanted_some (g := 27) (b := true) rfl gd) (.agg #[.int .i64 pa, .int .i64 pb, .int .i64 pc]) w' (fun ρ hρ => ?_) (hJ.val hRS hcl hL rfl (Below.refl _ _) _ rfl)
          rw [hρ] at e0
          clear hb
          clear hJ hsame hdep hcl hρ hsz gd
          go_simp
        · intro L a w' hL hsame hsz hJ hdep hcl
          have gd : valOf _ 27 a = .bool true := hJ.valOf (by decide) (dep_of hdep 27 (by kernel_rfl)) rfl rfl
          have e0 : a.eval (.tmp 163) = (.agg #[.int .i64 1, .int .i64 8, .slice AG 8 cG]) := eval_slot (j := 28) (by kernel_rfl) (hJ.valOf (by decide) (dep_of hdep 28 (by kernel_rfl)) rfl rfl)
          have e3 : a.eval (.tmp 164) = (.int .i32 x) := eval_slot (j := 29) (by kernel_rfl) (hJ.valOf (by decide) (dep_of hdep 29 (by kernel_rfl)) rfl rfl)
          have e4 : a.eval (.tmp 165) = (.agg #[.int .i64 pa, .int .i64 pb, .int .i64 pc]) := eval_slot (j := 30) (by kernel_rfl) (hJ.valOf (by decide) (dep_of hdep 30 (by kernel_rfl)) rfl rfl)
          have UP := u_put F.out.rG (HIG.out.low (hJ.kept.toBelow (Nat.le_refl _) (by simp))) 0 7 x (pa, pb, pc) (by omega) (by omega) (by have := HK.out; omega) (by have := HK.out; omega) (SP.out.keptS hJ.kept (by simp))
          rw [F.out.eO] at UP
          refine Step.call _ rfl rfl (wanted_some (g := 27) (b := true) rfl gd) 8 #[.agg #[.int .i64 1, .int .i64 8, .slice AG 8 cG], .int .i64 0, .int .i64 7, .int .i32 x, .agg #[.int .i64 pa, .int .i64 pb, .int .i64 pc]] (fun ρ hρ => ?_) ?_
          · skip
            rw [hρ] at e0 e3 e4
            have ec0 : ρ (.const (.int .i64 0)) = (.int .i64 0) := (hρ _).symm
            have ec1 : ρ (.const (.int .i64 7)) = (.int .i64 7) := (hρ _).symm
            have ef : ρ (.func 8) = .func (.func 8) #[] #[] := (hρ _).symm
            clear hJ hsame hdep hcl hρ hsz gd
            go_simp
          · refine (UP).mono ?_
            rintro e w2 ⟨v, rfl, hg, bb⟩
            exact ⟨v, rfl, hJ.grid hRS hcl hL rfl bb v hg⟩
        · intro L a w' hL hsame hsz hJ hdep hcl
          have gd : valOf _ 27 a = .bool true := hJ.valOf (by decide) (dep_of hdep 27 (by kernel_rfl)) rfl rfl
          have e0 : a.eval (.tmp 13) = (.pointer (some ⟨gG, 0, none⟩)) := eval_base hsame (by kernel_rfl)
          have hb := hJ.keptBox HBG.out (by simp)
          have q0 : w'.cell? ⟨gG, 0, none⟩ = some (.int .i64 1) := hb.cell 0
          have q1 : w'.cell? ⟨gG, 1, none⟩ = some (.int .i64 8) := hb.cell 1
          have q2 : w'.cell? ⟨gG, 2, none⟩ = some (.slice AG 8 cG) := hb.cell 2
          refine Step.val _ rfl rfl (wanted_some (g := 27) (b := true) rfl gd) (.agg #[.int .i64 1, .int .i64 8, .slice AG 8 cG]) w' (fun ρ hρ => ?_) (hJ.val hRS hcl hL rfl (Below.refl _ _) _ rfl)
          rw [hρ] at e0
          clear hb
          clear hJ hsame hdep hcl hρ hsz gd
          go_simp
        · intro L a w' hL hsame hsz hJ hdep hcl
          have gd : valOf _ 27 a = .bool true := hJ.valOf (by decide) (dep_of hdep 27 (by kernel_rfl)) rfl rfl
          obtain ⟨v31, hv31, hG31⟩ := hJ.gridAt (j := 31) (by decide) (dep_of hdep 31 (by kernel_rfl)) rfl
          have hG31 : IsG w' G v31 := hG31
          have e0 : a.eval (.tmp 166) = v31 := eval_slot (j := 31) (by kernel_rfl) hv31
          have e1 : a.eval (.tmp 167) = (.agg #[.int .i64 1, .int .i64 8, .slice AG 8 cG]) := eval_slot (j := 32) (by kernel_rfl) (hJ.valOf (by decide) (dep_of hdep 32 (by kernel_rfl)) rfl rfl)
          refine Step.call _ rfl rfl (wanted_some (g := 27) (b := true) rfl gd) 22 #[v31, .agg #[.int .i64 1, .int .i64 8, .slice AG 8 cG]] (fun ρ hρ => ?_) ?_
          · skip
            rw [hρ] at e0 e1
            have ef : ρ (.func 22) = .func (.func 22) #[] #[] := (hρ _).symm
            clear hJ hsame hdep hcl hρ hsz gd
            go_simp
          · refine (u_same F.out.rG hG31 (HIG.out.low (hJ.kept.toBelow (Nat.le_refl _) (by simp))) (PG.Alike.refl _)).mono ?_
            rintro e w2 ⟨rfl, bb⟩
            exact ⟨_, rfl, hJ.val hRS hcl hL rfl bb _ rfl⟩
        · intro L a w' hL hsame hsz hJ hdep hcl
          have e0 : a.eval (.tmp 162) = (.bool true) := eval_slot (j := 27) (by kernel_rfl) (hJ.valOf (by decide) (dep_of hdep 27 (by kernel_rfl)) rfl rfl)
          have e1 : a.eval (.tmp 168) = (.bool true) := eval_slot (j := 33) (by kernel_rfl) (hJ.valOf (by decide) (dep_of hdep 33 (by kernel_rfl)) rfl rfl)
          refine Step.val _ rfl rfl (wanted_none rfl) (.bool true) w' (fun ρ hρ => ?_) (hJ.val hRS hcl hL rfl (Below.refl _ _) _ rfl)
          rw [hρ] at e0 e1
          have ec0 : ρ (.const (.bool false)) = (.bool false) := (hρ _).symm
          clear hJ hsame hdep hcl hρ hsz
          go_simp
        · intro L a w' hL hsame hsz hJ hdep hcl
          have e0 : a.eval (.tmp 169) = (.bool true) := eval_slot (j := 34) (by kernel_rfl) (hJ.valOf (by decide) (dep_of hdep 34 (by kernel_rfl)) rfl rfl)
          refine Step.val _ rfl rfl (wanted_none rfl) (.bool true) w' (fun ρ hρ => ?_) (hJ.val hRS hcl hL rfl (Below.refl _ _) _ rfl)
          rw [hρ] at e0
          clear hJ hsame hdep hcl hρ hsz
          go_simp
        · intro L a w' hL hsame hsz hJ hdep hcl
          have gd : valOf _ 35 a = .bool true := hJ.valOf (by decide) (dep_of hdep 35 (by kernel_rfl)) rfl rfl
          refine Step.call _ rfl rfl (wanted_some (g := 35) (b := true) rfl gd) 3 #[] (fun ρ hρ => ?_) ?_
          · skip
            have ef : ρ (.func 3) = .func (.func 3) #[] #[] := (hρ _).symm
            clear hJ hsame hdep hcl hρ hsz gd
            go_simp
          · refine (gridRuns_any w' (SP.out.keptS hJ.kept (by simp))).mono ?_
            rintro e w2 ⟨rfl, bb⟩
            exact ⟨_, rfl, hJ.val hRS hcl hL rfl bb _ rfl⟩
        · intro L a w' hL hsame hsz hJ hdep hcl
          have e0 : a.eval (.tmp 170) = (.bool true) := eval_slot (j := 35) (by kernel_rfl) (hJ.valOf (by decide) (dep_of hdep 35 (by kernel_rfl)) rfl rfl)
          have e1 : a.eval (.tmp 171) = (.bool true) := eval_slot (j := 36) (by kernel_rfl) (hJ.valOf (by decide) (dep_of hdep 36 (by kernel_rfl)) rfl rfl)
          refine Step.val _ rfl rfl (wanted_none rfl) (.bool true) w' (fun ρ hρ => ?_) (hJ.val hRS hcl hL rfl (Below.refl _ _) _ rfl)
          rw [hρ] at e0 e1
          have ec0 : ρ (.const (.bool false)) = (.bool false) := (hρ _).symm
          clear hJ hsame hdep hcl hρ hsz
          go_simp
        · intro L a w' hL hsame hsz hJ hdep hcl
          have e0 : a.eval (.tmp 172) = (.bool true) := eval_slot (j := 37) (by kernel_rfl) (hJ.valOf (by decide) (dep_of hdep 37 (by kernel_rfl)) rfl rfl)
          refine Step.val _ rfl rfl (wanted_none rfl) (.bool true) w' (fun ρ hρ => ?_) (hJ.val hRS hcl hL rfl (Below.refl _ _) _ rfl)
          rw [hρ] at e0
          clear hJ hsame hdep hcl hρ hsz
          go_simp
        · intro L a w' hsame hsz hJ hall
          obtain ⟨u, hu, ha⟩ := act_puts hsame
          have h : (u 38 = .bool true) ∧ Below wc.heap.size wc w' := by
            (try simp only [hu])
            exact (And.intro (hJ.valOf (j := 38) (by decide) (hall 38 (by decide)) rfl rfl) (hJ.kept.toBelow (Nat.le_refl _) (by simp)))
          have h := hide h
          clear hJ hall hsz hu hsame
          subst ha
          change Exit.then _ _ Exit.normal (Act.put (Act.put (Act.put (Act.put (Act.put (Act.put (Act.put (Act.put (Act.put (Act.put (Act.put (Act.put (Act.put (Act.put (Act.put (Act.put (Act.put (Act.put (Act.put (Act.put (Act.put (Act.put (Act.put (Act.put (Act.put (Act.put (Act.put (Act.put (Act.put (Act.put (Act.put (Act.put (Act.put (Act.put (Act.put (Act.put (Act.put (Act.put (Act.put (putAll _ u 0 _) (some 135) (u 0)) (some 136) (u 1)) (some 137) (u 2)) (some 138) (u 3)) (some 139) (u 4)) (some 140) (u 5)) (some 141) (u 6)) (some 142) (u 7)) (some 143) (u 8)) (some 144) (u 9)) (some 145) (u 10)) (some 146) (u 11)) (some 147) (u 12)) (some 148) (u 13)) (some 149) (u 14)) (some 150) (u 15)) (some 151) (u 16)) (some 152) (u 17)) (some 153) (u 18)) (some 154) (u 19)) (some 155) (u 20)) (some 156) (u 21)) (some 157) (u 22)) (some 158) (u 23)) (some 159) (u 24)) (some 160) (u 25)) (some 161) (u 26)) (some 162) (u 27)) (some 163) (u 28)) (some 164) (u 29)) (some 165) (u 30)) (some 166) (u 31)) (some 167) (u 32)) (some 168) (u 33)) (some 169) (u 34)) (some 170) (u 35)) (some 171) (u 36)) (some 172) (u 37)) (some 8) (u 38)) _
          simp only [putAll]
          generalize u 0 = v0
          generalize u 1 = v1
          generalize u 2 = v2
          generalize u 3 = v3
          generalize u 4 = v4
          generalize u 5 = v5
          generalize u 6 = v6
          generalize u 7 = v7
          generalize u 8 = v8
          generalize u 9 = v9
          generalize u 10 = v10
          generalize u 11 = v11
          generalize u 12 = v12
          generalize u 13 = v13
          generalize u 14 = v14
          generalize u 15 = v15
          generalize u 16 = v16
          generalize u 17 = v17
          generalize u 18 = v18
          generalize u 19 = v19
          generalize u 20 = v20
          generalize u 21 = v21
          generalize u 22 = v22
          generalize u 23 = v23
          generalize u 24 = v24
          generalize u 25 = v25
          generalize u 26 = v26
          generalize u 27 = v27
          generalize u 28 = v28
          generalize u 29 = v29
          generalize u 30 = v30
          generalize u 31 = v31
          generalize u 32 = v32
          generalize u 33 = v33
          generalize u 34 = v34
          generalize u 35 = v35
          generalize u 36 = v36
          generalize u 37 = v37
          generalize u 38 = v38 at h ⊢
          go_simp
          go_step
          go_meet
          exact h.out
    case rest =>
    obtain ⟨rfl, bc⟩ := hcut
    have BB := hide (BB.out.trans (bc.mono BB.out.size))
    have SP := hide (SP.out.keep bc)
    have BP := hide (BP.out.below bc BP.out.lt)
    have BQ := hide (BQ.out.below bc BQ.out.lt)
    have HBG := hide (HBG.out.below bc HBG.out.lt)
    have HIG := hide (HIG.out.low bc)
    have B18 := hide (B18.out.below bc B18.out.lt)
    have VL := hide (VL.out.low bc)
    have VR := hide (VR.out.low bc)
    have B21 := hide (B21.out.below bc B21.out.lt)
    have B23 := hide (B23.out.below bc B23.out.lt)
    have VW := hide (VW.out.low bc)
    have B26 := hide (B26.out.below bc B26.out.lt)
    have B28 := hide (B28.out.below bc B28.out.lt)
    have VC := hide (VC.out.low bc)
    have B31 := hide (B31.out.below bc B31.out.lt)
    clear bc 
    go_wp2_with fail
    go_ret
    exact ⟨rfl, BB.out⟩
theorem gridWide_any (c n a0 a1 a2 b0 b1 b2 : Int) (w : World) (hc : (Lit.int .i64 c).wf = true) (hn : (Lit.int .i64 n).wf = true) (ha0 : (Lit.int .i64 a0).wf = true) (ha1 : (Lit.int .i64 a1).wf = true) (ha2 : (Lit.int .i64 a2).wf = true) (hb0 : (Lit.int .i64 b0).wf = true) (hb1 : (Lit.int .i64 b1).wf = true) (hb2 : (Lit.int .i64 b2).wf = true) (hs : Spans w) :
    Calls Tryd.prog 7 #[.int .i64 c, .int .i64 n, .agg #[.int .i64 a0, .int .i64 a1, .int .i64 a2], .agg #[.int .i64 b0, .int .i64 b1, .int .i64 b2]] w fun e w' => e = .returned (.bool true) ∧ Below w.heap.size w w' :=
  gridWide_core c n a0 a1 a2 b0 b1 b2 w (bounds_i64 hc) (bounds_i64 hn) (bounds_i64 ha0) (bounds_i64 ha1) (bounds_i64 ha2) (bounds_i64 hb0) (bounds_i64 hb1) (bounds_i64 hb2) hs
end Go.Proofs.YtfeapcneebofjaaDoor
