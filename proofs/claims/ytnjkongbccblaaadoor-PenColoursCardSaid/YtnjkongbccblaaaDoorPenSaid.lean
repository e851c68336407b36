/- PenSaid: from any pen, what is said of another one makes it; between the same nothing; nineteen parameters are enough. -/
import Derived.Test.YtnjkongbccblaaaDoorPenRuns
import Derived.Test.YtnjkongbccblaaaDoorKeepPen
import Derived.Test.YtnjkongbccblaaaDoorReg
import Derived.Test.YtnjkongbccblaaaDoorCases
import Derived.OpenShut
set_option maxRecDepth 100000
namespace Go.Proofs.YtnjkongbccblaaaDoor
open Go.RowKit
set_option linter.unusedVariables false
/-- the given Pen of three numbers -/
theorem pen_given10 {a b c : Int} (ha : (Lit.int .i64 a).wf = true) (hb : (Lit.int .i64 b).wf = true) (hc : (Lit.int .i64 c).wf = true) : Hid (∀ w, Calls Tryd.prog 15 #[.agg #[.int .i64 a, .int .i64 b, .int .i64 c]] w fun e w' => e = .returned (.agg #[.int .i64 (C.kcol a), .int .i64 (C.kcol b), .int .i64 (c % 256)]) ∧ Below w.heap.size w w') := by
  have h1 := bounds_i64 ha
  have h2 := bounds_i64 hb
  have h3 := bounds_i64 hc
  exact hide (fun w => keepPen_any a b c w h1.1 h1.2 h2.1 h2.2 h3.1 h3.2)
theorem kcol_col10 (n : Int) : PS.Col (C.kcol n) := by
  have := C.kcol_col n
  rw [C.col_iff] at this
  unfold PS.Col
  omega
theorem pr_given (a b c : Int) : PR ⟨C.kcol a, C.kcol b, (c % 256).toNat⟩ := ⟨by unfold PS.Ok; show (c % 256).toNat < 256; omega, kcol_col10 a, kcol_col10 b⟩
theorem own_first {w : World} {base n : Nat} {e : TypeId} {v : Value} {xs : List Value} (h : w.ownsRow base e 1 v n xs) (hn : 1 ≤ n) : ∃ g c, v = .slice (some ⟨g, 0, none⟩) n c ∧ g < w.heap.size ∧ n ≤ c := by
  have hlt := h.lt
  rcases h.2 with ⟨_, h0⟩ | ⟨g, cap, cur, rfl, _, hh, h1, h2, _, _⟩
  · omega
  · exact ⟨g, cap, rfl, (hlt g rfl).2, h1⟩
set_option maxHeartbeats 16000000 in
theorem penSaid_t (a0 a1 a2 b0 b1 b2 pf pb qf qb : Int) (pg qg nl nd : Nat) (SY DY : List Int) (eq : Bool) (w : World) (hp : PR ⟨pf, pb, pg⟩) (hq : PR ⟨qf, qb, qg⟩) (hL : PS.say ⟨qf, qb, qg⟩ = SY) (hD : betw ⟨pf, pb, pg⟩ ⟨qf, qb, qg⟩ = DY) (hnl : SY.length = nl) (hnd : DY.length = nd)
    (heq : eq = (pf == qf && pb == qb && (pg : Int) == (qg : Int)))
    (hFT : FlagT w) (PRN : Hid (∀ w, FlagT w → Calls Tryd.prog 3 #[] w fun e w' => e = .returned (.bool true) ∧ Below w.heap.size w w'))
    (KPA : Hid (∀ w, Calls Tryd.prog 15 #[.agg #[.int .i64 a0, .int .i64 a1, .int .i64 a2]] w fun e w' => e = .returned (.agg #[.int .i64 pf, .int .i64 pb, .int .i64 (pg : Nat)]) ∧ Below w.heap.size w w'))
    (KPB : Hid (∀ w, Calls Tryd.prog 15 #[.agg #[.int .i64 b0, .int .i64 b1, .int .i64 b2]] w fun e w' => e = .returned (.agg #[.int .i64 qf, .int .i64 qb, .int .i64 (qg : Nat)]) ∧ Below w.heap.size w w')) :
    Calls Tryd.prog 5 #[.agg #[.int .i64 a0, .int .i64 a1, .int .i64 a2], .agg #[.int .i64 b0, .int .i64 b1, .int .i64 b2]] w fun e w' => e = .returned (.bool true) ∧ Below w.heap.size w w' := by
  have SQ : Hid (∀ w : World, FlagT w → Calls Tryd.prog 11 #[.agg #[.int .i64 qf, .int .i64 qb, .int .i64 (qg : Nat)]] w fun e w' => ∃ v, e = .returned v ∧ w'.ownsRow w.heap.size 3 1 v nl (j64s SY) ∧ Below w.heap.size w w') := hide (fun w hft => by
    have := psay_is ⟨qf, qb, qg⟩ w hq hft
    rw [hL, hnl] at this
    exact this)
  have BT : Hid (∀ w : World, FlagT w → Calls Tryd.prog 12 #[.agg #[.int .i64 pf, .int .i64 pb, .int .i64 (pg : Nat)], .agg #[.int .i64 qf, .int .i64 qb, .int .i64 (qg : Nat)]] w fun e w' => ∃ v, e = .returned v ∧ w'.ownsRow w.heap.size 3 1 v nd (j64s DY) ∧ Below w.heap.size w w') := hide (fun w hft => by
    have := pbetw_is ⟨pf, pb, pg⟩ ⟨qf, qb, qg⟩ w hp hq hft
    rw [hD, hnd] at this
    exact this)
  have hl0 : 1 ≤ nl := by rw [← hnl, ← hL]; simp [PS.say]
  have hl19 : nl ≤ 19 := by rw [← hnl, ← hL]; exact PS.say_len _
  have hbd : ∀ x ∈ SY, 0 ≤ x ∧ x ≤ 255 := by rw [← hL]; exact PS.say_bd hq.2.1 hq.2.2
  have hsay := PS.apply_say ⟨pf, pb, pg⟩ hq.1 hq.2.1 hq.2.2
  rw [hL] at hsay
  have LN := hide hl0
  have LN2 := hide hl19
  have HBD := hide hbd
  have HNL := hide hnl
  have hL0 : SY[0]? = some 0 := by rw [← hL]; rfl
  have HL0 := hide hL0
  have hd : ((nd : Int) == 0) = eq := by
    rw [heq, ← hnd, ← hD]
    unfold betw
    by_cases h : pf = qf ∧ pb = qb ∧ pg = qg
    · rw [if_pos h]
      obtain ⟨h1, h2, h3⟩ := h
      simp [h1, h2, h3]
    · rw [if_neg h]
      have : (pf == qf && pb == qb && (pg : Int) == (qg : Int)) = false := by
        rw [Bool.eq_false_iff]
        intro hh
        simp at hh
        exact h ⟨hh.1.1, hh.1.2, by omega⟩
      rw [this]
      simp [PS.say]
      omega
  have DN := hide hd
  have hdn : nd ≤ 19 := by
    rw [← hnd, ← hD]
    unfold betw
    split
    · simp
    · exact PS.say_len _
  have DB : Hid (∀ x ∈ DY, 0 ≤ x ∧ x ≤ 255) := by
    rw [← hD]
    unfold betw
    split
    · intro x hx; simp at hx
    · exact PS.say_bd hq.2.1 hq.2.2
  have DE : Hid (eq = false → DY = SY) := fun h => by
    rw [← hD, ← hL]
    unfold betw
    rw [if_neg]
    rintro ⟨h1, h2, h3⟩
    rw [heq] at h
    simp at h1 h2 h3
    subst h1 h2 h3
    simp at h
  have HEQ := hide heq
  have HT := hide hFT
  have HPR := hide hp
  have HQR := hide hq
  have HSAY := hide hsay
  have enq : ∀ w' : World, (binOp .neq 23 (.agg #[.int .i64 qf, .int .i64 qb, .int .i64 (qg : Nat)]) (.agg #[.int .i64 qf, .int .i64 qb, .int .i64 (qg : Nat)])).run Tryd.prog w' = .ok (.bool false) w' := fun w' => by rw [neq_pen10]; simp
  have eqq : ∀ w' : World, (binOp .eql 23 (.agg #[.int .i64 qf, .int .i64 qb, .int .i64 (qg : Nat)]) (.agg #[.int .i64 qf, .int .i64 qb, .int .i64 (qg : Nat)])).run Tryd.prog w' = .ok (.bool true) w' := fun w' => by rw [eql_pen10]; simp
  have epq : ∀ w' : World, (binOp .eql 23 (.agg #[.int .i64 pf, .int .i64 pb, .int .i64 (pg : Nat)]) (.agg #[.int .i64 qf, .int .i64 qb, .int .i64 (qg : Nat)])).run Tryd.prog w' = .ok (.bool eq) w' := fun w' => by rw [eql_pen10, HEQ.out]
  clear hL hD hnl hnd heq hp hq hl0 hl19 hbd hsay hL0 hd
  go_enter Tryd.func5, Tryd.ntmps5
  have HA0 := hide ((Box.new w 31 #[.int .i64 a0, .int .i64 a1, .int .i64 a2]).alloc (.cells #[.int .i64 b0, .int .i64 b1, .int .i64 b2] 31))
  have HB0 := hide (by have h := Box.new (w.alloc (.cells #[.int .i64 a0, .int .i64 a1, .int .i64 a2] 31)) 31 #[.int .i64 b0, .int .i64 b1, .int .i64 b2]; rw [World.size_alloc] at h; exact h)
  have BW := hide (((Below.refl w.heap.size w).alloc (Nat.le_refl _) (.cells #[.int .i64 a0, .int .i64 a1, .int .i64 a2] 31)).alloc (by simp) (.cells #[.int .i64 b0, .int .i64 b1, .int .i64 b2] 31))
  go_upto_region 1 with fail
  generalize (w.alloc (.cells #[.int .i64 a0, .int .i64 a1, .int .i64 a2] 31)).alloc (.cells #[.int .i64 b0, .int .i64 b1, .int .i64 b2] 31) = wa at HA0 HB0 BW ⊢
  go_cut [5, 6] from 11 to 14 (fun u v wx => ∃ gP gQ, u = .pointer (some ⟨gP, 0, none⟩) ∧ v = .pointer (some ⟨gQ, 0, none⟩) ∧ Box wx gP 23 #[.int .i64 pf, .int .i64 pb, .int .i64 (pg : Nat)] ∧ Box wx gQ 23 #[.int .i64 qf, .int .i64 qb, .int .i64 (qg : Nat)] ∧ Below w.heap.size w wx)
  case first =>
    refine wp_region_gj (n := 84) [] (fun _ => #[]) [(0, 0, 0, 0, 0), (0, 0, 0, 0, 0), (0, 0, 0, 0, 0), (0, 0, 0, 0, 0), (2, 0, 0, 23, 3), (2, 0, 0, 23, 3), (3, 4, 1, 23, 3), (3, 5, 3, 23, 3)] (fun j => [(.agg #[.int .i64 a0, .int .i64 a1, .int .i64 a2]), (.agg #[.int .i64 pf, .int .i64 pb, .int .i64 (pg : Nat)]), (.agg #[.int .i64 b0, .int .i64 b1, .int .i64 b2]), (.agg #[.int .i64 qf, .int .i64 qb, .int .i64 (qg : Nat)]), undef, undef, undef, undef].getD j undef) [] (fun _ => 0) (by kernel_rfl) (by kernel_rfl) (by kernel_rfl) rfl (by kernel_rfl) (gno4 rfl) (fun i j h => by revert h; exact gno4 (p := fun _ => _) rfl i) (AllG.nil _) (fun hGS => cases8 ⟨?_, ?_, ?_, ?_, ?_, ?_, ?_, ?_⟩) ?_
    · intro L a w' hL hsame hsz hJ hdep hcl
      have hb := hJ.kept.toBelow (Nat.le_refl _) (by simp)
      have e0 : a.eval (.tmp 2) = (.pointer (some ⟨w.heap.size, 0, none⟩)) := eval_base hsame (by kernel_rfl)
      have hx := hJ.keptBox (HA0.out) (by simp)
      have q0 : w'.cell? ⟨w.heap.size, 0, none⟩ = some (.int .i64 a0) := hx.cell 0
      have q1 : w'.cell? ⟨w.heap.size, 1, none⟩ = some (.int .i64 a1) := hx.cell 1
      have q2 : w'.cell? ⟨w.heap.size, 2, none⟩ = some (.int .i64 a2) := hx.cell 2
      refine Step.val _ rfl rfl (wanted_none rfl) (.agg #[.int .i64 a0, .int .i64 a1, .int .i64 a2]) w' (fun ρ hρ => ?_) (hJ.val hGS hcl hL rfl (Below.refl _ _) _ rfl)
      clear hx
      rw [hρ] at e0
      clear hJ hsame hdep hcl hρ hsz hb
      go_simp
    · intro L a w' hL hsame hsz hJ hdep hcl
      have hb := hJ.kept.toBelow (Nat.le_refl _) (by simp)
      have e0 : a.eval (.tmp 11) = (.agg #[.int .i64 a0, .int .i64 a1, .int .i64 a2]) := eval_slot (j := 0) (by kernel_rfl) (hJ.valOf (by decide) (dep_of hdep 0 (by kernel_rfl)) rfl rfl)
      refine Step.call _ rfl rfl (wanted_none rfl) 15 #[.agg #[.int .i64 a0, .int .i64 a1, .int .i64 a2]] (fun ρ hρ => ?_) ?_
      · skip
        rw [hρ] at e0
        have ef : ρ (.func 15) = .func (.func 15) #[] #[] := (hρ _).symm
        clear hJ hsame hdep hcl hρ hsz hb
        go_simp
      · refine (KPA.out _).mono ?_
        rintro e w2 ⟨rfl, bb⟩
        exact ⟨_, rfl, hJ.val hGS hcl hL rfl bb _ rfl⟩
    · intro L a w' hL hsame hsz hJ hdep hcl
      have hb := hJ.kept.toBelow (Nat.le_refl _) (by simp)
      have e0 : a.eval (.tmp 3) = (.pointer (some ⟨w.heap.size + 1, 0, none⟩)) := eval_base hsame (by kernel_rfl)
      have hx := hJ.keptBox (HB0.out) (by simp)
      have q0 : w'.cell? ⟨w.heap.size + 1, 0, none⟩ = some (.int .i64 b0) := hx.cell 0
      have q1 : w'.cell? ⟨w.heap.size + 1, 1, none⟩ = some (.int .i64 b1) := hx.cell 1
      have q2 : w'.cell? ⟨w.heap.size + 1, 2, none⟩ = some (.int .i64 b2) := hx.cell 2
      refine Step.val _ rfl rfl (wanted_none rfl) (.agg #[.int .i64 b0, .int .i64 b1, .int .i64 b2]) w' (fun ρ hρ => ?_) (hJ.val hGS hcl hL rfl (Below.refl _ _) _ rfl)
      clear hx
      rw [hρ] at e0
      clear hJ hsame hdep hcl hρ hsz hb
      go_simp
    · intro L a w' hL hsame hsz hJ hdep hcl
      have hb := hJ.kept.toBelow (Nat.le_refl _) (by simp)
      have e0 : a.eval (.tmp 13) = (.agg #[.int .i64 b0, .int .i64 b1, .int .i64 b2]) := eval_slot (j := 2) (by kernel_rfl) (hJ.valOf (by decide) (dep_of hdep 2 (by kernel_rfl)) rfl rfl)
      refine Step.call _ rfl rfl (wanted_none rfl) 15 #[.agg #[.int .i64 b0, .int .i64 b1, .int .i64 b2]] (fun ρ hρ => ?_) ?_
      · skip
        rw [hρ] at e0
        have ef : ρ (.func 15) = .func (.func 15) #[] #[] := (hρ _).symm
        clear hJ hsame hdep hcl hρ hsz hb
        go_simp
      · refine (KPB.out _).mono ?_
        rintro e w2 ⟨rfl, bb⟩
        exact ⟨_, rfl, hJ.val hGS hcl hL rfl bb _ rfl⟩
    · intro L a w' hL hsame hsz hJ hdep hcl
      have hb := hJ.kept.toBelow (Nat.le_refl _) (by simp)
      refine Step.val _ rfl rfl (wanted_none rfl) (.pointer (some ⟨w'.heap.size, 0, none⟩)) (w'.alloc (.cells #[.int .i64 0, .int .i64 0, .int .i64 0] 23)) (fun ρ hρ => ?_) (hJ.box hGS hcl hL rfl 23 rfl #[.int .i64 0, .int .i64 0, .int .i64 0] rfl)
      clear hJ hsame hdep hcl hρ hsz hb
      go_simp
    · intro L a w' hL hsame hsz hJ hdep hcl
      have hb := hJ.kept.toBelow (Nat.le_refl _) (by simp)
      refine Step.val _ rfl rfl (wanted_none rfl) (.pointer (some ⟨w'.heap.size, 0, none⟩)) (w'.alloc (.cells #[.int .i64 0, .int .i64 0, .int .i64 0] 23)) (fun ρ hρ => ?_) (hJ.box hGS hcl hL rfl 23 rfl #[.int .i64 0, .int .i64 0, .int .i64 0] rfl)
      clear hJ hsame hdep hcl hρ hsz hb
      go_simp
    · intro L a w' hL hsame hsz hJ hdep hcl
      have hb := hJ.kept.toBelow (Nat.le_refl _) (by simp)
      have hsv := hJ.valOf (j := 1) (by decide) (dep_of hdep 1 (by kernel_rfl)) rfl rfl
      have es : a.eval (.tmp 12) = (.agg #[.int .i64 pf, .int .i64 pb, .int .i64 (pg : Nat)]) := eval_slot (j := 1) (by kernel_rfl) hsv
      have la := dep_of hdep 4 (by kernel_rfl)
      obtain ⟨g, cs, hg, hg0, hx, hs⟩ := hJ.boxOf (j := 4) (by decide) la rfl
      have ea : a.eval (.tmp 5) = .pointer (some ⟨g, 0, none⟩) := eval_slot (j := 4) (by kernel_rfl) hg
      obtain ⟨m0, hm0⟩ : ∃ m, w'.cell? ⟨g, 0, none⟩ = some m := ⟨_, (hx.cell 0).trans (Array.getElem?_eq_getElem (by rw [hs]; decide))⟩
      have hf0 := hx.frozen 0
      obtain ⟨m1, hm1⟩ : ∃ m, w'.cell? ⟨g, 1, none⟩ = some m := ⟨_, (hx.cell 1).trans (Array.getElem?_eq_getElem (by rw [hs]; decide))⟩
      have hf1 := hx.frozen 1
      obtain ⟨m2, hm2⟩ : ∃ m, w'.cell? ⟨g, 2, none⟩ = some m := ⟨_, (hx.cell 2).trans (Array.getElem?_eq_getElem (by rw [hs]; decide))⟩
      have hf2 := hx.frozen 2
      refine Step.skip _ rfl (wanted_none rfl) (setL w' g 0 [.int .i64 pf, .int .i64 pb, .int .i64 (pg : Nat)]) (fun ρ hρ => ?_) (hJ.put hGS hcl hL rfl la (dep_of hdep 1 (by kernel_rfl)) hg rfl hsv)
      rw [hρ] at es ea
      clear hJ hsame hdep hcl hρ hsz hb hsv hx hs hg
      simp only [setL]
      go_simp
    · intro L a w' hL hsame hsz hJ hdep hcl
      have hb := hJ.kept.toBelow (Nat.le_refl _) (by simp)
      have hsv := hJ.valOf (j := 3) (by decide) (dep_of hdep 3 (by kernel_rfl)) rfl rfl
      have es : a.eval (.tmp 14) = (.agg #[.int .i64 qf, .int .i64 qb, .int .i64 (qg : Nat)]) := eval_slot (j := 3) (by kernel_rfl) hsv
      have la := dep_of hdep 5 (by kernel_rfl)
      obtain ⟨g, cs, hg, hg0, hx, hs⟩ := hJ.boxOf (j := 5) (by decide) la rfl
      have ea : a.eval (.tmp 6) = .pointer (some ⟨g, 0, none⟩) := eval_slot (j := 5) (by kernel_rfl) hg
      obtain ⟨m0, hm0⟩ : ∃ m, w'.cell? ⟨g, 0, none⟩ = some m := ⟨_, (hx.cell 0).trans (Array.getElem?_eq_getElem (by rw [hs]; decide))⟩
      have hf0 := hx.frozen 0
      obtain ⟨m1, hm1⟩ : ∃ m, w'.cell? ⟨g, 1, none⟩ = some m := ⟨_, (hx.cell 1).trans (Array.getElem?_eq_getElem (by rw [hs]; decide))⟩
      have hf1 := hx.frozen 1
      obtain ⟨m2, hm2⟩ : ∃ m, w'.cell? ⟨g, 2, none⟩ = some m := ⟨_, (hx.cell 2).trans (Array.getElem?_eq_getElem (by rw [hs]; decide))⟩
      have hf2 := hx.frozen 2
      refine Step.skip _ rfl (wanted_none rfl) (setL w' g 0 [.int .i64 qf, .int .i64 qb, .int .i64 (qg : Nat)]) (fun ρ hρ => ?_) (hJ.put hGS hcl hL rfl la (dep_of hdep 3 (by kernel_rfl)) hg rfl hsv)
      rw [hρ] at es ea
      clear hJ hsame hdep hcl hρ hsz hb hsv hx hs hg
      simp only [setL]
      go_simp
    · intro u w' hF
      change Exit.then _ _ Exit.normal (Act.put (Act.put (Act.put (Act.put (Act.put (Act.put (Act.put (Act.put (putAll _ u 0 _) (some 11) (u 0)) (some 12) (u 1)) (some 13) (u 2)) (some 14) (u 3)) (some 5) (u 4)) (some 6) (u 5)) none (u 6)) none (u 7)) _
      simp only [putAll]
      have hk := hF.kept.toBelow (Nat.le_refl _) (by simp)
      obtain ⟨gP, hgP, _, hbP⟩ := hF.fin3 (j := 6) (a := 4) (v := 1) (by decide) rfl rfl rfl (by decide) rfl (by decide) rfl (cs := #[.int .i64 pf, .int .i64 pb, .int .i64 (pg : Nat)]) rfl
      obtain ⟨gQ, hgQ, _, hbQ⟩ := hF.fin3 (j := 7) (a := 5) (v := 3) (by decide) rfl rfl rfl (by decide) rfl (by decide) rfl (cs := #[.int .i64 qf, .int .i64 qb, .int .i64 (qg : Nat)]) rfl
      clear hF
      generalize u 0 = z0
      generalize u 1 = z1
      generalize u 2 = z2
      generalize u 3 = z3
      generalize u 4 = z4 at hgP ⊢
      generalize u 5 = z5 at hgQ ⊢
      generalize u 6 = z6
      generalize u 7 = z7
      subst hgP hgQ
      go_simp
      go_step
      go_meet
      exact ⟨gP, gQ, rfl, rfl, hbP, hbQ, BW.out.trans (hk.mono BW.out.size)⟩
  case rest =>
    obtain ⟨gP, gQ, rfl, rfl, hbp, hbq, hbw⟩ := hcut
    have HP := hide hbp
    have HQ := hide hbq
    have BW2 := hide hbw
    clear hbp hbq hbw HA0 HB0 BW
    go_upto_region 2 with fail
    go_cut [7, 8] from 15 to 19 (fun u v wx => ∃ A7 c7 A8 c8, u = .slice A7 nl c7 ∧ v = .slice A8 nd c8 ∧ wx.ownsRow 0 3 1 (.slice A7 nl c7) nl (j64s SY) ∧ wx.ownsRow 0 3 1 (.slice A8 nd c8) nd (j64s DY) ∧ Box wx gP 23 #[.int .i64 pf, .int .i64 pb, .int .i64 (pg : Nat)] ∧ Box wx gQ 23 #[.int .i64 qf, .int .i64 qb, .int .i64 (qg : Nat)] ∧ Below w.heap.size w wx)
    case first =>
      refine wp_region_gj (n := 84) [] (fun _ => #[]) [(0, 0, 0, 0, 0), (1, 0, 0, 0, 0), (0, 0, 0, 0, 0), (0, 0, 0, 0, 0), (1, 0, 0, 0, 0), (1, 0, 0, 0, 0), (1, 0, 0, 0, 0)] (fun j => [(.agg #[.int .i64 qf, .int .i64 qb, .int .i64 (qg : Nat)]), undef, (.agg #[.int .i64 pf, .int .i64 pb, .int .i64 (pg : Nat)]), (.agg #[.int .i64 qf, .int .i64 qb, .int .i64 (qg : Nat)]), undef, undef, undef].getD j undef) [none, some (OwnS 3 nl (j64s SY)), none, none, some (OwnS 3 nd (j64s DY)), some (OwnS 3 nl (j64s SY)), some (OwnS 3 nd (j64s DY))] (fun _ => 0) (by kernel_rfl) (by kernel_rfl) (by kernel_rfl) rfl (by kernel_rfl) (gno4 rfl) (fun i j h => by revert h; exact gno4 (p := fun _ => _) rfl i) (AllG.none_ (AllG.some_ (OwnS.stays (by kernel_rfl)) (AllG.none_ (AllG.none_ (AllG.some_ (OwnS.stays (by kernel_rfl)) (AllG.some_ (OwnS.stays (by kernel_rfl)) (AllG.some_ (OwnS.stays (by kernel_rfl)) (AllG.nil _)))))))) (fun hGS => cases7 ⟨?_, ?_, ?_, ?_, ?_, ?_, ?_⟩) ?_
      · intro L a w' hL hsame hsz hJ hdep hcl
        have hb := hJ.kept.toBelow (Nat.le_refl _) (by simp)
        have e0 : a.eval (.tmp 6) = (.pointer (some ⟨gQ, 0, none⟩)) := eval_base hsame (by kernel_rfl)
        have hx := hJ.keptBox (HQ.out) (by simp)
        have q0 : w'.cell? ⟨gQ, 0, none⟩ = some (.int .i64 qf) := hx.cell 0
        have q1 : w'.cell? ⟨gQ, 1, none⟩ = some (.int .i64 qb) := hx.cell 1
        have q2 : w'.cell? ⟨gQ, 2, none⟩ = some (.int .i64 (qg : Nat)) := hx.cell 2
        refine Step.val _ rfl rfl (wanted_none rfl) (.agg #[.int .i64 qf, .int .i64 qb, .int .i64 (qg : Nat)]) w' (fun ρ hρ => ?_) (hJ.val hGS hcl hL rfl (Below.refl _ _) _ rfl)
        clear hx
        rw [hρ] at e0
        clear hJ hsame hdep hcl hρ hsz hb
        go_simp
      · intro L a w' hL hsame hsz hJ hdep hcl
        have hb := hJ.kept.toBelow (Nat.le_refl _) (by simp)
        have e0 : a.eval (.tmp 15) = (.agg #[.int .i64 qf, .int .i64 qb, .int .i64 (qg : Nat)]) := eval_slot (j := 0) (by kernel_rfl) (hJ.valOf (by decide) (dep_of hdep 0 (by kernel_rfl)) rfl rfl)
        refine Step.call _ rfl rfl (wanted_none rfl) 11 #[.agg #[.int .i64 qf, .int .i64 qb, .int .i64 (qg : Nat)]] (fun ρ hρ => ?_) ?_
        · skip
          rw [hρ] at e0
          have ef : ρ (.func 11) = .func (.func 11) #[] #[] := (hρ _).symm
          clear hJ hsame hdep hcl hρ hsz hb
          go_simp
        · refine (SQ.out _ (HT.out.keep (BW2.out.trans (hb.mono BW2.out.size)))).mono ?_
          rintro e w2 ⟨v, rfl, hv, bb⟩
          obtain ⟨A, c, rfl, _⟩ := own_form hv
          exact ⟨_, rfl, hJ.pred hGS hcl hL rfl bb _ ⟨A, c, rfl, own_base' hv (Nat.zero_le _)⟩⟩
      · intro L a w' hL hsame hsz hJ hdep hcl
        have hb := hJ.kept.toBelow (Nat.le_refl _) (by simp)
        have e0 : a.eval (.tmp 5) = (.pointer (some ⟨gP, 0, none⟩)) := eval_base hsame (by kernel_rfl)
        have hx := hJ.keptBox (HP.out) (by simp)
        have q0 : w'.cell? ⟨gP, 0, none⟩ = some (.int .i64 pf) := hx.cell 0
        have q1 : w'.cell? ⟨gP, 1, none⟩ = some (.int .i64 pb) := hx.cell 1
        have q2 : w'.cell? ⟨gP, 2, none⟩ = some (.int .i64 (pg : Nat)) := hx.cell 2
        refine Step.val _ rfl rfl (wanted_none rfl) (.agg #[.int .i64 pf, .int .i64 pb, .int .i64 (pg : Nat)]) w' (fun ρ hρ => ?_) (hJ.val hGS hcl hL rfl (Below.refl _ _) _ rfl)
        clear hx
        rw [hρ] at e0
        clear hJ hsame hdep hcl hρ hsz hb
        go_simp
      · intro L a w' hL hsame hsz hJ hdep hcl
        have hb := hJ.kept.toBelow (Nat.le_refl _) (by simp)
        have e0 : a.eval (.tmp 6) = (.pointer (some ⟨gQ, 0, none⟩)) := eval_base hsame (by kernel_rfl)
        have hx := hJ.keptBox (HQ.out) (by simp)
        have q0 : w'.cell? ⟨gQ, 0, none⟩ = some (.int .i64 qf) := hx.cell 0
        have q1 : w'.cell? ⟨gQ, 1, none⟩ = some (.int .i64 qb) := hx.cell 1
        have q2 : w'.cell? ⟨gQ, 2, none⟩ = some (.int .i64 (qg : Nat)) := hx.cell 2
        refine Step.val _ rfl rfl (wanted_none rfl) (.agg #[.int .i64 qf, .int .i64 qb, .int .i64 (qg : Nat)]) w' (fun ρ hρ => ?_) (hJ.val hGS hcl hL rfl (Below.refl _ _) _ rfl)
        clear hx
        rw [hρ] at e0
        clear hJ hsame hdep hcl hρ hsz hb
        go_simp
      · intro L a w' hL hsame hsz hJ hdep hcl
        have hb := hJ.kept.toBelow (Nat.le_refl _) (by simp)
        have e0 : a.eval (.tmp 17) = (.agg #[.int .i64 pf, .int .i64 pb, .int .i64 (pg : Nat)]) := eval_slot (j := 2) (by kernel_rfl) (hJ.valOf (by decide) (dep_of hdep 2 (by kernel_rfl)) rfl rfl)
        have e1 : a.eval (.tmp 18) = (.agg #[.int .i64 qf, .int .i64 qb, .int .i64 (qg : Nat)]) := eval_slot (j := 3) (by kernel_rfl) (hJ.valOf (by decide) (dep_of hdep 3 (by kernel_rfl)) rfl rfl)
        refine Step.call _ rfl rfl (wanted_none rfl) 12 #[.agg #[.int .i64 pf, .int .i64 pb, .int .i64 (pg : Nat)], .agg #[.int .i64 qf, .int .i64 qb, .int .i64 (qg : Nat)]] (fun ρ hρ => ?_) ?_
        · skip
          rw [hρ] at e0 e1
          have ef : ρ (.func 12) = .func (.func 12) #[] #[] := (hρ _).symm
          clear hJ hsame hdep hcl hρ hsz hb
          go_simp
        · refine (BT.out _ (HT.out.keep (BW2.out.trans (hb.mono BW2.out.size)))).mono ?_
          rintro e w2 ⟨v, rfl, hv, bb⟩
          obtain ⟨A, c, rfl, _⟩ := own_form hv
          exact ⟨_, rfl, hJ.pred hGS hcl hL rfl bb _ ⟨A, c, rfl, own_base' hv (Nat.zero_le _)⟩⟩
      · intro L a w' hL hsame hsz hJ hdep hcl
        have hb := hJ.kept.toBelow (Nat.le_refl _) (by simp)
        obtain ⟨A1, c1, hv1, ho1⟩ := (show (OwnS 3 nl (j64s SY)) (valOf _ 1 a) w' from hJ.predOf (by decide) (dep_of hdep 1 (by kernel_rfl)) rfl)
        have e0 : a.eval (.tmp 16) = .slice A1 nl c1 := eval_slot (j := 1) (by kernel_rfl) hv1
        have hal := (show (OwnS 3 nl (j64s SY)) (valOf _ 1 a) w' from hJ.predOf (by decide) (dep_of hdep 1 (by kernel_rfl)) rfl)
        rw [hv1] at hal
        refine Step.val _ rfl rfl (wanted_none rfl) (.slice A1 nl c1) w' (fun ρ hρ => ?_) (hJ.pred hGS hcl hL rfl (Below.refl _ _) _ hal)
        clear hal
        rw [hρ] at e0
        clear hJ hsame hdep hcl hρ hsz hb
        go_simp
      · intro L a w' hL hsame hsz hJ hdep hcl
        have hb := hJ.kept.toBelow (Nat.le_refl _) (by simp)
        obtain ⟨A4, c4, hv4, ho4⟩ := (show (OwnS 3 nd (j64s DY)) (valOf _ 4 a) w' from hJ.predOf (by decide) (dep_of hdep 4 (by kernel_rfl)) rfl)
        have e0 : a.eval (.tmp 19) = .slice A4 nd c4 := eval_slot (j := 4) (by kernel_rfl) hv4
        have hal := (show (OwnS 3 nd (j64s DY)) (valOf _ 4 a) w' from hJ.predOf (by decide) (dep_of hdep 4 (by kernel_rfl)) rfl)
        rw [hv4] at hal
        refine Step.val _ rfl rfl (wanted_none rfl) (.slice A4 nd c4) w' (fun ρ hρ => ?_) (hJ.pred hGS hcl hL rfl (Below.refl _ _) _ hal)
        clear hal
        rw [hρ] at e0
        clear hJ hsame hdep hcl hρ hsz hb
        go_simp
      · intro u w' hF
        change Exit.then _ _ Exit.normal (Act.put (Act.put (Act.put (Act.put (Act.put (Act.put (Act.put (putAll _ u 0 _) (some 15) (u 0)) (some 16) (u 1)) (some 17) (u 2)) (some 18) (u 3)) (some 19) (u 4)) (some 7) (u 5)) (some 8) (u 6)) _
        simp only [putAll]
        have hk := hF.kept.toBelow (Nat.le_refl _) (by simp)
        obtain ⟨A1, c1, h1, o1⟩ := (show OwnS 3 nl (j64s SY) (u 5) w' from hF.fin1 (j := 5) (by decide) rfl)
        obtain ⟨A4, c4, h4, o4⟩ := (show OwnS 3 nd (j64s DY) (u 6) w' from hF.fin1 (j := 6) (by decide) rfl)
        clear hF
        generalize u 0 = z0
        generalize u 1 = z1
        generalize u 2 = z2
        generalize u 3 = z3
        generalize u 4 = z4
        generalize u 5 = z5 at h1 ⊢
        generalize u 6 = z6 at h4 ⊢
        subst h1 h4
        go_simp
        go_step
        go_meet
        exact ⟨A1, c1, A4, c4, rfl, rfl, o1, o4, HP.out.below hk HP.out.lt, HQ.out.below hk HQ.out.lt, BW2.out.trans (hk.mono BW2.out.size)⟩
    case rest =>
      obtain ⟨A7, cl, AD, cd, rfl, rfl, o7, o8, hbp, hbq, hbw⟩ := hcut
      have hl1 := LN.out
      have hl2 := LN2.out
      obtain ⟨gL, ca, hA7, hgL, hca⟩ := own_first o7 hl1
      simp only [Value.slice.injEq] at hA7
      obtain ⟨rfl, _, rfl⟩ := hA7
      have SL := hide (Seen.of_own o7)
      have SD := hide (Seen.of_own o8)
      obtain ⟨_, _, _, hcl, _⟩ := own_form o7
      obtain ⟨_, _, hEd, hcd, _⟩ := own_form o8
      simp only [Value.slice.injEq] at hEd
      have CL : Hid (wc.cell? ⟨gL, 0, none⟩ = some (.int .i64 0)) := hide (by
        obtain ⟨ad, u, h1, _, h2, h3⟩ := SL.out.at_ (k := 0) (by omega)
        unfold j64s at h2
        rw [List.getElem?_map, HL0.out] at h2
        cases h1
        cases h2
        simpa [Addr.add] using h3)
      have AP := hide (fun (B : Nat) w' (h : Seen w' B (some ⟨gL, 0, none⟩) nl (j64s SY)) hft => papply_is ⟨pf, pb, pg⟩ ⟨qf, qb, qg⟩ (some ⟨gL, 0, none⟩) nl cl B SY HSAY.out w' HPR.out h (by omega) hca (fun x hx => by have := HBD.out x hx; omega) hft)
      have APD := hide (fun (he : eq = false) (B : Nat) w' (h : Seen w' B AD nd (j64s DY)) hft => papply_is ⟨pf, pb, pg⟩ ⟨qf, qb, qg⟩ AD nd cd B DY (by rw [DE.out he]; exact HSAY.out) w' HPR.out h (by omega) (by obtain ⟨_, _, h3⟩ := hEd; omega) (fun x hx => by have := DB.out x hx; omega) hft)
      have HP := hide hbp
      have HQ := hide hbq
      have BW3 := hide hbw
      clear hEd hcl hcd hbp hbq hbw o7 o8 BW2 KPA KPB BT
      go_upto_region 3 with fail
      go_cut [49] from 20 to 49 (fun u wx => u = .bool false ∧ Below wc.heap.size wc wx)
      case first =>
        refine wp_region_gj (n := 84) [] (fun _ => #[]) [(0, 0, 0, 0, 0), (0, 0, 0, 0, 0), (0, 0, 0, 0, 0), (0, 0, 0, 0, 0), (0, 0, 0, 0, 0), (0, 0, 0, 0, 0), (0, 0, 0, 0, 0), (0, 0, 0, 0, 0), (0, 0, 0, 0, 0), (0, 0, 0, 0, 0), (0, 0, 0, 0, 0), (0, 0, 0, 0, 0), (0, 0, 0, 0, 0), (0, 0, 0, 0, 0), (0, 0, 0, 0, 0), (0, 0, 0, 0, 0), (0, 0, 0, 0, 0), (0, 0, 0, 0, 0), (0, 0, 0, 0, 0), (0, 0, 0, 0, 0), (0, 0, 0, 0, 0), (0, 0, 0, 0, 0), (0, 0, 0, 0, 0), (0, 0, 0, 0, 0), (0, 0, 0, 0, 0), (0, 0, 0, 0, 0), (0, 0, 0, 0, 0), (0, 0, 0, 0, 0), (0, 0, 0, 0, 0), (0, 0, 0, 0, 0)] (fun j => [(.agg #[.int .i64 pf, .int .i64 pb, .int .i64 (pg : Nat)]), (.slice (some ⟨gL, 0, none⟩) nl cl), (.agg #[.int .i64 qf, .int .i64 qb, .int .i64 (qg : Nat)]), (.agg #[.int .i64 qf, .int .i64 qb, .int .i64 (qg : Nat)]), (.bool false), (.bool false), (.slice (some ⟨gL, 0, none⟩) nl cl), (.int .i64 nl), (.bool false), (.bool false), (.bool false), (.slice (some ⟨gL, 0, none⟩) nl cl), (.pointer (some ⟨gL, 0, none⟩)), (.int .i64 0), (.bool false), (.bool false), (.bool false), (.slice (some ⟨gL, 0, none⟩) nl cl), (.int .i64 nl), (.bool false), (.bool false), (.bool false), (.slice AD nd cd), (.int .i64 nd), (.bool eq), (.agg #[.int .i64 pf, .int .i64 pb, .int .i64 (pg : Nat)]), (.agg #[.int .i64 qf, .int .i64 qb, .int .i64 (qg : Nat)]), (.bool eq), (.bool false), (.bool false)].getD j undef) [] (fun _ => 0) (by kernel_rfl) (by kernel_rfl) (by kernel_rfl) rfl (by kernel_rfl) (gno4 rfl) (fun i j h => by revert h; exact gno4 (p := fun _ => _) rfl i) (AllG.nil _) (fun hGS => cases30 ⟨?_, ?_, ?_, ?_, ?_, ?_, ?_, ?_, ?_, ?_, ?_, ?_, ?_, ?_, ?_, ?_, ?_, ?_, ?_, ?_, ?_, ?_, ?_, ?_, ?_, ?_, ?_, ?_, ?_, ?_⟩) ?_
        · intro L a w' hL hsame hsz hJ hdep hcl
          have hb := hJ.kept.toBelow (Nat.le_refl _) (by simp)
          have e0 : a.eval (.tmp 5) = (.pointer (some ⟨gP, 0, none⟩)) := eval_base hsame (by kernel_rfl)
          have hx := hJ.keptBox (HP.out) (by simp)
          have q0 : w'.cell? ⟨gP, 0, none⟩ = some (.int .i64 pf) := hx.cell 0
          have q1 : w'.cell? ⟨gP, 1, none⟩ = some (.int .i64 pb) := hx.cell 1
          have q2 : w'.cell? ⟨gP, 2, none⟩ = some (.int .i64 (pg : Nat)) := hx.cell 2
          refine Step.val _ rfl rfl (wanted_none rfl) (.agg #[.int .i64 pf, .int .i64 pb, .int .i64 (pg : Nat)]) w' (fun ρ hρ => ?_) (hJ.val hGS hcl hL rfl (Below.refl _ _) _ rfl)
          clear hx
          rw [hρ] at e0
          clear hJ hsame hdep hcl hρ hsz hb
          go_simp
        · intro L a w' hL hsame hsz hJ hdep hcl
          have hb := hJ.kept.toBelow (Nat.le_refl _) (by simp)
          have e0 : a.eval (.tmp 7) = (.slice (some ⟨gL, 0, none⟩) nl cl) := eval_base hsame (by kernel_rfl)
          refine Step.val _ rfl rfl (wanted_none rfl) (.slice (some ⟨gL, 0, none⟩) nl cl) w' (fun ρ hρ => ?_) (hJ.val hGS hcl hL rfl (Below.refl _ _) _ rfl)
          rw [hρ] at e0
          clear hJ hsame hdep hcl hρ hsz hb
          go_simp
        · intro L a w' hL hsame hsz hJ hdep hcl
          have hb := hJ.kept.toBelow (Nat.le_refl _) (by simp)
          have e0 : a.eval (.tmp 20) = (.agg #[.int .i64 pf, .int .i64 pb, .int .i64 (pg : Nat)]) := eval_slot (j := 0) (by kernel_rfl) (hJ.valOf (by decide) (dep_of hdep 0 (by kernel_rfl)) rfl rfl)
          have e1 : a.eval (.tmp 21) = (.slice (some ⟨gL, 0, none⟩) nl cl) := eval_slot (j := 1) (by kernel_rfl) (hJ.valOf (by decide) (dep_of hdep 1 (by kernel_rfl)) rfl rfl)
          refine Step.call _ rfl rfl (wanted_none rfl) 8 #[.agg #[.int .i64 pf, .int .i64 pb, .int .i64 (pg : Nat)], .slice (some ⟨gL, 0, none⟩) nl cl] (fun ρ hρ => ?_) ?_
          · skip
            rw [hρ] at e0 e1
            have ef : ρ (.func 8) = .func (.func 8) #[] #[] := (hρ _).symm
            clear hJ hsame hdep hcl hρ hsz hb
            go_simp
          · refine (AP.out _ _ (SL.out.below hb) (HT.out.keep (BW3.out.trans (hb.mono BW3.out.size)))).mono ?_
            rintro e w2 ⟨rfl, bb⟩
            exact ⟨_, rfl, hJ.val hGS hcl hL rfl bb _ rfl⟩
        · intro L a w' hL hsame hsz hJ hdep hcl
          have hb := hJ.kept.toBelow (Nat.le_refl _) (by simp)
          have e0 : a.eval (.tmp 6) = (.pointer (some ⟨gQ, 0, none⟩)) := eval_base hsame (by kernel_rfl)
          have hx := hJ.keptBox (HQ.out) (by simp)
          have q0 : w'.cell? ⟨gQ, 0, none⟩ = some (.int .i64 qf) := hx.cell 0
          have q1 : w'.cell? ⟨gQ, 1, none⟩ = some (.int .i64 qb) := hx.cell 1
          have q2 : w'.cell? ⟨gQ, 2, none⟩ = some (.int .i64 (qg : Nat)) := hx.cell 2
          refine Step.val _ rfl rfl (wanted_none rfl) (.agg #[.int .i64 qf, .int .i64 qb, .int .i64 (qg : Nat)]) w' (fun ρ hρ => ?_) (hJ.val hGS hcl hL rfl (Below.refl _ _) _ rfl)
          clear hx
          rw [hρ] at e0
          clear hJ hsame hdep hcl hρ hsz hb
          go_simp
        · intro L a w' hL hsame hsz hJ hdep hcl
          have hb := hJ.kept.toBelow (Nat.le_refl _) (by simp)
          have e0 : a.eval (.tmp 22) = (.agg #[.int .i64 qf, .int .i64 qb, .int .i64 (qg : Nat)]) := eval_slot (j := 2) (by kernel_rfl) (hJ.valOf (by decide) (dep_of hdep 2 (by kernel_rfl)) rfl rfl)
          have e1 : a.eval (.tmp 23) = (.agg #[.int .i64 qf, .int .i64 qb, .int .i64 (qg : Nat)]) := eval_slot (j := 3) (by kernel_rfl) (hJ.valOf (by decide) (dep_of hdep 3 (by kernel_rfl)) rfl rfl)
          refine Step.val _ rfl rfl (wanted_none rfl) (.bool false) w' (fun ρ hρ => ?_) (hJ.val hGS hcl hL rfl (Below.refl _ _) _ rfl)
          rw [hρ] at e0 e1
          clear hJ hsame hdep hcl hρ hsz hb
          go_simp
        · intro L a w' hL hsame hsz hJ hdep hcl
          have hb := hJ.kept.toBelow (Nat.le_refl _) (by simp)
          have e0 : a.eval (.tmp 24) = (.bool false) := eval_slot (j := 4) (by kernel_rfl) (hJ.valOf (by decide) (dep_of hdep 4 (by kernel_rfl)) rfl rfl)
          refine Step.val _ rfl rfl (wanted_none rfl) (.bool false) w' (fun ρ hρ => ?_) (hJ.val hGS hcl hL rfl (Below.refl _ _) _ rfl)
          rw [hρ] at e0
          clear hJ hsame hdep hcl hρ hsz hb
          go_simp
        · intro L a w' hL hsame hsz hJ hdep hcl
          have gd : valOf _ 5 a = .bool false := hJ.valOf (by decide) (dep_of hdep 5 (by kernel_rfl)) rfl rfl
          have hb := hJ.kept.toBelow (Nat.le_refl _) (by simp)
          have e0 : a.eval (.tmp 7) = (.slice (some ⟨gL, 0, none⟩) nl cl) := eval_base hsame (by kernel_rfl)
          refine Step.val _ rfl rfl (wanted_some (g := 5) (b := false) rfl gd) (.slice (some ⟨gL, 0, none⟩) nl cl) w' (fun ρ hρ => ?_) (hJ.val hGS hcl hL rfl (Below.refl _ _) _ rfl)
          rw [hρ] at e0
          clear hJ hsame hdep hcl hρ hsz hb gd
          go_simp
        · intro L a w' hL hsame hsz hJ hdep hcl
          have gd : valOf _ 5 a = .bool false := hJ.valOf (by decide) (dep_of hdep 5 (by kernel_rfl)) rfl rfl
          have hb := hJ.kept.toBelow (Nat.le_refl _) (by simp)
          have e0 : a.eval (.tmp 26) = (.slice (some ⟨gL, 0, none⟩) nl cl) := eval_slot (j := 6) (by kernel_rfl) (hJ.valOf (by decide) (dep_of hdep 6 (by kernel_rfl)) rfl rfl)
          refine Step.val _ rfl rfl (wanted_some (g := 5) (b := false) rfl gd) (.int .i64 nl) w' (fun ρ hρ => ?_) (hJ.val hGS hcl hL rfl (Below.refl _ _) _ rfl)
          rw [hρ] at e0
          clear hJ hsame hdep hcl hρ hsz hb gd
          go_simp
        · intro L a w' hL hsame hsz hJ hdep hcl
          have gd : valOf _ 5 a = .bool false := hJ.valOf (by decide) (dep_of hdep 5 (by kernel_rfl)) rfl rfl
          have hb := hJ.kept.toBelow (Nat.le_refl _) (by simp)
          have e0 : a.eval (.tmp 27) = (.int .i64 nl) := eval_slot (j := 7) (by kernel_rfl) (hJ.valOf (by decide) (dep_of hdep 7 (by kernel_rfl)) rfl rfl)
          refine Step.val _ rfl rfl (wanted_some (g := 5) (b := false) rfl gd) (.bool false) w' (fun ρ hρ => ?_) (hJ.val hGS hcl hL rfl (Below.refl _ _) _ rfl)
          rw [hρ] at e0
          have ec0 : ρ (.const (.int .i64 1)) = (.int .i64 1) := (hρ _).symm
          have hl1 := LN.out
          clear hJ hsame hdep hcl hρ hsz hb gd
          go_simp
          try omega
        · intro L a w' hL hsame hsz hJ hdep hcl
          have hb := hJ.kept.toBelow (Nat.le_refl _) (by simp)
          have e0 : a.eval (.tmp 25) = (.bool false) := eval_slot (j := 5) (by kernel_rfl) (hJ.valOf (by decide) (dep_of hdep 5 (by kernel_rfl)) rfl rfl)
          have e2 : a.eval (.tmp 28) = (.bool false) := eval_slot (j := 8) (by kernel_rfl) (hJ.valOf (by decide) (dep_of hdep 8 (by kernel_rfl)) rfl rfl)
          refine Step.val _ rfl rfl (wanted_none rfl) (.bool false) w' (fun ρ hρ => ?_) (hJ.val hGS hcl hL rfl (Below.refl _ _) _ rfl)
          rw [hρ] at e0 e2
          have ec0 : ρ (.const (.bool true)) = (.bool true) := (hρ _).symm
          clear hJ hsame hdep hcl hρ hsz hb
          go_simp
        · intro L a w' hL hsame hsz hJ hdep hcl
          have hb := hJ.kept.toBelow (Nat.le_refl _) (by simp)
          have e0 : a.eval (.tmp 29) = (.bool false) := eval_slot (j := 9) (by kernel_rfl) (hJ.valOf (by decide) (dep_of hdep 9 (by kernel_rfl)) rfl rfl)
          refine Step.val _ rfl rfl (wanted_none rfl) (.bool false) w' (fun ρ hρ => ?_) (hJ.val hGS hcl hL rfl (Below.refl _ _) _ rfl)
          rw [hρ] at e0
          clear hJ hsame hdep hcl hρ hsz hb
          go_simp
        · intro L a w' hL hsame hsz hJ hdep hcl
          have gd : valOf _ 10 a = .bool false := hJ.valOf (by decide) (dep_of hdep 10 (by kernel_rfl)) rfl rfl
          have hb := hJ.kept.toBelow (Nat.le_refl _) (by simp)
          have e0 : a.eval (.tmp 7) = (.slice (some ⟨gL, 0, none⟩) nl cl) := eval_base hsame (by kernel_rfl)
          refine Step.val _ rfl rfl (wanted_some (g := 10) (b := false) rfl gd) (.slice (some ⟨gL, 0, none⟩) nl cl) w' (fun ρ hρ => ?_) (hJ.val hGS hcl hL rfl (Below.refl _ _) _ rfl)
          rw [hρ] at e0
          clear hJ hsame hdep hcl hρ hsz hb gd
          go_simp
        · intro L a w' hL hsame hsz hJ hdep hcl
          have gd : valOf _ 10 a = .bool false := hJ.valOf (by decide) (dep_of hdep 10 (by kernel_rfl)) rfl rfl
          have hb := hJ.kept.toBelow (Nat.le_refl _) (by simp)
          have e0 : a.eval (.tmp 31) = (.slice (some ⟨gL, 0, none⟩) nl cl) := eval_slot (j := 11) (by kernel_rfl) (hJ.valOf (by decide) (dep_of hdep 11 (by kernel_rfl)) rfl rfl)
          refine Step.val _ rfl rfl (wanted_some (g := 10) (b := false) rfl gd) (.pointer (some ⟨gL, 0, none⟩)) w' (fun ρ hρ => ?_) (hJ.val hGS hcl hL rfl (Below.refl _ _) _ rfl)
          rw [hρ] at e0
          have ec0 : ρ (.const (.int .i64 0)) = (.int .i64 0) := (hρ _).symm
          have hl1 := LN.out
          clear hJ hsame hdep hcl hρ hsz hb gd
          go_simp
          try omega
        · intro L a w' hL hsame hsz hJ hdep hcl
          have gd : valOf _ 10 a = .bool false := hJ.valOf (by decide) (dep_of hdep 10 (by kernel_rfl)) rfl rfl
          have hb := hJ.kept.toBelow (Nat.le_refl _) (by simp)
          have e0 : a.eval (.tmp 32) = (.pointer (some ⟨gL, 0, none⟩)) := eval_slot (j := 12) (by kernel_rfl) (hJ.valOf (by decide) (dep_of hdep 12 (by kernel_rfl)) rfl rfl)
          refine Step.val _ rfl rfl (wanted_some (g := 10) (b := false) rfl gd) (.int .i64 0) w' (fun ρ hρ => ?_) (hJ.val hGS hcl hL rfl (Below.refl _ _) _ rfl)
          rw [hρ] at e0
          have hc0 := (hb.cell (p := ⟨gL, 0, none⟩) hgL).trans CL.out
          clear hJ hsame hdep hcl hρ hsz hb gd
          go_simp
        · intro L a w' hL hsame hsz hJ hdep hcl
          have gd : valOf _ 10 a = .bool false := hJ.valOf (by decide) (dep_of hdep 10 (by kernel_rfl)) rfl rfl
          have hb := hJ.kept.toBelow (Nat.le_refl _) (by simp)
          have e0 : a.eval (.tmp 33) = (.int .i64 0) := eval_slot (j := 13) (by kernel_rfl) (hJ.valOf (by decide) (dep_of hdep 13 (by kernel_rfl)) rfl rfl)
          refine Step.val _ rfl rfl (wanted_some (g := 10) (b := false) rfl gd) (.bool false) w' (fun ρ hρ => ?_) (hJ.val hGS hcl hL rfl (Below.refl _ _) _ rfl)
          rw [hρ] at e0
          have ec0 : ρ (.const (.int .i64 0)) = (.int .i64 0) := (hρ _).symm
          clear hJ hsame hdep hcl hρ hsz hb gd
          go_simp
        · intro L a w' hL hsame hsz hJ hdep hcl
          have hb := hJ.kept.toBelow (Nat.le_refl _) (by simp)
          have e0 : a.eval (.tmp 30) = (.bool false) := eval_slot (j := 10) (by kernel_rfl) (hJ.valOf (by decide) (dep_of hdep 10 (by kernel_rfl)) rfl rfl)
          have e2 : a.eval (.tmp 34) = (.bool false) := eval_slot (j := 14) (by kernel_rfl) (hJ.valOf (by decide) (dep_of hdep 14 (by kernel_rfl)) rfl rfl)
          refine Step.val _ rfl rfl (wanted_none rfl) (.bool false) w' (fun ρ hρ => ?_) (hJ.val hGS hcl hL rfl (Below.refl _ _) _ rfl)
          rw [hρ] at e0 e2
          have ec0 : ρ (.const (.bool true)) = (.bool true) := (hρ _).symm
          clear hJ hsame hdep hcl hρ hsz hb
          go_simp
        · intro L a w' hL hsame hsz hJ hdep hcl
          have hb := hJ.kept.toBelow (Nat.le_refl _) (by simp)
          have e0 : a.eval (.tmp 35) = (.bool false) := eval_slot (j := 15) (by kernel_rfl) (hJ.valOf (by decide) (dep_of hdep 15 (by kernel_rfl)) rfl rfl)
          refine Step.val _ rfl rfl (wanted_none rfl) (.bool false) w' (fun ρ hρ => ?_) (hJ.val hGS hcl hL rfl (Below.refl _ _) _ rfl)
          rw [hρ] at e0
          clear hJ hsame hdep hcl hρ hsz hb
          go_simp
        · intro L a w' hL hsame hsz hJ hdep hcl
          have gd : valOf _ 16 a = .bool false := hJ.valOf (by decide) (dep_of hdep 16 (by kernel_rfl)) rfl rfl
          have hb := hJ.kept.toBelow (Nat.le_refl _) (by simp)
          have e0 : a.eval (.tmp 7) = (.slice (some ⟨gL, 0, none⟩) nl cl) := eval_base hsame (by kernel_rfl)
          refine Step.val _ rfl rfl (wanted_some (g := 16) (b := false) rfl gd) (.slice (some ⟨gL, 0, none⟩) nl cl) w' (fun ρ hρ => ?_) (hJ.val hGS hcl hL rfl (Below.refl _ _) _ rfl)
          rw [hρ] at e0
          clear hJ hsame hdep hcl hρ hsz hb gd
          go_simp
        · intro L a w' hL hsame hsz hJ hdep hcl
          have gd : valOf _ 16 a = .bool false := hJ.valOf (by decide) (dep_of hdep 16 (by kernel_rfl)) rfl rfl
          have hb := hJ.kept.toBelow (Nat.le_refl _) (by simp)
          have e0 : a.eval (.tmp 37) = (.slice (some ⟨gL, 0, none⟩) nl cl) := eval_slot (j := 17) (by kernel_rfl) (hJ.valOf (by decide) (dep_of hdep 17 (by kernel_rfl)) rfl rfl)
          refine Step.val _ rfl rfl (wanted_some (g := 16) (b := false) rfl gd) (.int .i64 nl) w' (fun ρ hρ => ?_) (hJ.val hGS hcl hL rfl (Below.refl _ _) _ rfl)
          rw [hρ] at e0
          clear hJ hsame hdep hcl hρ hsz hb gd
          go_simp
        · intro L a w' hL hsame hsz hJ hdep hcl
          have gd : valOf _ 16 a = .bool false := hJ.valOf (by decide) (dep_of hdep 16 (by kernel_rfl)) rfl rfl
          have hb := hJ.kept.toBelow (Nat.le_refl _) (by simp)
          have e0 : a.eval (.tmp 38) = (.int .i64 nl) := eval_slot (j := 18) (by kernel_rfl) (hJ.valOf (by decide) (dep_of hdep 18 (by kernel_rfl)) rfl rfl)
          refine Step.val _ rfl rfl (wanted_some (g := 16) (b := false) rfl gd) (.bool false) w' (fun ρ hρ => ?_) (hJ.val hGS hcl hL rfl (Below.refl _ _) _ rfl)
          rw [hρ] at e0
          have ec0 : ρ (.const (.int .i64 19)) = (.int .i64 19) := (hρ _).symm
          have hl2 := LN2.out
          clear hJ hsame hdep hcl hρ hsz hb gd
          go_simp
          try omega
        · intro L a w' hL hsame hsz hJ hdep hcl
          have hb := hJ.kept.toBelow (Nat.le_refl _) (by simp)
          have e0 : a.eval (.tmp 36) = (.bool false) := eval_slot (j := 16) (by kernel_rfl) (hJ.valOf (by decide) (dep_of hdep 16 (by kernel_rfl)) rfl rfl)
          have e2 : a.eval (.tmp 39) = (.bool false) := eval_slot (j := 19) (by kernel_rfl) (hJ.valOf (by decide) (dep_of hdep 19 (by kernel_rfl)) rfl rfl)
          refine Step.val _ rfl rfl (wanted_none rfl) (.bool false) w' (fun ρ hρ => ?_) (hJ.val hGS hcl hL rfl (Below.refl _ _) _ rfl)
          rw [hρ] at e0 e2
          have ec0 : ρ (.const (.bool true)) = (.bool true) := (hρ _).symm
          clear hJ hsame hdep hcl hρ hsz hb
          go_simp
        · intro L a w' hL hsame hsz hJ hdep hcl
          have hb := hJ.kept.toBelow (Nat.le_refl _) (by simp)
          have e0 : a.eval (.tmp 40) = (.bool false) := eval_slot (j := 20) (by kernel_rfl) (hJ.valOf (by decide) (dep_of hdep 20 (by kernel_rfl)) rfl rfl)
          refine Step.val _ rfl rfl (wanted_none rfl) (.bool false) w' (fun ρ hρ => ?_) (hJ.val hGS hcl hL rfl (Below.refl _ _) _ rfl)
          rw [hρ] at e0
          clear hJ hsame hdep hcl hρ hsz hb
          go_simp
        · intro L a w' hL hsame hsz hJ hdep hcl
          have gd : valOf _ 21 a = .bool false := hJ.valOf (by decide) (dep_of hdep 21 (by kernel_rfl)) rfl rfl
          have hb := hJ.kept.toBelow (Nat.le_refl _) (by simp)
          have e0 : a.eval (.tmp 8) = (.slice AD nd cd) := eval_base hsame (by kernel_rfl)
          refine Step.val _ rfl rfl (wanted_some (g := 21) (b := false) rfl gd) (.slice AD nd cd) w' (fun ρ hρ => ?_) (hJ.val hGS hcl hL rfl (Below.refl _ _) _ rfl)
          rw [hρ] at e0
          clear hJ hsame hdep hcl hρ hsz hb gd
          go_simp
        · intro L a w' hL hsame hsz hJ hdep hcl
          have gd : valOf _ 21 a = .bool false := hJ.valOf (by decide) (dep_of hdep 21 (by kernel_rfl)) rfl rfl
          have hb := hJ.kept.toBelow (Nat.le_refl _) (by simp)
          have e0 : a.eval (.tmp 42) = (.slice AD nd cd) := eval_slot (j := 22) (by kernel_rfl) (hJ.valOf (by decide) (dep_of hdep 22 (by kernel_rfl)) rfl rfl)
          refine Step.val _ rfl rfl (wanted_some (g := 21) (b := false) rfl gd) (.int .i64 nd) w' (fun ρ hρ => ?_) (hJ.val hGS hcl hL rfl (Below.refl _ _) _ rfl)
          rw [hρ] at e0
          clear hJ hsame hdep hcl hρ hsz hb gd
          go_simp
        · intro L a w' hL hsame hsz hJ hdep hcl
          have gd : valOf _ 21 a = .bool false := hJ.valOf (by decide) (dep_of hdep 21 (by kernel_rfl)) rfl rfl
          have hb := hJ.kept.toBelow (Nat.le_refl _) (by simp)
          have e0 : a.eval (.tmp 43) = (.int .i64 nd) := eval_slot (j := 23) (by kernel_rfl) (hJ.valOf (by decide) (dep_of hdep 23 (by kernel_rfl)) rfl rfl)
          refine Step.val _ rfl rfl (wanted_some (g := 21) (b := false) rfl gd) (.bool eq) w' (fun ρ hρ => ?_) (hJ.val hGS hcl hL rfl (Below.refl _ _) _ rfl)
          rw [hρ] at e0
          have ec0 : ρ (.const (.int .i64 0)) = (.int .i64 0) := (hρ _).symm
          have hd := DN.out
          clear hJ hsame hdep hcl hρ hsz hb gd
          go_simp
          try exact hd
        · intro L a w' hL hsame hsz hJ hdep hcl
          have gd : valOf _ 21 a = .bool false := hJ.valOf (by decide) (dep_of hdep 21 (by kernel_rfl)) rfl rfl
          have hb := hJ.kept.toBelow (Nat.le_refl _) (by simp)
          have e0 : a.eval (.tmp 5) = (.pointer (some ⟨gP, 0, none⟩)) := eval_base hsame (by kernel_rfl)
          have hx := hJ.keptBox (HP.out) (by simp)
          have q0 : w'.cell? ⟨gP, 0, none⟩ = some (.int .i64 pf) := hx.cell 0
          have q1 : w'.cell? ⟨gP, 1, none⟩ = some (.int .i64 pb) := hx.cell 1
          have q2 : w'.cell? ⟨gP, 2, none⟩ = some (.int .i64 (pg : Nat)) := hx.cell 2
          refine Step.val _ rfl rfl (wanted_some (g := 21) (b := false) rfl gd) (.agg #[.int .i64 pf, .int .i64 pb, .int .i64 (pg : Nat)]) w' (fun ρ hρ => ?_) (hJ.val hGS hcl hL rfl (Below.refl _ _) _ rfl)
          clear hx
          rw [hρ] at e0
          clear hJ hsame hdep hcl hρ hsz hb gd
          go_simp
        · intro L a w' hL hsame hsz hJ hdep hcl
          have gd : valOf _ 21 a = .bool false := hJ.valOf (by decide) (dep_of hdep 21 (by kernel_rfl)) rfl rfl
          have hb := hJ.kept.toBelow (Nat.le_refl _) (by simp)
          have e0 : a.eval (.tmp 6) = (.pointer (some ⟨gQ, 0, none⟩)) := eval_base hsame (by kernel_rfl)
          have hx := hJ.keptBox (HQ.out) (by simp)
          have q0 : w'.cell? ⟨gQ, 0, none⟩ = some (.int .i64 qf) := hx.cell 0
          have q1 : w'.cell? ⟨gQ, 1, none⟩ = some (.int .i64 qb) := hx.cell 1
          have q2 : w'.cell? ⟨gQ, 2, none⟩ = some (.int .i64 (qg : Nat)) := hx.cell 2
          refine Step.val _ rfl rfl (wanted_some (g := 21) (b := false) rfl gd) (.agg #[.int .i64 qf, .int .i64 qb, .int .i64 (qg : Nat)]) w' (fun ρ hρ => ?_) (hJ.val hGS hcl hL rfl (Below.refl _ _) _ rfl)
          clear hx
          rw [hρ] at e0
          clear hJ hsame hdep hcl hρ hsz hb gd
          go_simp
        · intro L a w' hL hsame hsz hJ hdep hcl
          have gd : valOf _ 21 a = .bool false := hJ.valOf (by decide) (dep_of hdep 21 (by kernel_rfl)) rfl rfl
          have hb := hJ.kept.toBelow (Nat.le_refl _) (by simp)
          have e0 : a.eval (.tmp 45) = (.agg #[.int .i64 pf, .int .i64 pb, .int .i64 (pg : Nat)]) := eval_slot (j := 25) (by kernel_rfl) (hJ.valOf (by decide) (dep_of hdep 25 (by kernel_rfl)) rfl rfl)
          have e1 : a.eval (.tmp 46) = (.agg #[.int .i64 qf, .int .i64 qb, .int .i64 (qg : Nat)]) := eval_slot (j := 26) (by kernel_rfl) (hJ.valOf (by decide) (dep_of hdep 26 (by kernel_rfl)) rfl rfl)
          refine Step.val _ rfl rfl (wanted_some (g := 21) (b := false) rfl gd) (.bool eq) w' (fun ρ hρ => ?_) (hJ.val hGS hcl hL rfl (Below.refl _ _) _ rfl)
          rw [hρ] at e0 e1
          clear hJ hsame hdep hcl hρ hsz hb gd
          go_simp
        · intro L a w' hL hsame hsz hJ hdep hcl
          have gd : valOf _ 21 a = .bool false := hJ.valOf (by decide) (dep_of hdep 21 (by kernel_rfl)) rfl rfl
          have hb := hJ.kept.toBelow (Nat.le_refl _) (by simp)
          have e0 : a.eval (.tmp 44) = (.bool eq) := eval_slot (j := 24) (by kernel_rfl) (hJ.valOf (by decide) (dep_of hdep 24 (by kernel_rfl)) rfl rfl)
          have e1 : a.eval (.tmp 47) = (.bool eq) := eval_slot (j := 27) (by kernel_rfl) (hJ.valOf (by decide) (dep_of hdep 27 (by kernel_rfl)) rfl rfl)
          refine Step.val _ rfl rfl (wanted_some (g := 21) (b := false) rfl gd) (.bool false) w' (fun ρ hρ => ?_) (hJ.val hGS hcl hL rfl (Below.refl _ _) _ rfl)
          rw [hρ] at e0 e1
          clear hJ hsame hdep hcl hρ hsz hb gd
          go_simp
        · intro L a w' hL hsame hsz hJ hdep hcl
          have hb := hJ.kept.toBelow (Nat.le_refl _) (by simp)
          have e0 : a.eval (.tmp 41) = (.bool false) := eval_slot (j := 21) (by kernel_rfl) (hJ.valOf (by decide) (dep_of hdep 21 (by kernel_rfl)) rfl rfl)
          have e2 : a.eval (.tmp 48) = (.bool false) := eval_slot (j := 28) (by kernel_rfl) (hJ.valOf (by decide) (dep_of hdep 28 (by kernel_rfl)) rfl rfl)
          refine Step.val _ rfl rfl (wanted_none rfl) (.bool false) w' (fun ρ hρ => ?_) (hJ.val hGS hcl hL rfl (Below.refl _ _) _ rfl)
          rw [hρ] at e0 e2
          have ec0 : ρ (.const (.bool true)) = (.bool true) := (hρ _).symm
          clear hJ hsame hdep hcl hρ hsz hb
          go_simp
        · intro u w' hF
          change Exit.then _ _ Exit.normal (Act.put (Act.put (Act.put (Act.put (Act.put (Act.put (Act.put (Act.put (Act.put (Act.put (Act.put (Act.put (Act.put (Act.put (Act.put (Act.put (Act.put (Act.put (Act.put (Act.put (Act.put (Act.put (Act.put (Act.put (Act.put (Act.put (Act.put (Act.put (Act.put (Act.put (putAll _ u 0 _) (some 20) (u 0)) (some 21) (u 1)) (some 22) (u 2)) (some 23) (u 3)) (some 24) (u 4)) (some 25) (u 5)) (some 26) (u 6)) (some 27) (u 7)) (some 28) (u 8)) (some 29) (u 9)) (some 30) (u 10)) (some 31) (u 11)) (some 32) (u 12)) (some 33) (u 13)) (some 34) (u 14)) (some 35) (u 15)) (some 36) (u 16)) (some 37) (u 17)) (some 38) (u 18)) (some 39) (u 19)) (some 40) (u 20)) (some 41) (u 21)) (some 42) (u 22)) (some 43) (u 23)) (some 44) (u 24)) (some 45) (u 25)) (some 46) (u 26)) (some 47) (u 27)) (some 48) (u 28)) (some 49) (u 29)) _
          simp only [putAll]
          have f : u 29 = .bool false := hF.fin0 (j := 29) (by decide) rfl rfl
          have hk := hF.kept.toBelow (Nat.le_refl _) (by simp)
          clear hF
          generalize u 0 = z0
          generalize u 1 = z1
          generalize u 2 = z2
          generalize u 3 = z3
          generalize u 4 = z4
          generalize u 5 = z5
          generalize u 6 = z6
          generalize u 7 = z7
          generalize u 8 = z8
          generalize u 9 = z9
          generalize u 10 = z10
          generalize u 11 = z11
          generalize u 12 = z12
          generalize u 13 = z13
          generalize u 14 = z14
          generalize u 15 = z15
          generalize u 16 = z16
          generalize u 17 = z17
          generalize u 18 = z18
          generalize u 19 = z19
          generalize u 20 = z20
          generalize u 21 = z21
          generalize u 22 = z22
          generalize u 23 = z23
          generalize u 24 = z24
          generalize u 25 = z25
          generalize u 26 = z26
          generalize u 27 = z27
          generalize u 28 = z28
          generalize u 29 = z29 at f ⊢
          go_simp
          go_step
          go_meet
          exact ⟨by first | rfl | exact f, hk⟩
      case rest =>
        obtain ⟨rfl, b3⟩ := hcut
        have SL4 := hide ((SL.out.below b3).more b3.size)
        have SD4 := hide ((SD.out.below b3).more b3.size)
        have HP4 := hide (HP.out.below b3 HP.out.lt)
        have HQ4 := hide (HQ.out.below b3 HQ.out.lt)
        have BW4 := hide (BW3.out.trans (b3.mono BW3.out.size))
        have hgL4 := Nat.lt_of_lt_of_le hgL b3.size
        clear b3 SL SD HP HQ BW3 CL hgL
        go_wp2_with fail
        go_loopw [52] (fun i wr => ∃ k : Nat, k ≤ nl ∧ i = .int .i64 k ∧ wr = wc) (fun i _ => nl - (intOf i).toNat)
        case atStart => exact ⟨0, Nat.zero_le _, rfl, rfl⟩
        case round =>
          obtain ⟨k, hk, rfl, rfl⟩ := hrel
          by_cases hlt : k < nl
          · obtain ⟨ad, u, had, _, hu, hcell⟩ := SL4.out.at_ hlt
            cases had
            unfold j64s at hu
            rw [List.getElem?_map] at hu
            obtain ⟨x, hx, rfl⟩ := Option.map_eq_some_iff.1 hu
            obtain ⟨x0, x1⟩ := HBD.out x (List.mem_of_getElem? hx)
            rw [Addr.add_lit, Nat.zero_add] at hcell
            clear hu hx
            go_wp2_with fail
            go_roundw
            case rel => exact ⟨k + 1, by omega, by go_num, by first | rfl | trivial⟩
            case measure => simp [intOf]; omega
          · obtain rfl : nl = k := by omega
            have HP := hide HP4.out
            have HQ := hide HQ4.out
            have SL := hide SL4.out
            have SD := hide SD4.out
            go_upto_region 11 with fail
            go_cut [4] from 63 to 83 (fun u wx => u = .bool true ∧ Below w.heap.size w wx)
            case first =>
              cases eq with
              | true =>
                refine wp_region_gj (n := 84) [] (fun _ => #[]) [(0, 0, 0, 0, 0), (0, 0, 0, 0, 0), (0, 0, 0, 0, 0), (0, 0, 0, 0, 0), (0, 0, 0, 0, 0), (0, 0, 0, 0, 0), (0, 0, 0, 0, 0), (0, 0, 0, 0, 0), (0, 0, 0, 0, 0), (0, 0, 0, 0, 0), (0, 0, 0, 0, 0), (0, 0, 0, 0, 0), (0, 0, 0, 0, 0), (0, 0, 0, 0, 0), (1, 0, 0, 0, 0), (0, 0, 0, 0, 0), (0, 0, 0, 0, 0), (0, 0, 0, 0, 0), (0, 0, 0, 0, 0), (0, 0, 0, 0, 0), (0, 0, 0, 0, 0), (0, 0, 0, 0, 0)] (fun j => [(.agg #[.int .i64 pf, .int .i64 pb, .int .i64 (pg : Nat)]), (.agg #[.int .i64 qf, .int .i64 qb, .int .i64 (qg : Nat)]), (.bool true), (.bool true), undef, undef, undef, undef, undef, (.bool true), (.bool true), (.agg #[.int .i64 pf, .int .i64 pb, .int .i64 (pg : Nat)]), (.slice (some ⟨gL, 0, none⟩) nl cl), (.agg #[.int .i64 qf, .int .i64 qb, .int .i64 (qg : Nat)]), undef, (.slice (some ⟨gL, 0, none⟩) nl cl), (.bool true), (.bool true), (.bool true), (.bool true), (.bool true), (.bool true)].getD j undef) [none, none, none, none, none, none, none, none, none, none, none, none, none, none, some (OwnS 3 nl (j64s SY))] (fun _ => 0) (by kernel_rfl) (by kernel_rfl) (by kernel_rfl) rfl (by kernel_rfl) (gno4 rfl) (fun i j h => by revert h; exact gno4 (p := fun _ => _) rfl i) (AllG.none_ (AllG.none_ (AllG.none_ (AllG.none_ (AllG.none_ (AllG.none_ (AllG.none_ (AllG.none_ (AllG.none_ (AllG.none_ (AllG.none_ (AllG.none_ (AllG.none_ (AllG.none_ (AllG.some_ (OwnS.stays (by kernel_rfl)) (AllG.nil _)))))))))))))))) (fun hGS => cases22 ⟨?_, ?_, ?_, ?_, ?_, ?_, ?_, ?_, ?_, ?_, ?_, ?_, ?_, ?_, ?_, ?_, ?_, ?_, ?_, ?_, ?_, ?_⟩) ?_
                · intro L a w' hL hsame hsz hJ hdep hcl
                  have hb := hJ.kept.toBelow (Nat.le_refl _) (by simp)
                  have e0 : a.eval (.tmp 5) = (.pointer (some ⟨gP, 0, none⟩)) := eval_base hsame (by kernel_rfl)
                  have hx := hJ.keptBox (HP.out) (by simp)
                  have q0 : w'.cell? ⟨gP, 0, none⟩ = some (.int .i64 pf) := hx.cell 0
                  have q1 : w'.cell? ⟨gP, 1, none⟩ = some (.int .i64 pb) := hx.cell 1
                  have q2 : w'.cell? ⟨gP, 2, none⟩ = some (.int .i64 (pg : Nat)) := hx.cell 2
                  refine Step.val _ rfl rfl (wanted_none rfl) (.agg #[.int .i64 pf, .int .i64 pb, .int .i64 (pg : Nat)]) w' (fun ρ hρ => ?_) (hJ.val hGS hcl hL rfl (Below.refl _ _) _ rfl)
                  clear hx
                  rw [hρ] at e0
                  clear hJ hsame hdep hcl hρ hsz hb
                  go_simp
                · intro L a w' hL hsame hsz hJ hdep hcl
                  have hb := hJ.kept.toBelow (Nat.le_refl _) (by simp)
                  have e0 : a.eval (.tmp 6) = (.pointer (some ⟨gQ, 0, none⟩)) := eval_base hsame (by kernel_rfl)
                  have hx := hJ.keptBox (HQ.out) (by simp)
                  have q0 : w'.cell? ⟨gQ, 0, none⟩ = some (.int .i64 qf) := hx.cell 0
                  have q1 : w'.cell? ⟨gQ, 1, none⟩ = some (.int .i64 qb) := hx.cell 1
                  have q2 : w'.cell? ⟨gQ, 2, none⟩ = some (.int .i64 (qg : Nat)) := hx.cell 2
                  refine Step.val _ rfl rfl (wanted_none rfl) (.agg #[.int .i64 qf, .int .i64 qb, .int .i64 (qg : Nat)]) w' (fun ρ hρ => ?_) (hJ.val hGS hcl hL rfl (Below.refl _ _) _ rfl)
                  clear hx
                  rw [hρ] at e0
                  clear hJ hsame hdep hcl hρ hsz hb
                  go_simp
                · intro L a w' hL hsame hsz hJ hdep hcl
                  have hb := hJ.kept.toBelow (Nat.le_refl _) (by simp)
                  have e0 : a.eval (.tmp 63) = (.agg #[.int .i64 pf, .int .i64 pb, .int .i64 (pg : Nat)]) := eval_slot (j := 0) (by kernel_rfl) (hJ.valOf (by decide) (dep_of hdep 0 (by kernel_rfl)) rfl rfl)
                  have e1 : a.eval (.tmp 64) = (.agg #[.int .i64 qf, .int .i64 qb, .int .i64 (qg : Nat)]) := eval_slot (j := 1) (by kernel_rfl) (hJ.valOf (by decide) (dep_of hdep 1 (by kernel_rfl)) rfl rfl)
                  refine Step.val _ rfl rfl (wanted_none rfl) (.bool true) w' (fun ρ hρ => ?_) (hJ.val hGS hcl hL rfl (Below.refl _ _) _ rfl)
                  rw [hρ] at e0 e1
                  clear hJ hsame hdep hcl hρ hsz hb
                  go_simp
                · intro L a w' hL hsame hsz hJ hdep hcl
                  have hb := hJ.kept.toBelow (Nat.le_refl _) (by simp)
                  have e0 : a.eval (.tmp 65) = (.bool true) := eval_slot (j := 2) (by kernel_rfl) (hJ.valOf (by decide) (dep_of hdep 2 (by kernel_rfl)) rfl rfl)
                  refine Step.val _ rfl rfl (wanted_none rfl) (.bool true) w' (fun ρ hρ => ?_) (hJ.val hGS hcl hL rfl (Below.refl _ _) _ rfl)
                  rw [hρ] at e0
                  clear hJ hsame hdep hcl hρ hsz hb
                  go_simp
                · intro L a w' hL hsame hsz hJ hdep hcl
                  have gd : valOf _ 3 a = .bool true := hJ.valOf (by decide) (dep_of hdep 3 (by kernel_rfl)) rfl rfl
                  exact GStep.pass _ rfl (gwanted_not (g := 3) (b := false) (c := true) rfl gd (by decide)) (hJ.val hGS hcl hL rfl (Below.refl _ _) _ rfl)
                · intro L a w' hL hsame hsz hJ hdep hcl
                  have gd : valOf _ 3 a = .bool true := hJ.valOf (by decide) (dep_of hdep 3 (by kernel_rfl)) rfl rfl
                  exact GStep.pass _ rfl (gwanted_not (g := 3) (b := false) (c := true) rfl gd (by decide)) (hJ.val hGS hcl hL rfl (Below.refl _ _) _ rfl)
                · intro L a w' hL hsame hsz hJ hdep hcl
                  have gd : valOf _ 3 a = .bool true := hJ.valOf (by decide) (dep_of hdep 3 (by kernel_rfl)) rfl rfl
                  exact GStep.pass _ rfl (gwanted_not (g := 3) (b := false) (c := true) rfl gd (by decide)) (hJ.val hGS hcl hL rfl (Below.refl _ _) _ rfl)
                · intro L a w' hL hsame hsz hJ hdep hcl
                  have gd : valOf _ 3 a = .bool true := hJ.valOf (by decide) (dep_of hdep 3 (by kernel_rfl)) rfl rfl
                  exact GStep.pass _ rfl (gwanted_not (g := 3) (b := false) (c := true) rfl gd (by decide)) (hJ.val hGS hcl hL rfl (Below.refl _ _) _ rfl)
                · intro L a w' hL hsame hsz hJ hdep hcl
                  have gd : valOf _ 3 a = .bool true := hJ.valOf (by decide) (dep_of hdep 3 (by kernel_rfl)) rfl rfl
                  exact GStep.pass _ rfl (gwanted_not (g := 3) (b := false) (c := true) rfl gd (by decide)) (hJ.val hGS hcl hL rfl (Below.refl _ _) _ rfl)
                · intro L a w' hL hsame hsz hJ hdep hcl
                  have hb := hJ.kept.toBelow (Nat.le_refl _) (by simp)
                  have e0 : a.eval (.tmp 66) = (.bool true) := eval_slot (j := 3) (by kernel_rfl) (hJ.valOf (by decide) (dep_of hdep 3 (by kernel_rfl)) rfl rfl)
                  have e2 : a.eval (.tmp 71) = undef := eval_slot (j := 8) (by kernel_rfl) (hJ.valOf (by decide) (dep_of hdep 8 (by kernel_rfl)) rfl rfl)
                  refine Step.val _ rfl rfl (wanted_none rfl) (.bool true) w' (fun ρ hρ => ?_) (hJ.val hGS hcl hL rfl (Below.refl _ _) _ rfl)
                  rw [hρ] at e0 e2
                  have ec0 : ρ (.const (.bool true)) = (.bool true) := (hρ _).symm
                  clear hJ hsame hdep hcl hρ hsz hb
                  go_simp
                · intro L a w' hL hsame hsz hJ hdep hcl
                  have hb := hJ.kept.toBelow (Nat.le_refl _) (by simp)
                  have e0 : a.eval (.tmp 72) = (.bool true) := eval_slot (j := 9) (by kernel_rfl) (hJ.valOf (by decide) (dep_of hdep 9 (by kernel_rfl)) rfl rfl)
                  refine Step.val _ rfl rfl (wanted_none rfl) (.bool true) w' (fun ρ hρ => ?_) (hJ.val hGS hcl hL rfl (Below.refl _ _) _ rfl)
                  rw [hρ] at e0
                  clear hJ hsame hdep hcl hρ hsz hb
                  go_simp
                · intro L a w' hL hsame hsz hJ hdep hcl
                  have gd : valOf _ 10 a = .bool true := hJ.valOf (by decide) (dep_of hdep 10 (by kernel_rfl)) rfl rfl
                  have hb := hJ.kept.toBelow (Nat.le_refl _) (by simp)
                  have e0 : a.eval (.tmp 5) = (.pointer (some ⟨gP, 0, none⟩)) := eval_base hsame (by kernel_rfl)
                  have hx := hJ.keptBox (HP.out) (by simp)
                  have q0 : w'.cell? ⟨gP, 0, none⟩ = some (.int .i64 pf) := hx.cell 0
                  have q1 : w'.cell? ⟨gP, 1, none⟩ = some (.int .i64 pb) := hx.cell 1
                  have q2 : w'.cell? ⟨gP, 2, none⟩ = some (.int .i64 (pg : Nat)) := hx.cell 2
                  refine Step.val _ rfl rfl (wanted_some (g := 10) (b := true) rfl gd) (.agg #[.int .i64 pf, .int .i64 pb, .int .i64 (pg : Nat)]) w' (fun ρ hρ => ?_) (hJ.val hGS hcl hL rfl (Below.refl _ _) _ rfl)
                  clear hx
                  rw [hρ] at e0
                  clear hJ hsame hdep hcl hρ hsz hb gd
                  go_simp
                · intro L a w' hL hsame hsz hJ hdep hcl
                  have gd : valOf _ 10 a = .bool true := hJ.valOf (by decide) (dep_of hdep 10 (by kernel_rfl)) rfl rfl
                  have hb := hJ.kept.toBelow (Nat.le_refl _) (by simp)
                  have e0 : a.eval (.tmp 7) = (.slice (some ⟨gL, 0, none⟩) nl cl) := eval_base hsame (by kernel_rfl)
                  refine Step.val _ rfl rfl (wanted_some (g := 10) (b := true) rfl gd) (.slice (some ⟨gL, 0, none⟩) nl cl) w' (fun ρ hρ => ?_) (hJ.val hGS hcl hL rfl (Below.refl _ _) _ rfl)
                  rw [hρ] at e0
                  clear hJ hsame hdep hcl hρ hsz hb gd
                  go_simp
                · intro L a w' hL hsame hsz hJ hdep hcl
                  have gd : valOf _ 10 a = .bool true := hJ.valOf (by decide) (dep_of hdep 10 (by kernel_rfl)) rfl rfl
                  have hb := hJ.kept.toBelow (Nat.le_refl _) (by simp)
                  have e0 : a.eval (.tmp 74) = (.agg #[.int .i64 pf, .int .i64 pb, .int .i64 (pg : Nat)]) := eval_slot (j := 11) (by kernel_rfl) (hJ.valOf (by decide) (dep_of hdep 11 (by kernel_rfl)) rfl rfl)
                  have e1 : a.eval (.tmp 75) = (.slice (some ⟨gL, 0, none⟩) nl cl) := eval_slot (j := 12) (by kernel_rfl) (hJ.valOf (by decide) (dep_of hdep 12 (by kernel_rfl)) rfl rfl)
                  refine Step.call _ rfl rfl (wanted_some (g := 10) (b := true) rfl gd) 8 #[.agg #[.int .i64 pf, .int .i64 pb, .int .i64 (pg : Nat)], .slice (some ⟨gL, 0, none⟩) nl cl] (fun ρ hρ => ?_) ?_
                  · skip
                    rw [hρ] at e0 e1
                    have ef : ρ (.func 8) = .func (.func 8) #[] #[] := (hρ _).symm
                    clear hJ hsame hdep hcl hρ hsz hb gd
                    go_simp
                  · refine (AP.out _ _ (SL.out.below hb) (HT.out.keep (BW4.out.trans (hb.mono BW4.out.size)))).mono ?_
                    rintro e w2 ⟨rfl, bb⟩
                    exact ⟨_, rfl, hJ.val hGS hcl hL rfl bb _ rfl⟩
                · intro L a w' hL hsame hsz hJ hdep hcl
                  have gd : valOf _ 10 a = .bool true := hJ.valOf (by decide) (dep_of hdep 10 (by kernel_rfl)) rfl rfl
                  have hb := hJ.kept.toBelow (Nat.le_refl _) (by simp)
                  have e0 : a.eval (.tmp 76) = (.agg #[.int .i64 qf, .int .i64 qb, .int .i64 (qg : Nat)]) := eval_slot (j := 13) (by kernel_rfl) (hJ.valOf (by decide) (dep_of hdep 13 (by kernel_rfl)) rfl rfl)
                  refine Step.call _ rfl rfl (wanted_some (g := 10) (b := true) rfl gd) 11 #[.agg #[.int .i64 qf, .int .i64 qb, .int .i64 (qg : Nat)]] (fun ρ hρ => ?_) ?_
                  · skip
                    rw [hρ] at e0
                    have ef : ρ (.func 11) = .func (.func 11) #[] #[] := (hρ _).symm
                    clear hJ hsame hdep hcl hρ hsz hb gd
                    go_simp
                  · refine (SQ.out _ (HT.out.keep (BW4.out.trans (hb.mono BW4.out.size)))).mono ?_
                    rintro e w2 ⟨v, rfl, hv, bb⟩
                    obtain ⟨A, c, rfl, _⟩ := own_form hv
                    exact ⟨_, rfl, hJ.pred hGS hcl hL rfl bb _ ⟨A, c, rfl, own_base' hv (Nat.zero_le _)⟩⟩
                · intro L a w' hL hsame hsz hJ hdep hcl
                  have gd : valOf _ 10 a = .bool true := hJ.valOf (by decide) (dep_of hdep 10 (by kernel_rfl)) rfl rfl
                  have hb := hJ.kept.toBelow (Nat.le_refl _) (by simp)
                  have e0 : a.eval (.tmp 7) = (.slice (some ⟨gL, 0, none⟩) nl cl) := eval_base hsame (by kernel_rfl)
                  refine Step.val _ rfl rfl (wanted_some (g := 10) (b := true) rfl gd) (.slice (some ⟨gL, 0, none⟩) nl cl) w' (fun ρ hρ => ?_) (hJ.val hGS hcl hL rfl (Below.refl _ _) _ rfl)
                  rw [hρ] at e0
                  clear hJ hsame hdep hcl hρ hsz hb gd
                  go_simp
                · intro L a w' hL hsame hsz hJ hdep hcl
                  have gd : valOf _ 10 a = .bool true := hJ.valOf (by decide) (dep_of hdep 10 (by kernel_rfl)) rfl rfl
                  have hb := hJ.kept.toBelow (Nat.le_refl _) (by simp)
                  obtain ⟨A14, c14, hv14, ho14⟩ := (show (OwnS 3 nl (j64s SY)) (valOf _ 14 a) w' from hJ.predOf (by decide) (dep_of hdep 14 (by kernel_rfl)) rfl)
                  have e0 : a.eval (.tmp 77) = .slice A14 nl c14 := eval_slot (j := 14) (by kernel_rfl) hv14
                  have e1 : a.eval (.tmp 78) = (.slice (some ⟨gL, 0, none⟩) nl cl) := eval_slot (j := 15) (by kernel_rfl) (hJ.valOf (by decide) (dep_of hdep 15 (by kernel_rfl)) rfl rfl)
                  refine Step.call _ rfl rfl (wanted_some (g := 10) (b := true) rfl gd) 10 #[.slice A14 nl c14, .slice (some ⟨gL, 0, none⟩) nl cl] (fun ρ hρ => ?_) ?_
                  · skip
                    rw [hρ] at e0 e1
                    have ef : ρ (.func 10) = .func (.func 10) #[] #[] := (hρ _).symm
                    clear hJ hsame hdep hcl hρ hsz hb gd
                    go_simp
                  · refine (same64_is SY A14 (some ⟨gL, 0, none⟩) _ _ nl c14 nl cl _ (Seen.of_own ho14) (SL.out.below hb) (by have := LN2.out; omega)).mono ?_
                    rintro e w2 ⟨rfl, bb⟩
                    exact ⟨_, rfl, hJ.val hGS hcl hL rfl bb _ rfl⟩
                · intro L a w' hL hsame hsz hJ hdep hcl
                  have hb := hJ.kept.toBelow (Nat.le_refl _) (by simp)
                  have e0 : a.eval (.tmp 73) = (.bool true) := eval_slot (j := 10) (by kernel_rfl) (hJ.valOf (by decide) (dep_of hdep 10 (by kernel_rfl)) rfl rfl)
                  have e1 : a.eval (.tmp 79) = (.bool true) := eval_slot (j := 16) (by kernel_rfl) (hJ.valOf (by decide) (dep_of hdep 16 (by kernel_rfl)) rfl rfl)
                  refine Step.val _ rfl rfl (wanted_none rfl) (.bool true) w' (fun ρ hρ => ?_) (hJ.val hGS hcl hL rfl (Below.refl _ _) _ rfl)
                  rw [hρ] at e0 e1
                  have ec0 : ρ (.const (.bool false)) = (.bool false) := (hρ _).symm
                  clear hJ hsame hdep hcl hρ hsz hb
                  go_simp
                · intro L a w' hL hsame hsz hJ hdep hcl
                  have hb := hJ.kept.toBelow (Nat.le_refl _) (by simp)
                  have e0 : a.eval (.tmp 80) = (.bool true) := eval_slot (j := 17) (by kernel_rfl) (hJ.valOf (by decide) (dep_of hdep 17 (by kernel_rfl)) rfl rfl)
                  refine Step.val _ rfl rfl (wanted_none rfl) (.bool true) w' (fun ρ hρ => ?_) (hJ.val hGS hcl hL rfl (Below.refl _ _) _ rfl)
                  rw [hρ] at e0
                  clear hJ hsame hdep hcl hρ hsz hb
                  go_simp
                · intro L a w' hL hsame hsz hJ hdep hcl
                  have gd : valOf _ 18 a = .bool true := hJ.valOf (by decide) (dep_of hdep 18 (by kernel_rfl)) rfl rfl
                  have hb := hJ.kept.toBelow (Nat.le_refl _) (by simp)
                  refine Step.call _ rfl rfl (wanted_some (g := 18) (b := true) rfl gd) 3 #[] (fun ρ hρ => ?_) ?_
                  · skip
                    have ef : ρ (.func 3) = .func (.func 3) #[] #[] := (hρ _).symm
                    clear hJ hsame hdep hcl hρ hsz hb gd
                    go_simp
                  · refine (PRN.out _ (HT.out.keep (BW4.out.trans (hb.mono BW4.out.size)))).mono ?_
                    rintro e w2 ⟨rfl, bb⟩
                    exact ⟨_, rfl, hJ.val hGS hcl hL rfl bb _ rfl⟩
                · intro L a w' hL hsame hsz hJ hdep hcl
                  have hb := hJ.kept.toBelow (Nat.le_refl _) (by simp)
                  have e0 : a.eval (.tmp 81) = (.bool true) := eval_slot (j := 18) (by kernel_rfl) (hJ.valOf (by decide) (dep_of hdep 18 (by kernel_rfl)) rfl rfl)
                  have e1 : a.eval (.tmp 82) = (.bool true) := eval_slot (j := 19) (by kernel_rfl) (hJ.valOf (by decide) (dep_of hdep 19 (by kernel_rfl)) rfl rfl)
                  refine Step.val _ rfl rfl (wanted_none rfl) (.bool true) w' (fun ρ hρ => ?_) (hJ.val hGS hcl hL rfl (Below.refl _ _) _ rfl)
                  rw [hρ] at e0 e1
                  have ec0 : ρ (.const (.bool false)) = (.bool false) := (hρ _).symm
                  clear hJ hsame hdep hcl hρ hsz hb
                  go_simp
                · intro L a w' hL hsame hsz hJ hdep hcl
                  have hb := hJ.kept.toBelow (Nat.le_refl _) (by simp)
                  have e0 : a.eval (.tmp 83) = (.bool true) := eval_slot (j := 20) (by kernel_rfl) (hJ.valOf (by decide) (dep_of hdep 20 (by kernel_rfl)) rfl rfl)
                  refine Step.val _ rfl rfl (wanted_none rfl) (.bool true) w' (fun ρ hρ => ?_) (hJ.val hGS hcl hL rfl (Below.refl _ _) _ rfl)
                  rw [hρ] at e0
                  clear hJ hsame hdep hcl hρ hsz hb
                  go_simp
                · intro u w' hF
                  change Exit.then _ _ Exit.normal (Act.put (Act.put (Act.put (Act.put (Act.put (Act.put (Act.put (Act.put (Act.put (Act.put (Act.put (Act.put (Act.put (Act.put (Act.put (Act.put (Act.put (Act.put (Act.put (Act.put (Act.put (Act.put (putAll _ u 0 _) (some 63) (u 0)) (some 64) (u 1)) (some 65) (u 2)) (some 66) (u 3)) (some 67) (u 4)) (some 68) (u 5)) (some 69) (u 6)) (some 70) (u 7)) (some 71) (u 8)) (some 72) (u 9)) (some 73) (u 10)) (some 74) (u 11)) (some 75) (u 12)) (some 76) (u 13)) (some 77) (u 14)) (some 78) (u 15)) (some 79) (u 16)) (some 80) (u 17)) (some 81) (u 18)) (some 82) (u 19)) (some 83) (u 20)) (some 4) (u 21)) _
                  simp only [putAll]
                  have f : u 21 = .bool true := hF.fin0 (j := 21) (by decide) rfl rfl
                  have hk := hF.kept.toBelow (Nat.le_refl _) (by simp)
                  clear hF
                  generalize u 0 = z0
                  generalize u 1 = z1
                  generalize u 2 = z2
                  generalize u 3 = z3
                  generalize u 4 = z4
                  generalize u 5 = z5
                  generalize u 6 = z6
                  generalize u 7 = z7
                  generalize u 8 = z8
                  generalize u 9 = z9
                  generalize u 10 = z10
                  generalize u 11 = z11
                  generalize u 12 = z12
                  generalize u 13 = z13
                  generalize u 14 = z14
                  generalize u 15 = z15
                  generalize u 16 = z16
                  generalize u 17 = z17
                  generalize u 18 = z18
                  generalize u 19 = z19
                  generalize u 20 = z20
                  generalize u 21 = z21 at f ⊢
                  go_simp
                  go_step
                  go_meet
                  exact ⟨by first | rfl | exact f, BW4.out.trans (hk.mono BW4.out.size)⟩
              | false =>
                have APD := hide (APD.out rfl)
                refine wp_region_gj (n := 84) [] (fun _ => #[]) [(0, 0, 0, 0, 0), (0, 0, 0, 0, 0), (0, 0, 0, 0, 0), (0, 0, 0, 0, 0), (0, 0, 0, 0, 0), (0, 0, 0, 0, 0), (0, 0, 0, 0, 0), (0, 0, 0, 0, 0), (0, 0, 0, 0, 0), (0, 0, 0, 0, 0), (0, 0, 0, 0, 0), (0, 0, 0, 0, 0), (0, 0, 0, 0, 0), (0, 0, 0, 0, 0), (1, 0, 0, 0, 0), (0, 0, 0, 0, 0), (0, 0, 0, 0, 0), (0, 0, 0, 0, 0), (0, 0, 0, 0, 0), (0, 0, 0, 0, 0), (0, 0, 0, 0, 0), (0, 0, 0, 0, 0)] (fun j => [(.agg #[.int .i64 pf, .int .i64 pb, .int .i64 (pg : Nat)]), (.agg #[.int .i64 qf, .int .i64 qb, .int .i64 (qg : Nat)]), (.bool false), (.bool false), (.agg #[.int .i64 pf, .int .i64 pb, .int .i64 (pg : Nat)]), (.slice AD nd cd), (.agg #[.int .i64 qf, .int .i64 qb, .int .i64 (qg : Nat)]), (.agg #[.int .i64 qf, .int .i64 qb, .int .i64 (qg : Nat)]), (.bool true), (.bool true), (.bool true), (.agg #[.int .i64 pf, .int .i64 pb, .int .i64 (pg : Nat)]), (.slice (some ⟨gL, 0, none⟩) nl cl), (.agg #[.int .i64 qf, .int .i64 qb, .int .i64 (qg : Nat)]), undef, (.slice (some ⟨gL, 0, none⟩) nl cl), (.bool true), (.bool true), (.bool true), (.bool true), (.bool true), (.bool true)].getD j undef) [none, none, none, none, none, none, none, none, none, none, none, none, none, none, some (OwnS 3 nl (j64s SY))] (fun _ => 0) (by kernel_rfl) (by kernel_rfl) (by kernel_rfl) rfl (by kernel_rfl) (gno4 rfl) (fun i j h => by revert h; exact gno4 (p := fun _ => _) rfl i) (AllG.none_ (AllG.none_ (AllG.none_ (AllG.none_ (AllG.none_ (AllG.none_ (AllG.none_ (AllG.none_ (AllG.none_ (AllG.none_ (AllG.none_ (AllG.none_ (AllG.none_ (AllG.none_ (AllG.some_ (OwnS.stays (by kernel_rfl)) (AllG.nil _)))))))))))))))) (fun hGS => cases22 ⟨?_, ?_, ?_, ?_, ?_, ?_, ?_, ?_, ?_, ?_, ?_, ?_, ?_, ?_, ?_, ?_, ?_, ?_, ?_, ?_, ?_, ?_⟩) ?_
                · intro L a w' hL hsame hsz hJ hdep hcl
                  have hb := hJ.kept.toBelow (Nat.le_refl _) (by simp)
                  have e0 : a.eval (.tmp 5) = (.pointer (some ⟨gP, 0, none⟩)) := eval_base hsame (by kernel_rfl)
                  have hx := hJ.keptBox (HP.out) (by simp)
                  have q0 : w'.cell? ⟨gP, 0, none⟩ = some (.int .i64 pf) := hx.cell 0
                  have q1 : w'.cell? ⟨gP, 1, none⟩ = some (.int .i64 pb) := hx.cell 1
                  have q2 : w'.cell? ⟨gP, 2, none⟩ = some (.int .i64 (pg : Nat)) := hx.cell 2
                  refine Step.val _ rfl rfl (wanted_none rfl) (.agg #[.int .i64 pf, .int .i64 pb, .int .i64 (pg : Nat)]) w' (fun ρ hρ => ?_) (hJ.val hGS hcl hL rfl (Below.refl _ _) _ rfl)
                  clear hx
                  rw [hρ] at e0
                  clear hJ hsame hdep hcl hρ hsz hb
                  go_simp
                · intro L a w' hL hsame hsz hJ hdep hcl
                  have hb := hJ.kept.toBelow (Nat.le_refl _) (by simp)
                  have e0 : a.eval (.tmp 6) = (.pointer (some ⟨gQ, 0, none⟩)) := eval_base hsame (by kernel_rfl)
                  have hx := hJ.keptBox (HQ.out) (by simp)
                  have q0 : w'.cell? ⟨gQ, 0, none⟩ = some (.int .i64 qf) := hx.cell 0
                  have q1 : w'.cell? ⟨gQ, 1, none⟩ = some (.int .i64 qb) := hx.cell 1
                  have q2 : w'.cell? ⟨gQ, 2, none⟩ = some (.int .i64 (qg : Nat)) := hx.cell 2
                  refine Step.val _ rfl rfl (wanted_none rfl) (.agg #[.int .i64 qf, .int .i64 qb, .int .i64 (qg : Nat)]) w' (fun ρ hρ => ?_) (hJ.val hGS hcl hL rfl (Below.refl _ _) _ rfl)
                  clear hx
                  rw [hρ] at e0
                  clear hJ hsame hdep hcl hρ hsz hb
                  go_simp
                · intro L a w' hL hsame hsz hJ hdep hcl
                  have hb := hJ.kept.toBelow (Nat.le_refl _) (by simp)
                  have e0 : a.eval (.tmp 63) = (.agg #[.int .i64 pf, .int .i64 pb, .int .i64 (pg : Nat)]) := eval_slot (j := 0) (by kernel_rfl) (hJ.valOf (by decide) (dep_of hdep 0 (by kernel_rfl)) rfl rfl)
                  have e1 : a.eval (.tmp 64) = (.agg #[.int .i64 qf, .int .i64 qb, .int .i64 (qg : Nat)]) := eval_slot (j := 1) (by kernel_rfl) (hJ.valOf (by decide) (dep_of hdep 1 (by kernel_rfl)) rfl rfl)
                  refine Step.val _ rfl rfl (wanted_none rfl) (.bool false) w' (fun ρ hρ => ?_) (hJ.val hGS hcl hL rfl (Below.refl _ _) _ rfl)
                  rw [hρ] at e0 e1
                  clear hJ hsame hdep hcl hρ hsz hb
                  go_simp
                · intro L a w' hL hsame hsz hJ hdep hcl
                  have hb := hJ.kept.toBelow (Nat.le_refl _) (by simp)
                  have e0 : a.eval (.tmp 65) = (.bool false) := eval_slot (j := 2) (by kernel_rfl) (hJ.valOf (by decide) (dep_of hdep 2 (by kernel_rfl)) rfl rfl)
                  refine Step.val _ rfl rfl (wanted_none rfl) (.bool false) w' (fun ρ hρ => ?_) (hJ.val hGS hcl hL rfl (Below.refl _ _) _ rfl)
                  rw [hρ] at e0
                  clear hJ hsame hdep hcl hρ hsz hb
                  go_simp
                · intro L a w' hL hsame hsz hJ hdep hcl
                  have gd : valOf _ 3 a = .bool false := hJ.valOf (by decide) (dep_of hdep 3 (by kernel_rfl)) rfl rfl
                  have hb := hJ.kept.toBelow (Nat.le_refl _) (by simp)
                  have e0 : a.eval (.tmp 5) = (.pointer (some ⟨gP, 0, none⟩)) := eval_base hsame (by kernel_rfl)
                  have hx := hJ.keptBox (HP.out) (by simp)
                  have q0 : w'.cell? ⟨gP, 0, none⟩ = some (.int .i64 pf) := hx.cell 0
                  have q1 : w'.cell? ⟨gP, 1, none⟩ = some (.int .i64 pb) := hx.cell 1
                  have q2 : w'.cell? ⟨gP, 2, none⟩ = some (.int .i64 (pg : Nat)) := hx.cell 2
                  refine Step.val _ rfl rfl (wanted_some (g := 3) (b := false) rfl gd) (.agg #[.int .i64 pf, .int .i64 pb, .int .i64 (pg : Nat)]) w' (fun ρ hρ => ?_) (hJ.val hGS hcl hL rfl (Below.refl _ _) _ rfl)
                  clear hx
                  rw [hρ] at e0
                  clear hJ hsame hdep hcl hρ hsz hb gd
                  go_simp
                · intro L a w' hL hsame hsz hJ hdep hcl
                  have gd : valOf _ 3 a = .bool false := hJ.valOf (by decide) (dep_of hdep 3 (by kernel_rfl)) rfl rfl
                  have hb := hJ.kept.toBelow (Nat.le_refl _) (by simp)
                  have e0 : a.eval (.tmp 8) = (.slice AD nd cd) := eval_base hsame (by kernel_rfl)
                  refine Step.val _ rfl rfl (wanted_some (g := 3) (b := false) rfl gd) (.slice AD nd cd) w' (fun ρ hρ => ?_) (hJ.val hGS hcl hL rfl (Below.refl _ _) _ rfl)
                  rw [hρ] at e0
                  clear hJ hsame hdep hcl hρ hsz hb gd
                  go_simp
                · intro L a w' hL hsame hsz hJ hdep hcl
                  have gd : valOf _ 3 a = .bool false := hJ.valOf (by decide) (dep_of hdep 3 (by kernel_rfl)) rfl rfl
                  have hb := hJ.kept.toBelow (Nat.le_refl _) (by simp)
                  have e0 : a.eval (.tmp 67) = (.agg #[.int .i64 pf, .int .i64 pb, .int .i64 (pg : Nat)]) := eval_slot (j := 4) (by kernel_rfl) (hJ.valOf (by decide) (dep_of hdep 4 (by kernel_rfl)) rfl rfl)
                  have e1 : a.eval (.tmp 68) = (.slice AD nd cd) := eval_slot (j := 5) (by kernel_rfl) (hJ.valOf (by decide) (dep_of hdep 5 (by kernel_rfl)) rfl rfl)
                  refine Step.call _ rfl rfl (wanted_some (g := 3) (b := false) rfl gd) 8 #[.agg #[.int .i64 pf, .int .i64 pb, .int .i64 (pg : Nat)], .slice AD nd cd] (fun ρ hρ => ?_) ?_
                  · skip
                    rw [hρ] at e0 e1
                    have ef : ρ (.func 8) = .func (.func 8) #[] #[] := (hρ _).symm
                    clear hJ hsame hdep hcl hρ hsz hb gd
                    go_simp
                  · refine (APD.out _ _ (SD.out.below hb) (HT.out.keep (BW4.out.trans (hb.mono BW4.out.size)))).mono ?_
                    rintro e w2 ⟨rfl, bb⟩
                    exact ⟨_, rfl, hJ.val hGS hcl hL rfl bb _ rfl⟩
                · intro L a w' hL hsame hsz hJ hdep hcl
                  have gd : valOf _ 3 a = .bool false := hJ.valOf (by decide) (dep_of hdep 3 (by kernel_rfl)) rfl rfl
                  have hb := hJ.kept.toBelow (Nat.le_refl _) (by simp)
                  have e0 : a.eval (.tmp 6) = (.pointer (some ⟨gQ, 0, none⟩)) := eval_base hsame (by kernel_rfl)
                  have hx := hJ.keptBox (HQ.out) (by simp)
                  have q0 : w'.cell? ⟨gQ, 0, none⟩ = some (.int .i64 qf) := hx.cell 0
                  have q1 : w'.cell? ⟨gQ, 1, none⟩ = some (.int .i64 qb) := hx.cell 1
                  have q2 : w'.cell? ⟨gQ, 2, none⟩ = some (.int .i64 (qg : Nat)) := hx.cell 2
                  refine Step.val _ rfl rfl (wanted_some (g := 3) (b := false) rfl gd) (.agg #[.int .i64 qf, .int .i64 qb, .int .i64 (qg : Nat)]) w' (fun ρ hρ => ?_) (hJ.val hGS hcl hL rfl (Below.refl _ _) _ rfl)
                  clear hx
                  rw [hρ] at e0
                  clear hJ hsame hdep hcl hρ hsz hb gd
                  go_simp
                · intro L a w' hL hsame hsz hJ hdep hcl
                  have gd : valOf _ 3 a = .bool false := hJ.valOf (by decide) (dep_of hdep 3 (by kernel_rfl)) rfl rfl
                  have hb := hJ.kept.toBelow (Nat.le_refl _) (by simp)
                  have e0 : a.eval (.tmp 69) = (.agg #[.int .i64 qf, .int .i64 qb, .int .i64 (qg : Nat)]) := eval_slot (j := 6) (by kernel_rfl) (hJ.valOf (by decide) (dep_of hdep 6 (by kernel_rfl)) rfl rfl)
                  have e1 : a.eval (.tmp 70) = (.agg #[.int .i64 qf, .int .i64 qb, .int .i64 (qg : Nat)]) := eval_slot (j := 7) (by kernel_rfl) (hJ.valOf (by decide) (dep_of hdep 7 (by kernel_rfl)) rfl rfl)
                  refine Step.val _ rfl rfl (wanted_some (g := 3) (b := false) rfl gd) (.bool true) w' (fun ρ hρ => ?_) (hJ.val hGS hcl hL rfl (Below.refl _ _) _ rfl)
                  rw [hρ] at e0 e1
                  clear hJ hsame hdep hcl hρ hsz hb gd
                  go_simp
                · intro L a w' hL hsame hsz hJ hdep hcl
                  have hb := hJ.kept.toBelow (Nat.le_refl _) (by simp)
                  have e0 : a.eval (.tmp 66) = (.bool false) := eval_slot (j := 3) (by kernel_rfl) (hJ.valOf (by decide) (dep_of hdep 3 (by kernel_rfl)) rfl rfl)
                  have e2 : a.eval (.tmp 71) = (.bool true) := eval_slot (j := 8) (by kernel_rfl) (hJ.valOf (by decide) (dep_of hdep 8 (by kernel_rfl)) rfl rfl)
                  refine Step.val _ rfl rfl (wanted_none rfl) (.bool true) w' (fun ρ hρ => ?_) (hJ.val hGS hcl hL rfl (Below.refl _ _) _ rfl)
                  rw [hρ] at e0 e2
                  have ec0 : ρ (.const (.bool true)) = (.bool true) := (hρ _).symm
                  clear hJ hsame hdep hcl hρ hsz hb
                  go_simp
                · intro L a w' hL hsame hsz hJ hdep hcl
                  have hb := hJ.kept.toBelow (Nat.le_refl _) (by simp)
                  have e0 : a.eval (.tmp 72) = (.bool true) := eval_slot (j := 9) (by kernel_rfl) (hJ.valOf (by decide) (dep_of hdep 9 (by kernel_rfl)) rfl rfl)
                  refine Step.val _ rfl rfl (wanted_none rfl) (.bool true) w' (fun ρ hρ => ?_) (hJ.val hGS hcl hL rfl (Below.refl _ _) _ rfl)
                  rw [hρ] at e0
                  clear hJ hsame hdep hcl hρ hsz hb
                  go_simp
                · intro L a w' hL hsame hsz hJ hdep hcl
                  have gd : valOf _ 10 a = .bool true := hJ.valOf (by decide) (dep_of hdep 10 (by kernel_rfl)) rfl rfl
                  have hb := hJ.kept.toBelow (Nat.le_refl _) (by simp)
                  have e0 : a.eval (.tmp 5) = (.pointer (some ⟨gP, 0, none⟩)) := eval_base hsame (by kernel_rfl)
                  have hx := hJ.keptBox (HP.out) (by simp)
                  have q0 : w'.cell? ⟨gP, 0, none⟩ = some (.int .i64 pf) := hx.cell 0
                  have q1 : w'.cell? ⟨gP, 1, none⟩ = some (.int .i64 pb) := hx.cell 1
                  have q2 : w'.cell? ⟨gP, 2, none⟩ = some (.int .i64 (pg : Nat)) := hx.cell 2
                  refine Step.val _ rfl rfl (wanted_some (g := 10) (b := true) rfl gd) (.agg #[.int .i64 pf, .int .i64 pb, .int .i64 (pg : Nat)]) w' (fun ρ hρ => ?_) (hJ.val hGS hcl hL rfl (Below.refl _ _) _ rfl)
                  clear hx
                  rw [hρ] at e0
                  clear hJ hsame hdep hcl hρ hsz hb gd
                  go_simp
                · intro L a w' hL hsame hsz hJ hdep hcl
                  have gd : valOf _ 10 a = .bool true := hJ.valOf (by decide) (dep_of hdep 10 (by kernel_rfl)) rfl rfl
                  have hb := hJ.kept.toBelow (Nat.le_refl _) (by simp)
                  have e0 : a.eval (.tmp 7) = (.slice (some ⟨gL, 0, none⟩) nl cl) := eval_base hsame (by kernel_rfl)
                  refine Step.val _ rfl rfl (wanted_some (g := 10) (b := true) rfl gd) (.slice (some ⟨gL, 0, none⟩) nl cl) w' (fun ρ hρ => ?_) (hJ.val hGS hcl hL rfl (Below.refl _ _) _ rfl)
                  rw [hρ] at e0
                  clear hJ hsame hdep hcl hρ hsz hb gd
                  go_simp
                · intro L a w' hL hsame hsz hJ hdep hcl
                  have gd : valOf _ 10 a = .bool true := hJ.valOf (by decide) (dep_of hdep 10 (by kernel_rfl)) rfl rfl
                  have hb := hJ.kept.toBelow (Nat.le_refl _) (by simp)
                  have e0 : a.eval (.tmp 74) = (.agg #[.int .i64 pf, .int .i64 pb, .int .i64 (pg : Nat)]) := eval_slot (j := 11) (by kernel_rfl) (hJ.valOf (by decide) (dep_of hdep 11 (by kernel_rfl)) rfl rfl)
                  have e1 : a.eval (.tmp 75) = (.slice (some ⟨gL, 0, none⟩) nl cl) := eval_slot (j := 12) (by kernel_rfl) (hJ.valOf (by decide) (dep_of hdep 12 (by kernel_rfl)) rfl rfl)
                  refine Step.call _ rfl rfl (wanted_some (g := 10) (b := true) rfl gd) 8 #[.agg #[.int .i64 pf, .int .i64 pb, .int .i64 (pg : Nat)], .slice (some ⟨gL, 0, none⟩) nl cl] (fun ρ hρ => ?_) ?_
                  · skip
                    rw [hρ] at e0 e1
                    have ef : ρ (.func 8) = .func (.func 8) #[] #[] := (hρ _).symm
                    clear hJ hsame hdep hcl hρ hsz hb gd
                    go_simp
                  · refine (AP.out _ _ (SL.out.below hb) (HT.out.keep (BW4.out.trans (hb.mono BW4.out.size)))).mono ?_
                    rintro e w2 ⟨rfl, bb⟩
                    exact ⟨_, rfl, hJ.val hGS hcl hL rfl bb _ rfl⟩
                · intro L a w' hL hsame hsz hJ hdep hcl
                  have gd : valOf _ 10 a = .bool true := hJ.valOf (by decide) (dep_of hdep 10 (by kernel_rfl)) rfl rfl
                  have hb := hJ.kept.toBelow (Nat.le_refl _) (by simp)
                  have e0 : a.eval (.tmp 76) = (.agg #[.int .i64 qf, .int .i64 qb, .int .i64 (qg : Nat)]) := eval_slot (j := 13) (by kernel_rfl) (hJ.valOf (by decide) (dep_of hdep 13 (by kernel_rfl)) rfl rfl)
                  refine Step.call _ rfl rfl (wanted_some (g := 10) (b := true) rfl gd) 11 #[.agg #[.int .i64 qf, .int .i64 qb, .int .i64 (qg : Nat)]] (fun ρ hρ => ?_) ?_
                  · skip
                    rw [hρ] at e0
                    have ef : ρ (.func 11) = .func (.func 11) #[] #[] := (hρ _).symm
                    clear hJ hsame hdep hcl hρ hsz hb gd
                    go_simp
                  · refine (SQ.out _ (HT.out.keep (BW4.out.trans (hb.mono BW4.out.size)))).mono ?_
                    rintro e w2 ⟨v, rfl, hv, bb⟩
                    obtain ⟨A, c, rfl, _⟩ := own_form hv
                    exact ⟨_, rfl, hJ.pred hGS hcl hL rfl bb _ ⟨A, c, rfl, own_base' hv (Nat.zero_le _)⟩⟩
                · intro L a w' hL hsame hsz hJ hdep hcl
                  have gd : valOf _ 10 a = .bool true := hJ.valOf (by decide) (dep_of hdep 10 (by kernel_rfl)) rfl rfl
                  have hb := hJ.kept.toBelow (Nat.le_refl _) (by simp)
                  have e0 : a.eval (.tmp 7) = (.slice (some ⟨gL, 0, none⟩) nl cl) := eval_base hsame (by kernel_rfl)
                  refine Step.val _ rfl rfl (wanted_some (g := 10) (b := true) rfl gd) (.slice (some ⟨gL, 0, none⟩) nl cl) w' (fun ρ hρ => ?_) (hJ.val hGS hcl hL rfl (Below.refl _ _) _ rfl)
                  rw [hρ] at e0
                  clear hJ hsame hdep hcl hρ hsz hb gd
                  go_simp
                · intro L a w' hL hsame hsz hJ hdep hcl
                  have gd : valOf _ 10 a = .bool true := hJ.valOf (by decide) (dep_of hdep 10 (by kernel_rfl)) rfl rfl
                  have hb := hJ.kept.toBelow (Nat.le_refl _) (by simp)
                  obtain ⟨A14, c14, hv14, ho14⟩ := (show (OwnS 3 nl (j64s SY)) (valOf _ 14 a) w' from hJ.predOf (by decide) (dep_of hdep 14 (by kernel_rfl)) rfl)
                  have e0 : a.eval (.tmp 77) = .slice A14 nl c14 := eval_slot (j := 14) (by kernel_rfl) hv14
                  have e1 : a.eval (.tmp 78) = (.slice (some ⟨gL, 0, none⟩) nl cl) := eval_slot (j := 15) (by kernel_rfl) (hJ.valOf (by decide) (dep_of hdep 15 (by kernel_rfl)) rfl rfl)
                  refine Step.call _ rfl rfl (wanted_some (g := 10) (b := true) rfl gd) 10 #[.slice A14 nl c14, .slice (some ⟨gL, 0, none⟩) nl cl] (fun ρ hρ => ?_) ?_
                  · skip
                    rw [hρ] at e0 e1
                    have ef : ρ (.func 10) = .func (.func 10) #[] #[] := (hρ _).symm
                    clear hJ hsame hdep hcl hρ hsz hb gd
                    go_simp
                  · refine (same64_is SY A14 (some ⟨gL, 0, none⟩) _ _ nl c14 nl cl _ (Seen.of_own ho14) (SL.out.below hb) (by have := LN2.out; omega)).mono ?_
                    rintro e w2 ⟨rfl, bb⟩
                    exact ⟨_, rfl, hJ.val hGS hcl hL rfl bb _ rfl⟩
                · intro L a w' hL hsame hsz hJ hdep hcl
                  have hb := hJ.kept.toBelow (Nat.le_refl _) (by simp)
                  have e0 : a.eval (.tmp 73) = (.bool true) := eval_slot (j := 10) (by kernel_rfl) (hJ.valOf (by decide) (dep_of hdep 10 (by kernel_rfl)) rfl rfl)
                  have e1 : a.eval (.tmp 79) = (.bool true) := eval_slot (j := 16) (by kernel_rfl) (hJ.valOf (by decide) (dep_of hdep 16 (by kernel_rfl)) rfl rfl)
                  refine Step.val _ rfl rfl (wanted_none rfl) (.bool true) w' (fun ρ hρ => ?_) (hJ.val hGS hcl hL rfl (Below.refl _ _) _ rfl)
                  rw [hρ] at e0 e1
                  have ec0 : ρ (.const (.bool false)) = (.bool false) := (hρ _).symm
                  clear hJ hsame hdep hcl hρ hsz hb
                  go_simp
                · intro L a w' hL hsame hsz hJ hdep hcl
                  have hb := hJ.kept.toBelow (Nat.le_refl _) (by simp)
                  have e0 : a.eval (.tmp 80) = (.bool true) := eval_slot (j := 17) (by kernel_rfl) (hJ.valOf (by decide) (dep_of hdep 17 (by kernel_rfl)) rfl rfl)
                  refine Step.val _ rfl rfl (wanted_none rfl) (.bool true) w' (fun ρ hρ => ?_) (hJ.val hGS hcl hL rfl (Below.refl _ _) _ rfl)
                  rw [hρ] at e0
                  clear hJ hsame hdep hcl hρ hsz hb
                  go_simp
                · intro L a w' hL hsame hsz hJ hdep hcl
                  have gd : valOf _ 18 a = .bool true := hJ.valOf (by decide) (dep_of hdep 18 (by kernel_rfl)) rfl rfl
                  have hb := hJ.kept.toBelow (Nat.le_refl _) (by simp)
                  refine Step.call _ rfl rfl (wanted_some (g := 18) (b := true) rfl gd) 3 #[] (fun ρ hρ => ?_) ?_
                  · skip
                    have ef : ρ (.func 3) = .func (.func 3) #[] #[] := (hρ _).symm
                    clear hJ hsame hdep hcl hρ hsz hb gd
                    go_simp
                  · refine (PRN.out _ (HT.out.keep (BW4.out.trans (hb.mono BW4.out.size)))).mono ?_
                    rintro e w2 ⟨rfl, bb⟩
                    exact ⟨_, rfl, hJ.val hGS hcl hL rfl bb _ rfl⟩
                · intro L a w' hL hsame hsz hJ hdep hcl
                  have hb := hJ.kept.toBelow (Nat.le_refl _) (by simp)
                  have e0 : a.eval (.tmp 81) = (.bool true) := eval_slot (j := 18) (by kernel_rfl) (hJ.valOf (by decide) (dep_of hdep 18 (by kernel_rfl)) rfl rfl)
                  have e1 : a.eval (.tmp 82) = (.bool true) := eval_slot (j := 19) (by kernel_rfl) (hJ.valOf (by decide) (dep_of hdep 19 (by kernel_rfl)) rfl rfl)
                  refine Step.val _ rfl rfl (wanted_none rfl) (.bool true) w' (fun ρ hρ => ?_) (hJ.val hGS hcl hL rfl (Below.refl _ _) _ rfl)
                  rw [hρ] at e0 e1
                  have ec0 : ρ (.const (.bool false)) = (.bool false) := (hρ _).symm
                  clear hJ hsame hdep hcl hρ hsz hb
                  go_simp
                · intro L a w' hL hsame hsz hJ hdep hcl
                  have hb := hJ.kept.toBelow (Nat.le_refl _) (by simp)
                  have e0 : a.eval (.tmp 83) = (.bool true) := eval_slot (j := 20) (by kernel_rfl) (hJ.valOf (by decide) (dep_of hdep 20 (by kernel_rfl)) rfl rfl)
                  refine Step.val _ rfl rfl (wanted_none rfl) (.bool true) w' (fun ρ hρ => ?_) (hJ.val hGS hcl hL rfl (Below.refl _ _) _ rfl)
                  rw [hρ] at e0
                  clear hJ hsame hdep hcl hρ hsz hb
                  go_simp
                · intro u w' hF
                  change Exit.then _ _ Exit.normal (Act.put (Act.put (Act.put (Act.put (Act.put (Act.put (Act.put (Act.put (Act.put (Act.put (Act.put (Act.put (Act.put (Act.put (Act.put (Act.put (Act.put (Act.put (Act.put (Act.put (Act.put (Act.put (putAll _ u 0 _) (some 63) (u 0)) (some 64) (u 1)) (some 65) (u 2)) (some 66) (u 3)) (some 67) (u 4)) (some 68) (u 5)) (some 69) (u 6)) (some 70) (u 7)) (some 71) (u 8)) (some 72) (u 9)) (some 73) (u 10)) (some 74) (u 11)) (some 75) (u 12)) (some 76) (u 13)) (some 77) (u 14)) (some 78) (u 15)) (some 79) (u 16)) (some 80) (u 17)) (some 81) (u 18)) (some 82) (u 19)) (some 83) (u 20)) (some 4) (u 21)) _
                  simp only [putAll]
                  have f : u 21 = .bool true := hF.fin0 (j := 21) (by decide) rfl rfl
                  have hk := hF.kept.toBelow (Nat.le_refl _) (by simp)
                  clear hF
                  generalize u 0 = z0
                  generalize u 1 = z1
                  generalize u 2 = z2
                  generalize u 3 = z3
                  generalize u 4 = z4
                  generalize u 5 = z5
                  generalize u 6 = z6
                  generalize u 7 = z7
                  generalize u 8 = z8
                  generalize u 9 = z9
                  generalize u 10 = z10
                  generalize u 11 = z11
                  generalize u 12 = z12
                  generalize u 13 = z13
                  generalize u 14 = z14
                  generalize u 15 = z15
                  generalize u 16 = z16
                  generalize u 17 = z17
                  generalize u 18 = z18
                  generalize u 19 = z19
                  generalize u 20 = z20
                  generalize u 21 = z21 at f ⊢
                  go_simp
                  go_step
                  go_meet
                  exact ⟨by first | rfl | exact f, BW4.out.trans (hk.mono BW4.out.size)⟩
            case rest =>
              obtain ⟨rfl, b9⟩ := hcut
              go_wp2_with fail
              go_ret
              exact ⟨rfl, b9⟩
theorem penSaid_any (a0 a1 a2 b0 b1 b2 : Int) (w : World) (h0 : (Lit.int .i64 a0).wf = true) (h1 : (Lit.int .i64 a1).wf = true) (h2 : (Lit.int .i64 a2).wf = true) (k0 : (Lit.int .i64 b0).wf = true) (k1 : (Lit.int .i64 b1).wf = true) (k2 : (Lit.int .i64 b2).wf = true) (hFT : FlagT w) :
    Calls Tryd.prog 5 #[.agg #[.int .i64 a0, .int .i64 a1, .int .i64 a2], .agg #[.int .i64 b0, .int .i64 b1, .int .i64 b2]] w fun e w' => e = .returned (.bool true) ∧ Below w.heap.size w w' := by
  have e1 : a2 % 256 = (((a2 % 256).toNat : Nat) : Int) := by omega
  have e2 : b2 % 256 = (((b2 % 256).toNat : Nat) : Int) := by omega
  have K1 := pen_given10 h0 h1 h2
  have K2 := pen_given10 k0 k1 k2
  rw [e1] at K1
  rw [e2] at K2
  exact penSaid_t a0 a1 a2 b0 b1 b2 _ _ _ _ _ _ _ _ _ _ _ w (pr_given a0 a1 a2) (pr_given b0 b1 b2) rfl rfl rfl rfl rfl hFT (hide penRuns_any) K1 K2
end Go.Proofs.YtnjkongbccblaaaDoor
