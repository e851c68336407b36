/- GridRuns: chapter 7's run, a closed sentence. -/
import Derived.Test.YtfeapcneebofjaaDoorGridVar
import Derived.Deep.DeepCutAuto
import Derived.Deep.CutBlock
import Derived.Deep.RegionHeld3
set_option maxRecDepth 100000
namespace Go.Proofs.YtfeapcneebofjaaDoor
open Go.RowKit
set_option linter.unusedVariables false
namespace PG
/-- chapter 7's run -/
def runG : Gr := (putI (putI (newG 1 4 plain) 0 0 19968 plain) 0 1 120 plain)
theorem runG_f {j : Nat} (hj : j < 4) : runG.f 0 j = if j = 1 then (120, 0, plain) else blank plain := by
  have hat := fun j => wide_at (n := 4) (k := 0) (p := plain) (q := plain) (x := 19968) (width_han (by omega) (by omega)) (by omega) j
  have e2 : (putI (newG 1 4 plain) 0 0 19968 plain) = putG (newG 1 4 plain) 0 0 19968 plain := putI_in rfl rfl
  have e3 : runG = putG (putG (newG 1 4 plain) 0 0 19968 plain) 0 1 120 plain := by
    unfold runG
    rw [e2]
    exact putI_in rfl rfl
  have hs := put_size (newG 1 4 plain) 0 0 19968 plain
  rw [e3]
  generalize putG (newG 1 4 plain) 0 0 19968 plain = g at hat hs ⊢
  unfold putG
  rw [width_ascii (x := 120) (by omega) (by omega), if_pos ⟨by rw [hs.1]; decide, by omega, by rw [hs.2]; decide⟩]
  simp only [if_true]
  obtain rfl | rfl | rfl | rfl : j = 0 ∨ j = 1 ∨ j = 2 ∨ j = 3 := by omega
  all_goals simp [putRow, hat, kd, pn, blank]
theorem right_run : RightG runG := right_putI (right_putI (right_newG plain_ok (by omega) (by omega) (by omega) (by omega)) plain_ok _ _ _) plain_ok _ _ _
theorem run_size : runG.rows = 1 ∧ runG.cols = 4 := ⟨(putI_size ..).1.trans (putI_size ..).1, (putI_size ..).2.trans (putI_size ..).2⟩
theorem run_text : text (runG.f 0) 4 = [32, 120, 32, 32] := by
  have e : runes (runG.f 0) 4 = runes (fun j => if j = 1 then (120, 0, plain) else blank plain) 4 := runes_congr fun j hj => runG_f hj
  unfold text
  rw [e]
  decide
end PG
set_option maxHeartbeats 4000000 in
theorem gridRuns_any (w : World) (hs : Spans w) : Calls Tryd.prog 3 #[] w fun e w' => e = .returned (.bool true) ∧ Below w.heap.size w w' := by
  have HS := hide hs
  clear hs
  go_enter Tryd.func3, Tryd.ntmps3
  go_upto_region 2 with fail
  have bb := (Below.refl w.heap.size w).alloc (Nat.le_refl _) (.cells #[.int .i64 (-1), .int .i64 (-1), .int .i64 0] 23)
  have hb := Box.new w 23 #[.int .i64 (-1), .int .i64 (-1), .int .i64 0]
  generalize w.alloc (.cells #[.int .i64 (-1), .int .i64 (-1), .int .i64 0] 23) = w1 at bb hb ⊢
  obtain ⟨g1, hg1⟩ : ∃ g, w.heap.size = g := ⟨_, rfl⟩
  have HB0 := hide (HS.out.below bb HS.out.lt)
  have HSL := hide (show 0 < g1 from hg1 ▸ HS.out.lt)
  have B1 := hide bb
  have SP := hide (fun (w' : World) (k : Kept [] w1 w') => HB0.out.keptS k (by simp))
  rw [hg1] at hb ⊢
  have HB := hide hb
  have hg1 := hide hg1
  clear bb hb HB0 HSL
  go_cut [2] (fun u wx => GVar w1.heap.size PG.runG u wx ∧ Below w1.heap.size w1 wx)
  case first =>
    refine wp_region_rj (n := 31) [] (fun _ => #[]) [(0, 0, 0, 0), (1, 0, 0, 0), (0, 0, 0, 0), (1, 0, 0, 0), (0, 0, 0, 0), (1, 0, 0, 0), (2, 0, 0, 26), (3, 6, 5, 26)] (fun j => [(.agg #[.int .i64 (-1), .int .i64 (-1), .int .i64 0]), undef, (.agg #[.int .i64 (-1), .int .i64 (-1), .int .i64 0]), undef, (.agg #[.int .i64 (-1), .int .i64 (-1), .int .i64 0]), undef, undef, undef].getD j undef) (fun j => [PG.dflt, (PG.newG 1 4 PG.plain), PG.dflt, (PG.putI (PG.newG 1 4 PG.plain) 0 0 19968 PG.plain), PG.dflt, (PG.putI (PG.putI (PG.newG 1 4 PG.plain) 0 0 19968 PG.plain) 0 1 120 PG.plain), PG.dflt, PG.dflt].getD j PG.dflt) (fun _ => 0) (by kernel_rfl) (by kernel_rfl) (by kernel_rfl) rfl (by kernel_rfl) (no4 rfl) (fun i j h => by revert h; exact no4 (p := fun _ => _) rfl i) (fun hRS => cases8 ⟨?_, ?_, ?_, ?_, ?_, ?_, ?_, ?_⟩) ?_
    · intro L a w' hL hsame hsz hJ hdep hcl
      have e0 : a.eval (.tmp 1) = (.pointer (some ⟨g1, 0, none⟩)) := eval_base hsame (by kernel_rfl)
      have hb := hJ.keptBox HB.out (by simp)
      have q0 : w'.cell? ⟨g1, 0, none⟩ = some (.int .i64 (-1)) := hb.cell 0
      have q1 : w'.cell? ⟨g1, 1, none⟩ = some (.int .i64 (-1)) := hb.cell 1
      have q2 : w'.cell? ⟨g1, 2, none⟩ = some (.int .i64 0) := hb.cell 2
      refine Step.val _ rfl rfl (wanted_none rfl) (.agg #[.int .i64 (-1), .int .i64 (-1), .int .i64 0]) w' (fun ρ hρ => ?_) (hJ.val hRS hcl hL rfl (Below.refl _ _) _ rfl)
      rw [hρ] at e0
      clear hb
      clear hJ hsame hdep hcl hρ hsz
      go_simp
    · intro L a w' hL hsame hsz hJ hdep hcl
      have e2 : a.eval (.tmp 4) = (.agg #[.int .i64 (-1), .int .i64 (-1), .int .i64 0]) := eval_slot (j := 0) (by kernel_rfl) (hJ.valOf (by decide) (dep_of hdep 0 (by kernel_rfl)) rfl rfl)
      refine Step.call _ rfl rfl (wanted_none rfl) 9 #[.int .i64 1, .int .i64 4, .agg #[.int .i64 (-1), .int .i64 (-1), .int .i64 0]] (fun ρ hρ => ?_) ?_
      · skip
        rw [hρ] at e2
        have ec0 : ρ (.const (.int .i64 1)) = (.int .i64 1) := (hρ _).symm
        have ec1 : ρ (.const (.int .i64 4)) = (.int .i64 4) := (hρ _).symm
        have ef : ρ (.func 9) = .func (.func 9) #[] #[] := (hρ _).symm
        clear hJ hsame hdep hcl hρ hsz
        go_simp
      · refine (u_new 1 4 PG.plain w' (by omega) (by omega) (by omega) (by omega)).mono ?_
        rintro e w2 ⟨v, rfl, hg, bb⟩
        exact ⟨v, rfl, hJ.grid hRS hcl hL rfl bb v hg⟩
    · intro L a w' hL hsame hsz hJ hdep hcl
      have e0 : a.eval (.tmp 1) = (.pointer (some ⟨g1, 0, none⟩)) := eval_base hsame (by kernel_rfl)
      have hb := hJ.keptBox HB.out (by simp)
      have q0 : w'.cell? ⟨g1, 0, none⟩ = some (.int .i64 (-1)) := hb.cell 0
      have q1 : w'.cell? ⟨g1, 1, none⟩ = some (.int .i64 (-1)) := hb.cell 1
      have q2 : w'.cell? ⟨g1, 2, none⟩ = some (.int .i64 0) := hb.cell 2
      refine Step.val _ rfl rfl (wanted_none rfl) (.agg #[.int .i64 (-1), .int .i64 (-1), .int .i64 0]) w' (fun ρ hρ => ?_) (hJ.val hRS hcl hL rfl (Below.refl _ _) _ rfl)
      rw [hρ] at e0
      clear hb
      clear hJ hsame hdep hcl hρ hsz
      go_simp
    · intro L a w' hL hsame hsz hJ hdep hcl
      obtain ⟨v1, hv1, hG1⟩ := hJ.gridAt (j := 1) (by decide) (dep_of hdep 1 (by kernel_rfl)) rfl
      have hG1 : IsG w' (PG.newG 1 4 PG.plain) v1 := hG1
      have e0 : a.eval (.tmp 5) = v1 := eval_slot (j := 1) (by kernel_rfl) hv1
      have e4 : a.eval (.tmp 6) = (.agg #[.int .i64 (-1), .int .i64 (-1), .int .i64 0]) := eval_slot (j := 2) (by kernel_rfl) (hJ.valOf (by decide) (dep_of hdep 2 (by kernel_rfl)) rfl rfl)
      refine Step.call _ rfl rfl (wanted_none rfl) 8 #[v1, .int .i64 0, .int .i64 0, .int .i32 19968, .agg #[.int .i64 (-1), .int .i64 (-1), .int .i64 0]] (fun ρ hρ => ?_) ?_
      · skip
        rw [hρ] at e0 e4
        have ec0 : ρ (.const (.int .i64 0)) = (.int .i64 0) := (hρ _).symm
        have ec1 : ρ (.const (.int .i32 19968)) = (.int .i32 19968) := (hρ _).symm
        have ef : ρ (.func 8) = .func (.func 8) #[] #[] := (hρ _).symm
        clear hJ hsame hdep hcl hρ hsz
        go_simp
      · refine (u_put (PG.right_newG PG.plain_ok (by omega) (by omega) (by omega) (by omega)) hG1 0 0 19968 PG.plain (by omega) (by omega) (by omega) (by omega) (SP.out w' hJ.kept)).mono ?_
        rintro e w2 ⟨v, rfl, hg, bb⟩
        exact ⟨v, rfl, hJ.grid hRS hcl hL rfl bb v hg⟩
    · intro L a w' hL hsame hsz hJ hdep hcl
      have e0 : a.eval (.tmp 1) = (.pointer (some ⟨g1, 0, none⟩)) := eval_base hsame (by kernel_rfl)
      have hb := hJ.keptBox HB.out (by simp)
      have q0 : w'.cell? ⟨g1, 0, none⟩ = some (.int .i64 (-1)) := hb.cell 0
      have q1 : w'.cell? ⟨g1, 1, none⟩ = some (.int .i64 (-1)) := hb.cell 1
      have q2 : w'.cell? ⟨g1, 2, none⟩ = some (.int .i64 0) := hb.cell 2
      refine Step.val _ rfl rfl (wanted_none rfl) (.agg #[.int .i64 (-1), .int .i64 (-1), .int .i64 0]) w' (fun ρ hρ => ?_) (hJ.val hRS hcl hL rfl (Below.refl _ _) _ rfl)
      rw [hρ] at e0
      clear hb
      clear hJ hsame hdep hcl hρ hsz
      go_simp
    · intro L a w' hL hsame hsz hJ hdep hcl
      obtain ⟨v3, hv3, hG3⟩ := hJ.gridAt (j := 3) (by decide) (dep_of hdep 3 (by kernel_rfl)) rfl
      have hG3 : IsG w' (PG.putI (PG.newG 1 4 PG.plain) 0 0 19968 PG.plain) v3 := hG3
      have e0 : a.eval (.tmp 7) = v3 := eval_slot (j := 3) (by kernel_rfl) hv3
      have e4 : a.eval (.tmp 8) = (.agg #[.int .i64 (-1), .int .i64 (-1), .int .i64 0]) := eval_slot (j := 4) (by kernel_rfl) (hJ.valOf (by decide) (dep_of hdep 4 (by kernel_rfl)) rfl rfl)
      refine Step.call _ rfl rfl (wanted_none rfl) 8 #[v3, .int .i64 0, .int .i64 1, .int .i32 120, .agg #[.int .i64 (-1), .int .i64 (-1), .int .i64 0]] (fun ρ hρ => ?_) ?_
      · skip
        rw [hρ] at e0 e4
        have ec0 : ρ (.const (.int .i64 0)) = (.int .i64 0) := (hρ _).symm
        have ec1 : ρ (.const (.int .i64 1)) = (.int .i64 1) := (hρ _).symm
        have ec2 : ρ (.const (.int .i32 120)) = (.int .i32 120) := (hρ _).symm
        have ef : ρ (.func 8) = .func (.func 8) #[] #[] := (hρ _).symm
        clear hJ hsame hdep hcl hρ hsz
        go_simp
      · refine (u_put (PG.right_putI (PG.right_newG PG.plain_ok (by omega) (by omega) (by omega) (by omega)) PG.plain_ok _ _ _) hG3 0 1 120 PG.plain (by omega) (by omega) (by omega) (by omega) (SP.out w' hJ.kept)).mono ?_
        rintro e w2 ⟨v, rfl, hg, bb⟩
        exact ⟨v, rfl, hJ.grid hRS hcl hL rfl bb v hg⟩
    · intro L a w' hL hsame hsz hJ hdep hcl
      refine Step.val _ rfl rfl (wanted_none rfl) (.pointer (some ⟨w'.heap.size, 0, none⟩)) (w'.alloc (.cells #[.int .i64 0, .int .i64 0, .slice none 0 0] 26)) (fun ρ hρ => ?_) (hJ.box hRS hcl hL rfl 26 rfl (.int .i64 0) (.int .i64 0) (.slice none 0 0))
      clear hJ hsame hdep hcl hρ hsz
      go_simp
    · intro L a w' hL hsame hsz hJ hdep hcl
      obtain ⟨sv, hsv, hso⟩ := hJ.gridOf (by decide) (dep_of hdep 5 (by kernel_rfl)) rfl
      obtain ⟨sA, sc, rfl, _⟩ := own_form' hso
      have es : a.eval (.tmp 9) = .agg #[.int .i64 ((PG.putI (PG.putI (PG.newG 1 4 PG.plain) 0 0 19968 PG.plain) 0 1 120 PG.plain)).rows, .int .i64 ((PG.putI (PG.putI (PG.newG 1 4 PG.plain) 0 0 19968 PG.plain) 0 1 120 PG.plain)).cols, .slice sA (((PG.putI (PG.putI (PG.newG 1 4 PG.plain) 0 0 19968 PG.plain) 0 1 120 PG.plain)).rows * ((PG.putI (PG.putI (PG.newG 1 4 PG.plain) 0 0 19968 PG.plain) 0 1 120 PG.plain)).cols) sc] := eval_slot (j := 5) (by kernel_rfl) hsv
      have la := dep_of hdep 6 (by kernel_rfl)
      obtain ⟨g, cs, hg, hg0, hb, hs3⟩ := hJ.boxOf (by decide) la rfl
      obtain ⟨c0, c1, c2, rfl⟩ := three_of hs3
      obtain ⟨m0, m1, m2, f0, f1, f2⟩ := hb.three
      have ea : a.eval (.tmp 2) = .pointer (some ⟨g, 0, none⟩) := eval_slot (j := 6) (by kernel_rfl) hg
      refine Step.skip _ rfl (wanted_none rfl) (set3 w' g (.int .i64 ((PG.putI (PG.putI (PG.newG 1 4 PG.plain) 0 0 19968 PG.plain) 0 1 120 PG.plain)).rows) (.int .i64 ((PG.putI (PG.putI (PG.newG 1 4 PG.plain) 0 0 19968 PG.plain) 0 1 120 PG.plain)).cols) (.slice sA (((PG.putI (PG.putI (PG.newG 1 4 PG.plain) 0 0 19968 PG.plain) 0 1 120 PG.plain)).rows * ((PG.putI (PG.putI (PG.newG 1 4 PG.plain) 0 0 19968 PG.plain) 0 1 120 PG.plain)).cols) sc)) (fun ρ hρ => ?_) (hJ.put hRS hcl hL rfl la (dep_of hdep 5 (by kernel_rfl)) hg hsv)
      rw [hρ] at es ea
      clear hJ hsame hdep hcl hρ hsz hg hb hso hsv
      unfold set3
      go_simp
    · intro L a w' hsame hsz hJ hall
      obtain ⟨u, hu, ha⟩ := act_puts hsame
      have h : GVar w1.heap.size PG.runG (u 6) w' ∧ Below w1.heap.size w1 w' := by
        (try simp only [hu])
        exact (And.intro (hJ.var hall 7 (by decide) rfl rfl (by decide) rfl (by decide) rfl) (hJ.kept.toBelow (Nat.le_refl _) (by simp)))
      have h := hide h
      clear hJ hall hsz hu hsame
      subst ha
      change Exit.then _ _ Exit.normal (Act.put (Act.put (Act.put (Act.put (Act.put (Act.put (Act.put (Act.put (putAll _ u 0 _) (some 4) (u 0)) (some 5) (u 1)) (some 6) (u 2)) (some 7) (u 3)) (some 8) (u 4)) (some 9) (u 5)) (some 2) (u 6)) none (u 7)) _
      simp only [putAll]
      generalize u 0 = v0
      generalize u 1 = v1
      generalize u 2 = v2
      generalize u 3 = v3
      generalize u 4 = v4
      generalize u 5 = v5
      generalize u 6 = v6 at h ⊢
      generalize u 7 = v7
      go_simp
      go_step
      go_meet
      exact h.out
  case rest =>
    obtain ⟨⟨gb, rfl, hgb, hgx⟩, bw⟩ := hcut
    obtain ⟨A, c, hbx, hl, h1, h2, hig⟩ := hgx.open_ PG.run_size.1 PG.run_size.2
    have hc1 := PG.cells_at PG.runG (r := 0) (c := 1) (by rw [PG.run_size.1]; omega) (by rw [PG.run_size.2]; omega)
    rw [PG.run_size.2, PG.runG_f (by omega), if_pos rfl] at hc1
    obtain ⟨ad, rfl, hadB, _⟩ := hl.at_ hc1
    have HT := hide (fun w' (b : Below wc.heap.size wc w') => u_text PG.right_run (hig.low b) 0 (by rw [PG.run_size.1]; omega))
    have HR := hide (fun w' (b : Below wc.heap.size wc w') => u_right PG.right_run (hig.low b) (((HS.out.keep B1.out).keep bw).keep b))
    have BW := hide (B1.out.trans (bw.mono B1.out.size))
    have hbx := hide hbx
    have hl := hide hl
    have hc1 := hide hc1
    have hgb := hide (hbx.out.lt)
    clear hgx bw HS SP HB hig hg1 B1
    rw [PG.run_size.2, PG.run_text] at HT
    unfold gv at HT HR
    obtain ⟨m0, m1, m2, f0, f1, f2⟩ := hbx.out.three
    have hst : (strOfNums [32, 120, 32, 32]).toList = [32, 120, 32, 32] := by kernel_rfl
    go_wp2_with (
      first
        | (go_at_call 10
           go_must (refine (HT.out _ (Below.refl _ _)).mono ?_)
           rintro e w2 ⟨rfl, b2⟩
           have b2 := hide b2
           clear m0 m1 m2 f0 f1 f2
           obtain ⟨m0, m1, m2, f0, f1, f2⟩ := (hbx.out.below b2.out hgb.out).three)
        | (go_at_call 11
           go_must (refine (HR.out _ b2.out).mono ?_)
           rintro e w3 ⟨rfl, b3⟩
           have b3 := hide (b2.out.trans (b3.mono b2.out.size))
           obtain ⟨ad', e1, _, d0, _⟩ := (hl.out.below b3.out).five hc1.out
           injection e1 with e1
           subst e1
           have d0 : w3.cell? ⟨ad.block, ad.off + 5, none⟩ = some (.int .i32 120) := d0
           clear m0 m1 m2 f0 f1 f2
           obtain ⟨m0, m1, m2, f0, f1, f2⟩ := (hbx.out.below b3.out hgb.out).three))
    go_ret
    exact ⟨rfl, BW.out.trans (b3.out.mono BW.out.size)⟩
end Go.Proofs.YtfeapcneebofjaaDoor
