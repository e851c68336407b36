/- GridPlays: any calls: all cells, each time; the grid is right; what was handed in stays. -/
import Derived.Test.YtfeapcneebofjaaDoorGridRuns
import Derived.Test.YtfeapcneebofjaaDoorGridPlaysP
import Derived.Test.YtfeapcneebofjaaDoorKeepPen
import Derived.Test.YtfeapcneebofjaaDoorGridVar
import Derived.Test.YtfeapcneebofjaaDoorArgs
set_option maxRecDepth 100000
namespace Go.Proofs.YtfeapcneebofjaaDoor
open Go.RowKit
set_option linter.unusedVariables false
theorem hsum_succ {K : Nat} (h : K ≤ 10) : IntKind.i64.wrap ((K : Int) + 1) = (K : Int) + 1 := by rw [IntWalk.i64_in _ (by omega)]
theorem hsum_two {K : Nat} (h : K ≤ 10) : wrap64 ((K : Int) + 2) = (K : Int) + 2 := by unfold wrap64; omega
theorem wrap_succ30 {c : Nat} (h : c < 30) : wrap64 ((c : Int) + 1) = (c : Int) + 1 := by unfold wrap64; omega
theorem meas30 {k n : Nat} (h : k < n) : n - (intOf (.int .i64 ((k : Int) + 1))).toNat < n - (intOf (.int .i64 (k : Int))).toNat := by
  show n - ((k : Int) + 1).toNat < n - (k : Int).toNat
  omega
theorem within_ex (z : Int) {lo hi : Int} (h : lo ≤ hi) : ∃ v : Int, lo + z % (hi - lo + 1) = v ∧ lo ≤ v ∧ v ≤ hi := by
  have h1 := Int.emod_nonneg z (show hi - lo + 1 ≠ 0 by omega)
  have h2 := Int.emod_lt_of_pos z (show (0 : Int) < hi - lo + 1 by omega)
  exact ⟨_, rfl, by omega, by omega⟩
theorem within_nat (z : Int) {hi : Nat} (h : 1 ≤ hi) : ∃ v : Nat, 1 + z % ((hi : Int) - 1 + 1) = (v : Int) ∧ 1 ≤ v ∧ v ≤ hi := by
  obtain ⟨v, h1, h2, h3⟩ := within_ex z (lo := 1) (hi := hi) (by omega)
  exact ⟨v.toNat, by omega, by omega, by omega⟩
theorem mul_place {i R j K : Nat} (hi : i < R) (hR : R ≤ 6) (hj : j < K) (hK : K ≤ 10) : IntKind.i64.wrap ((i : Int) * (K : Int)) = ((i * K : Nat) : Int) ∧ IntKind.i64.wrap (((i * K : Nat) : Int) + (j : Int)) = ((i * K + j : Nat) : Int) ∧ i * K + j < R * K ∧ i * K + j ≤ 60 := by
  have h1 : i * K ≤ 5 * 10 := Nat.mul_le_mul (by omega) hK
  have h2 : i * K + j < R * K := by
    have : (i + 1) * K ≤ R * K := Nat.mul_le_mul_right _ hi
    rw [Nat.succ_mul] at this
    omega
  refine ⟨?_, ?_, h2, by omega⟩
  · rw [← Int.natCast_mul, IntWalk.i64_in _ (by omega)]
  · rw [IntWalk.i64_in _ (by omega)]
    omega
set_option maxHeartbeats 32000000 in
theorem gridPlays_core (z0 z1 a0 a1 a2 : Int) (A : Option Addr) (n cc : Nat) (w : World)
    (hz0 : -9223372036854775808 ≤ z0 ∧ z0 ≤ 9223372036854775807) (hz1 : -9223372036854775808 ≤ z1 ∧ z1 ≤ 9223372036854775807)
    (ha0 : -9223372036854775808 ≤ a0 ∧ a0 ≤ 9223372036854775807) (ha1 : -9223372036854775808 ≤ a1 ∧ a1 ≤ 9223372036854775807) (ha2 : -9223372036854775808 ≤ a2 ∧ a2 ≤ 9223372036854775807)
    (hQ : QArgs w A n) (hn : n ≤ maxLen) (hs : Spans w) :
    Calls Tryd.prog 4 #[.int .i64 z0, .int .i64 z1, .agg #[.int .i64 a0, .int .i64 a1, .int .i64 a2], .slice A n cc] w fun e w' => e = .returned (.bool true) ∧ Below w.heap.size w w' := by
  have hP := C.kpen_right a0 a1 a2
  have K1 := hide (fun w' => keepPen_any a0 a1 a2 w' ha0.1 ha0.2 ha1.1 ha1.2 ha2.1 ha2.2)
  generalize C.kcol a0 = pa at hP K1
  generalize C.kcol a1 = pb at hP K1
  generalize a2 % 256 = pc at hP K1
  obtain ⟨R0, hR0, hR1, hR2⟩ := within_nat z0 (hi := 5) (by omega)
  obtain ⟨K0, hK0, hK1, hK2⟩ := within_nat z1 (hi := 9) (by omega)
  obtain ⟨ans, han5, han9⟩ : ∃ f : Int → Int, f 5 = (R0 : Int) ∧ f 9 = (K0 : Int) := ⟨fun h => if h = 5 then R0 else K0, by simp, by simp⟩
  have KK := hide (show ∀ (z hi : Int) (w' : World), ((z = z0 ∧ hi = 5) ∨ (z = z1 ∧ hi = 9)) → Calls Tryd.prog 12 #[.int .i64 z, .int .i64 1, .int .i64 hi] w' fun e w'' => e = .returned (.int .i64 (ans hi)) ∧ w' = w'' from by
    rintro z hi w' (⟨rfl, rfl⟩ | ⟨rfl, rfl⟩)
    · rw [han5]
      exact within_is z 1 5 _ hR0 w' hz0.1 hz0.2 (by omega) (by omega) (by omega)
    · rw [han9]
      exact within_is z 1 9 _ hK0 w' hz1.1 hz1.2 (by omega) (by omega) (by omega))
  have HAN := hide (And.intro han5 han9)
  have HK := hide (show 1 ≤ R0 ∧ R0 ≤ 5 ∧ 1 ≤ K0 ∧ K0 ≤ 9 from ⟨hR1, hR2, hK1, hK2⟩)
  have hP : PG.okPen (pa, pb, pc) := hP
  have HP := hide hP
  have SP := hide hs
  have HQ := hide hQ
  have HN := hide hn
  clear ha0 ha1 ha2 hz0 hz1 hR0 hK0 hR1 hR2 hK1 hK2 han5 han9 hs hP hQ hn
  go_enter Tryd.func4, Tryd.ntmps4
  go_upto_region 1 with fail
  have bX := Box.new w 34 #[.int .i64 a0, .int .i64 a1, .int .i64 a2]
  have bb : Below w.heap.size w (w.alloc (.cells #[.int .i64 a0, .int .i64 a1, .int .i64 a2] 34)) := (Below.refl _ _).alloc (Nat.le_refl _) _
  generalize w.alloc (.cells #[.int .i64 a0, .int .i64 a1, .int .i64 a2] 34) = wc at bX bb ⊢
  obtain ⟨gX, hgX⟩ : ∃ g, w.heap.size = g := ⟨_, rfl⟩
  have BX := hide bX
  have BB := hide bb
  have SP := hide (SP.out.keep bb)
  have HQ := hide (HQ.out.below (Nat.le_refl _) bb)
  rw [hgX] at BX ⊢
  clear bX bb hgX
  go_cut [9, 10] (fun u v wx => (u = .int .i64 R0 ∧ v = .int .i64 K0) ∧ wx = wc)
  case first =>
    as_aux_lemma =>
      go_wp2_with (
        go_at_call 12
        go_must (refine (KK.out _ _ _ ?_).mono ?_)
        (first | exact .inl ⟨rfl, rfl⟩ | exact .inr ⟨rfl, rfl⟩)
        rintro e w' ⟨rfl, rfl⟩)
      go_meet
      exact ⟨⟨by rw [HAN.out.1], by rw [HAN.out.2]⟩, rfl⟩
  obtain ⟨⟨rfl, rfl⟩, rfl⟩ := hcut
  clear KK HAN
  rename World => w2
  go_upto_region 2 with fail
  go_cut [11, 12] (fun u11 u12 wx => ((GVar w2.heap.size (PG.newG R0 K0 (pa, pb, pc)) u11 wx ∧ GVar w2.heap.size (PG.newG R0 K0 (pa, pb, pc)) u12 wx) ∧ u11 ≠ u12) ∧ Below w2.heap.size w2 wx)
  case first =>
    as_aux_lemma =>
      refine wp_region_rj (n := 201) [] (fun _ => #[]) [(0, 0, 0, 0), (0, 0, 0, 0), (0, 0, 0, 0), (0, 0, 0, 0), (1, 0, 0, 0), (0, 0, 0, 0), (0, 0, 0, 0), (0, 0, 0, 0), (0, 0, 0, 0), (1, 0, 0, 0), (2, 0, 0, 26), (2, 0, 0, 26), (3, 10, 4, 26), (3, 11, 9, 26)] (fun j => [(.int .i64 R0), (.int .i64 K0), (.agg #[.int .i64 a0, .int .i64 a1, .int .i64 a2]), (.agg #[.int .i64 pa, .int .i64 pb, .int .i64 pc]), undef, (.int .i64 R0), (.int .i64 K0), (.agg #[.int .i64 a0, .int .i64 a1, .int .i64 a2]), (.agg #[.int .i64 pa, .int .i64 pb, .int .i64 pc]), undef, undef, undef, undef, undef].getD j undef) (fun j => [PG.dflt, PG.dflt, PG.dflt, PG.dflt, (PG.newG R0 K0 (pa, pb, pc)), PG.dflt, PG.dflt, PG.dflt, PG.dflt, (PG.newG R0 K0 (pa, pb, pc)), PG.dflt, PG.dflt, PG.dflt, PG.dflt].getD j PG.dflt) (fun _ => 0) (by kernel_rfl) (by kernel_rfl) (by kernel_rfl) rfl (by kernel_rfl) (no4 rfl) (fun i j h => by revert h; exact no4 (p := fun _ => _) rfl i) (fun hRS => cases14 ⟨?_, ?_, ?_, ?_, ?_, ?_, ?_, ?_, ?_, ?_, ?_, ?_, ?_, ?_⟩) ?_
      · intro L a w' hL hsame hsz hJ hdep hcl
        have e0 : a.eval (.tmp 9) = (.int .i64 R0) := eval_base hsame (by kernel_rfl)
        refine Step.val _ rfl rfl (wanted_none rfl) (.int .i64 R0) w' (fun ρ hρ => ?_) (hJ.val hRS hcl hL rfl (Below.refl _ _) _ rfl)
        rw [hρ] at e0
        clear hJ hsame hdep hcl hρ hsz
        go_simp
      · intro L a w' hL hsame hsz hJ hdep hcl
        have e0 : a.eval (.tmp 10) = (.int .i64 K0) := eval_base hsame (by kernel_rfl)
        refine Step.val _ rfl rfl (wanted_none rfl) (.int .i64 K0) w' (fun ρ hρ => ?_) (hJ.val hRS hcl hL rfl (Below.refl _ _) _ rfl)
        rw [hρ] at e0
        clear hJ hsame hdep hcl hρ hsz
        go_simp
      · intro L a w' hL hsame hsz hJ hdep hcl
        have e0 : a.eval (.tmp 6) = (.pointer (some ⟨gX, 0, none⟩)) := eval_base hsame (by kernel_rfl)
        have hb := hJ.keptBox BX.out (by simp)
        have q0 : w'.cell? ⟨gX, 0, none⟩ = some (.int .i64 a0) := hb.cell 0
        have q1 : w'.cell? ⟨gX, 1, none⟩ = some (.int .i64 a1) := hb.cell 1
        have q2 : w'.cell? ⟨gX, 2, none⟩ = some (.int .i64 a2) := hb.cell 2
        refine Step.val _ rfl rfl (wanted_none rfl) (.agg #[.int .i64 a0, .int .i64 a1, .int .i64 a2]) w' (fun ρ hρ => ?_) (hJ.val hRS hcl hL rfl (Below.refl _ _) _ rfl)
        rw [hρ] at e0
        clear hb
        clear hJ hsame hdep hcl hρ hsz
        go_simp
      · intro L a w' hL hsame hsz hJ hdep hcl
        have e0 : a.eval (.tmp 31) = (.agg #[.int .i64 a0, .int .i64 a1, .int .i64 a2]) := eval_slot (j := 2) (by kernel_rfl) (hJ.valOf (by decide) (dep_of hdep 2 (by kernel_rfl)) rfl rfl)
        refine Step.call _ rfl rfl (wanted_none rfl) 13 #[.agg #[.int .i64 a0, .int .i64 a1, .int .i64 a2]] (fun ρ hρ => ?_) ?_
        · skip
          rw [hρ] at e0
          have ef : ρ (.func 13) = .func (.func 13) #[] #[] := (hρ _).symm
          clear hJ hsame hdep hcl hρ hsz
          go_simp
        · refine (K1.out w').mono ?_
          rintro e w2 ⟨rfl, bb⟩
          exact ⟨_, rfl, hJ.val hRS hcl hL rfl bb _ rfl⟩
      · intro L a w' hL hsame hsz hJ hdep hcl
        have e0 : a.eval (.tmp 29) = (.int .i64 R0) := eval_slot (j := 0) (by kernel_rfl) (hJ.valOf (by decide) (dep_of hdep 0 (by kernel_rfl)) rfl rfl)
        have e1 : a.eval (.tmp 30) = (.int .i64 K0) := eval_slot (j := 1) (by kernel_rfl) (hJ.valOf (by decide) (dep_of hdep 1 (by kernel_rfl)) rfl rfl)
        have e2 : a.eval (.tmp 32) = (.agg #[.int .i64 pa, .int .i64 pb, .int .i64 pc]) := eval_slot (j := 3) (by kernel_rfl) (hJ.valOf (by decide) (dep_of hdep 3 (by kernel_rfl)) rfl rfl)
        refine Step.call _ rfl rfl (wanted_none rfl) 9 #[.int .i64 R0, .int .i64 K0, .agg #[.int .i64 pa, .int .i64 pb, .int .i64 pc]] (fun ρ hρ => ?_) ?_
        · skip
          rw [hρ] at e0 e1 e2
          have ef : ρ (.func 9) = .func (.func 9) #[] #[] := (hρ _).symm
          clear hJ hsame hdep hcl hρ hsz
          go_simp
        · refine (u_new R0 K0 (pa, pb, pc) w' (by have := HK.out; omega) (by have := HK.out; omega) (by have := HK.out; omega) (by have := HK.out; omega)).mono ?_
          rintro e w2 ⟨v, rfl, hg, bb⟩
          exact ⟨v, rfl, hJ.grid hRS hcl hL rfl bb v hg⟩
      · intro L a w' hL hsame hsz hJ hdep hcl
        have e0 : a.eval (.tmp 9) = (.int .i64 R0) := eval_base hsame (by kernel_rfl)
        refine Step.val _ rfl rfl (wanted_none rfl) (.int .i64 R0) w' (fun ρ hρ => ?_) (hJ.val hRS hcl hL rfl (Below.refl _ _) _ rfl)
        rw [hρ] at e0
        clear hJ hsame hdep hcl hρ hsz
        go_simp
      · intro L a w' hL hsame hsz hJ hdep hcl
        have e0 : a.eval (.tmp 10) = (.int .i64 K0) := eval_base hsame (by kernel_rfl)
        refine Step.val _ rfl rfl (wanted_none rfl) (.int .i64 K0) w' (fun ρ hρ => ?_) (hJ.val hRS hcl hL rfl (Below.refl _ _) _ rfl)
        rw [hρ] at e0
        clear hJ hsame hdep hcl hρ hsz
        go_simp
      · intro L a w' hL hsame hsz hJ hdep hcl
        have e0 : a.eval (.tmp 6) = (.pointer (some ⟨gX, 0, none⟩)) := eval_base hsame (by kernel_rfl)
        have hb := hJ.keptBox BX.out (by simp)
        have q0 : w'.cell? ⟨gX, 0, none⟩ = some (.int .i64 a0) := hb.cell 0
        have q1 : w'.cell? ⟨gX, 1, none⟩ = some (.int .i64 a1) := hb.cell 1
        have q2 : w'.cell? ⟨gX, 2, none⟩ = some (.int .i64 a2) := hb.cell 2
        refine Step.val _ rfl rfl (wanted_none rfl) (.agg #[.int .i64 a0, .int .i64 a1, .int .i64 a2]) w' (fun ρ hρ => ?_) (hJ.val hRS hcl hL rfl (Below.refl _ _) _ rfl)
        rw [hρ] at e0
        clear hb
        clear hJ hsame hdep hcl hρ hsz
        go_simp
      · intro L a w' hL hsame hsz hJ hdep hcl
        have e0 : a.eval (.tmp 36) = (.agg #[.int .i64 a0, .int .i64 a1, .int .i64 a2]) := eval_slot (j := 7) (by kernel_rfl) (hJ.valOf (by decide) (dep_of hdep 7 (by kernel_rfl)) rfl rfl)
        refine Step.call _ rfl rfl (wanted_none rfl) 13 #[.agg #[.int .i64 a0, .int .i64 a1, .int .i64 a2]] (fun ρ hρ => ?_) ?_
        · skip
          rw [hρ] at e0
          have ef : ρ (.func 13) = .func (.func 13) #[] #[] := (hρ _).symm
          clear hJ hsame hdep hcl hρ hsz
          go_simp
        · refine (K1.out w').mono ?_
          rintro e w2 ⟨rfl, bb⟩
          exact ⟨_, rfl, hJ.val hRS hcl hL rfl bb _ rfl⟩
      · intro L a w' hL hsame hsz hJ hdep hcl
        have e0 : a.eval (.tmp 34) = (.int .i64 R0) := eval_slot (j := 5) (by kernel_rfl) (hJ.valOf (by decide) (dep_of hdep 5 (by kernel_rfl)) rfl rfl)
        have e1 : a.eval (.tmp 35) = (.int .i64 K0) := eval_slot (j := 6) (by kernel_rfl) (hJ.valOf (by decide) (dep_of hdep 6 (by kernel_rfl)) rfl rfl)
        have e2 : a.eval (.tmp 37) = (.agg #[.int .i64 pa, .int .i64 pb, .int .i64 pc]) := eval_slot (j := 8) (by kernel_rfl) (hJ.valOf (by decide) (dep_of hdep 8 (by kernel_rfl)) rfl rfl)
        refine Step.call _ rfl rfl (wanted_none rfl) 14 #[.int .i64 R0, .int .i64 K0, .agg #[.int .i64 pa, .int .i64 pb, .int .i64 pc]] (fun ρ hρ => ?_) ?_
        · skip
          rw [hρ] at e0 e1 e2
          have ef : ρ (.func 14) = .func (.func 14) #[] #[] := (hρ _).symm
          clear hJ hsame hdep hcl hρ hsz
          go_simp
        · refine (r_new R0 K0 (pa, pb, pc) w' (by have := HK.out; omega) (by have := HK.out; omega)).mono ?_
          rintro e w2 ⟨v, rfl, hg, bb⟩
          exact ⟨v, rfl, hJ.grid hRS hcl hL rfl bb v hg⟩
      · intro L a w' hL hsame hsz hJ hdep hcl
        refine Step.val _ rfl rfl (wanted_none rfl) (.pointer (some ⟨w'.heap.size, 0, none⟩)) (w'.alloc (.cells #[.int .i64 0, .int .i64 0, .slice none 0 0] 26)) (fun ρ hρ => ?_) (hJ.box hRS hcl hL rfl 26 rfl (.int .i64 0) (.int .i64 0) (.slice none 0 0))
        clear hJ hsame hdep hcl hρ hsz
        go_simp
      · intro L a w' hL hsame hsz hJ hdep hcl
        refine Step.val _ rfl rfl (wanted_none rfl) (.pointer (some ⟨w'.heap.size, 0, none⟩)) (w'.alloc (.cells #[.int .i64 0, .int .i64 0, .slice none 0 0] 26)) (fun ρ hρ => ?_) (hJ.box hRS hcl hL rfl 26 rfl (.int .i64 0) (.int .i64 0) (.slice none 0 0))
        clear hJ hsame hdep hcl hρ hsz
        go_simp
      · intro L a w' hL hsame hsz hJ hdep hcl
        obtain ⟨sv, hsv, hso⟩ := hJ.gridOf (by decide) (dep_of hdep 4 (by kernel_rfl)) rfl
        obtain ⟨sA, sc, rfl, _⟩ := own_form' hso
        have es : a.eval (.tmp 33) = .agg #[.int .i64 ((PG.newG R0 K0 (pa, pb, pc))).rows, .int .i64 ((PG.newG R0 K0 (pa, pb, pc))).cols, .slice sA (((PG.newG R0 K0 (pa, pb, pc))).rows * ((PG.newG R0 K0 (pa, pb, pc))).cols) sc] := eval_slot (j := 4) (by kernel_rfl) hsv
        have la := dep_of hdep 10 (by kernel_rfl)
        obtain ⟨g, cs, hg, hg0, hb, hs3⟩ := hJ.boxOf (by decide) la rfl
        obtain ⟨c0, c1, c2, rfl⟩ := three_of hs3
        obtain ⟨m0, m1, m2, f0, f1, f2⟩ := hb.three
        have ea : a.eval (.tmp 11) = .pointer (some ⟨g, 0, none⟩) := eval_slot (j := 10) (by kernel_rfl) hg
        refine Step.skip _ rfl (wanted_none rfl) (set3 w' g (.int .i64 ((PG.newG R0 K0 (pa, pb, pc))).rows) (.int .i64 ((PG.newG R0 K0 (pa, pb, pc))).cols) (.slice sA (((PG.newG R0 K0 (pa, pb, pc))).rows * ((PG.newG R0 K0 (pa, pb, pc))).cols) sc)) (fun ρ hρ => ?_) (hJ.put hRS hcl hL rfl la (dep_of hdep 4 (by kernel_rfl)) hg hsv)
        rw [hρ] at es ea
        clear hJ hsame hdep hcl hρ hsz hg hb hso hsv
        unfold set3
        go_simp
      · intro L a w' hL hsame hsz hJ hdep hcl
        obtain ⟨sv, hsv, hso⟩ := hJ.gridOf (by decide) (dep_of hdep 9 (by kernel_rfl)) rfl
        obtain ⟨sA, sc, rfl, _⟩ := own_form' hso
        have es : a.eval (.tmp 38) = .agg #[.int .i64 ((PG.newG R0 K0 (pa, pb, pc))).rows, .int .i64 ((PG.newG R0 K0 (pa, pb, pc))).cols, .slice sA (((PG.newG R0 K0 (pa, pb, pc))).rows * ((PG.newG R0 K0 (pa, pb, pc))).cols) sc] := eval_slot (j := 9) (by kernel_rfl) hsv
        have la := dep_of hdep 11 (by kernel_rfl)
        obtain ⟨g, cs, hg, hg0, hb, hs3⟩ := hJ.boxOf (by decide) la rfl
        obtain ⟨c0, c1, c2, rfl⟩ := three_of hs3
        obtain ⟨m0, m1, m2, f0, f1, f2⟩ := hb.three
        have ea : a.eval (.tmp 12) = .pointer (some ⟨g, 0, none⟩) := eval_slot (j := 11) (by kernel_rfl) hg
        refine Step.skip _ rfl (wanted_none rfl) (set3 w' g (.int .i64 ((PG.newG R0 K0 (pa, pb, pc))).rows) (.int .i64 ((PG.newG R0 K0 (pa, pb, pc))).cols) (.slice sA (((PG.newG R0 K0 (pa, pb, pc))).rows * ((PG.newG R0 K0 (pa, pb, pc))).cols) sc)) (fun ρ hρ => ?_) (hJ.put hRS hcl hL rfl la (dep_of hdep 9 (by kernel_rfl)) hg hsv)
        rw [hρ] at es ea
        clear hJ hsame hdep hcl hρ hsz hg hb hso hsv
        unfold set3
        go_simp
      · intro L a w' hsame hsz hJ hall
        obtain ⟨u, hu, ha⟩ := act_puts hsame
        have h : ((GVar w2.heap.size (PG.newG R0 K0 (pa, pb, pc)) (u 10) w' ∧ GVar w2.heap.size (PG.newG R0 K0 (pa, pb, pc)) (u 11) w') ∧ u 10 ≠ u 11) ∧ Below w2.heap.size w2 w' := by
          (try simp only [hu])
          exact (And.intro (And.intro (And.intro (hJ.var hall 12 (by decide) rfl rfl (by decide) rfl (by decide) rfl) (hJ.var hall 13 (by decide) rfl rfl (by decide) rfl (by decide) rfl)) (hJ.dist 10 11 rfl rfl (hall 10 (by decide)) (hall 11 (by decide)) (by decide))) (hJ.kept.toBelow (Nat.le_refl _) (by simp)))
        have h := hide h
        clear hJ hall hsz hu hsame
        subst ha
        change Exit.then _ _ Exit.normal (Act.put (Act.put (Act.put (Act.put (Act.put (Act.put (Act.put (Act.put (Act.put (Act.put (Act.put (Act.put (Act.put (Act.put (putAll _ u 0 _) (some 29) (u 0)) (some 30) (u 1)) (some 31) (u 2)) (some 32) (u 3)) (some 33) (u 4)) (some 34) (u 5)) (some 35) (u 6)) (some 36) (u 7)) (some 37) (u 8)) (some 38) (u 9)) (some 11) (u 10)) (some 12) (u 11)) none (u 12)) none (u 13)) _
        simp only [putAll]
        generalize u 0 = v0
        generalize u 1 = v1
        generalize u 2 = v2
        generalize u 3 = v3
        generalize u 4 = v4
        generalize u 5 = v5
        generalize u 6 = v6
        generalize u 7 = v7
        generalize u 8 = v8
        generalize u 9 = v9
        generalize u 10 = v10 at h ⊢
        generalize u 11 = v11 at h ⊢
        generalize u 12 = v12
        generalize u 13 = v13
        go_simp
        go_step
        go_meet
        exact h.out
  case rest =>
  obtain ⟨⟨⟨⟨gG, rfl, hgG, vG⟩, ⟨gO, rfl, hgO, vO⟩⟩, hne⟩, bc⟩ := hcut
  have HNE := hide (show gG ≠ gO from fun e => hne (by rw [e]))
  have VG := hide vG
  have VO := hide vO
  have BC := hide bc
  have HGG := hide hgG
  have HGO := hide hgO
  clear hne vG vO bc hgG hgO BX K1
  go_upto_block 0 with fail
  go_cut [13] (fun u wx => Below w2.heap.size w2 wx)
  case first =>
    as_aux_lemma =>
      go_wp2_with fail
      go_loopw [13] (fun i wr => ∃ (k : Nat) (Gx : PG.Gr), i = .int .i64 k ∧ Hid (PG.RightG Gx ∧ Gx.rows ≤ 6 ∧ Gx.cols ≤ 10) ∧ Hid (GBox wr Gx gG) ∧ Hid (GBox wr Gx gO) ∧ Hid (Below w2.heap.size w2 wr)) (fun i _ => n - (intOf i).toNat)
      case atStart => exact ⟨0, _, rfl, hide ⟨PG.right_newG HP.out (by have := HK.out; omega) (by have := HK.out; omega) (by have := HK.out; omega) (by have := HK.out; omega), (by have := HK.out; show R0 ≤ 6; omega), (by have := HK.out; show K0 ≤ 10; omega)⟩, VG, VO, BC⟩
      case round =>
        obtain ⟨k, Gx, rfl, HRX, VG, VO, bx⟩ := hrel
        by_cases hlt : k < n ∧ k < 30
        · obtain ⟨hlt, h30⟩ := hlt
          have HKN := hide (And.intro hlt h30)
          obtain ⟨ad, kd, qr, qc, qm, qx, y1, y2, y3, hA, hadB, c0, c1, c2, c3, c4, c5, c6, c7, bk, br, bcc, bm, bxx, b1, b2, b3⟩ := (HQ.out.below (Nat.le_refl _) bx.out) k hlt
          subst hA
          have HB := hide (And.intro br (And.intro bcc (And.intro bm (And.intro bxx (And.intro b1 (And.intro b2 b3))))))
          have hnm := HN.out
          unfold maxLen at hnm
          clear bk br bcc bm bxx b1 b2 b3 HP HK
          go_upto_region 6 with fail
          go_cut [14] from 39 to 52 (fun u wx => (∃ g, u = .pointer (some ⟨g, 0, none⟩) ∧ wr.heap.size ≤ g ∧ Box wx g 39 #[.int .i64 kd, .int .i64 qr, .int .i64 qc, .int .i64 qm, .int .i32 qx, .int .i64 y1, .int .i64 y2, .int .i64 y3]) ∧ Below wr.heap.size wr wx)
          case first =>
            as_aux_lemma =>
              clear VG VO HRX
              go_wp2_with fail
              go_meet
              exact ⟨⟨_, rfl, Nat.le_refl _, Box.new _ _ _⟩, (Below.refl _ _).alloc (Nat.le_refl _) _⟩
          case rest =>
          obtain ⟨⟨gQ, rfl, hgQ, hq⟩, bc⟩ := hcut
          have bx := hide (bx.out.trans (bc.mono bx.out.size))
          have VG := hide (VG.out.low bc)
          have VO := hide (VO.out.low bc)
          have BQ := hide hq
          have HNQ := hide (show gG ≠ gQ ∧ gO ≠ gQ from by
            have h1 := VG.out
            obtain ⟨s, h1, -⟩ := h1
            obtain ⟨s', h2, -⟩ := VO.out
            exact ⟨fun e => absurd (box_type (e ▸ h1) hq) (by decide), fun e => absurd (box_type (e ▸ h2) hq) (by decide)⟩)
          clear bc hq hgQ hlt h30 hnm c0 c1 c2 c3 c4 c5 c6 c7 hadB
          obtain ⟨R, hR⟩ : ∃ R, Gx.rows = R := ⟨_, rfl⟩
          obtain ⟨K, hK⟩ : ∃ K, Gx.cols = K := ⟨_, rfl⟩
          obtain ⟨AG, cG, hbG, -, -, -, hiG⟩ := VG.out.open_ hR hK
          obtain ⟨AO, cO, hbO, -, -, -, hiO⟩ := VO.out.open_ hR hK
          have BG := hide (show Box wc gG 26 #[.int .i64 R, .int .i64 K, .slice AG (R * K) cG] from hbG)
          have BO := hide (show Box wc gO 26 #[.int .i64 R, .int .i64 K, .slice AO (R * K) cO] from hbO)
          have IG := hide (show IsG wc Gx (.agg #[.int .i64 R, .int .i64 K, .slice AG (R * K) cG]) from hiG)
          have IO := hide (show IsG wc Gx (.agg #[.int .i64 R, .int .i64 K, .slice AO (R * K) cO]) from hiO)
          have HRX := hide (show PG.RightG Gx ∧ Gx.rows = R ∧ Gx.cols = K ∧ R ≤ 6 ∧ K ≤ 10 ∧ 1 ≤ R ∧ 1 ≤ K from ⟨HRX.out.1, hR, hK, hR ▸ HRX.out.2.1, hK ▸ HRX.out.2.2, hR ▸ HRX.out.1.1, hK ▸ HRX.out.1.2.2.1⟩)
          have hlen : (PG.cells Gx).length = R * K := by rw [PG.cells_len, hR, hK]
          have HLE := hide hlen
          clear hbG hbO hiG hiO hR hK VG VO hlen
          go_upto_region 7 with fail
          go_cut [15] from 53 to 56 (fun u wx => (∃ A2 n2 k2, u = .slice A2 n2 k2 ∧ n2 ≤ 60 ∧ OwnC wx (PG.cells Gx) A2 n2 k2) ∧ Below wc.heap.size wc wx)
          case first =>
            as_aux_lemma =>
              obtain ⟨i0, hi, hz0, hz1, hz2⟩ := info_parts info_cell
              have OL := hide (own_lit5 (w := wc) (base := wc.heap.size) 32 rfl (Nat.le_refl _))
              have hsG := hide (IG.out.seen.below ((Below.refl wc.heap.size wc).alloc (Nat.le_refl _) (.cells #[] 32)))
              have hRK : R * K ≤ 60 := by have := HRX.out; exact Nat.mul_le_mul this.2.2.2.1 this.2.2.2.2.1
              have h2 : wc.cell? ⟨gG, 2, none⟩ = some (.slice AG (R * K) cG) := BG.out.cell 2
              obtain ⟨NN, hNN⟩ : ∃ N, R * K = N := ⟨_, rfl⟩
              rw [hNN] at h2 hsG hRK
              have hgl := BG.out.lt
              have h2' : (wc.alloc (.cells #[] 32)).cell? ⟨gG, 2, none⟩ = some (.slice AG NN cG) := (((Below.refl wc.heap.size wc).alloc (Nat.le_refl _) (.cells #[] 32)).cell (p := ⟨gG, 2, none⟩) hgl).trans h2
              go_wp2_with (
                at_builtin
                go_must (refine wpList_appC rfl (.tmp 53) (.tmp 55) 24 rfl wc.heap.size 32 i0 _ 40 Tryd.underlying24 hi hz0 hz1 hz2 rfl (.slice (some ⟨wc.heap.size, 0, none⟩) 0 0) 0 [] rfl OL.out wc.heap.size AG NN cG (PG.cells Gx) rfl hsG.out (by omega) (by omega) (by simp) ?_)
                intro v4 w4 hown4 hg4 hm4
                simp only [Nat.zero_add, List.nil_append] at hown4
                have B4 := hide (((Below.refl wc.heap.size wc).alloc (Nat.le_refl _) (.cells #[] 32)).grown hg4 (by simp) (by rintro _ ⟨⟩; exact Nat.le_refl _))
                obtain ⟨A2, k2, rfl, _⟩ := own_form' hown4
                have hown4 := hide (own_base' hown4 (Nat.zero_le _))
                clear hg4 hm4 h2 h2')
              go_meet
              exact ⟨⟨A2, _, k2, rfl, hRK, hown4.out⟩, B4.out⟩
          case rest =>
          obtain ⟨⟨A2, n2, k2, rfl, hn2, hw⟩, bc⟩ := hcut
          have bx := hide (bx.out.trans (bc.mono bx.out.size))
          have BQ := hide (BQ.out.below bc BQ.out.lt)
          have BG := hide (BG.out.below bc BG.out.lt)
          have BO := hide (BO.out.below bc BO.out.lt)
          have IG := hide (IG.out.low bc)
          have IO := hide (IO.out.low bc)
          have WAS := hide hw
          have HN2 := hide hn2
          clear bc hw hn2 HLE
          go_upto_region 8 with fail
          go_cut [16] from 57 to 57 (fun u wx => (∃ g, u = .pointer (some ⟨g, 0, none⟩) ∧ wc.heap.size ≤ g ∧ Box wx g 26 #[.int .i64 R, .int .i64 K, .slice AG (R * K) cG]) ∧ Below wc.heap.size wc wx)
          case first =>
            as_aux_lemma =>
              obtain ⟨m0, m1, m2, -, -, -⟩ := Box.three (a := .int .i64 R) (b := .int .i64 K) (c := .slice AG (R * K) cG) BG.out
              go_wp2_with fail
              go_meet
              exact ⟨⟨_, rfl, Nat.le_refl _, Box.new _ _ _⟩, (Below.refl _ _).alloc (Nat.le_refl _) _⟩
          case rest =>
          obtain ⟨⟨gE, rfl, hgE, he⟩, bc⟩ := hcut
          have HNE2 := hide (show gG ≠ gE ∧ gO ≠ gE from ⟨by have := BG.out.lt; omega, by have := BO.out.lt; omega⟩)
          have bx := hide (bx.out.trans (bc.mono bx.out.size))
          have BQ := hide (BQ.out.below bc BQ.out.lt)
          have BG := hide (BG.out.below bc BG.out.lt)
          have BO := hide (BO.out.below bc BO.out.lt)
          have IG := hide (IG.out.low bc)
          have IO := hide (IO.out.low bc)
          have WAS := hide (WAS.out.low bc)
          have BE := hide he
          have IE := IG
          clear bc he hgE
          obtain ⟨rI, hrI, hr1, hr2⟩ := within_ex qr (lo := -1) (hi := (R : Int)) (by omega)
          obtain ⟨cI, hcI, hc1, hc2⟩ := within_ex qc (lo := -2) (hi := (K : Int) + 1) (by omega)
          have KR := hide (fun w' => within_is qr (-1) R rI hrI w' HB.out.1.1 HB.out.1.2 (by omega) (by omega) (by have := HRX.out; omega))
          have KC := hide (fun w' => within_is qc (-2) ((K : Int) + 1) cI hcI w' HB.out.2.1.1 HB.out.2.1.2 (by omega) (by omega) (by have := HRX.out; omega))
          have hsK := hsum_succ (K := K) (by have := HRX.out; omega)
          have HRC := hide (show -1 ≤ rI ∧ rI ≤ R ∧ -2 ≤ cI ∧ cI ≤ K + 1 from ⟨hr1, hr2, hc1, hc2⟩)
          clear hrI hr1 hr2 hcI hc1 hc2
          go_upto_region 9 with fail
          go_cut [17, 18] from 58 to 68 (fun u17 u18 wx => (u17 = .int .i64 rI ∧ u18 = .int .i64 cI) ∧ Below wc.heap.size wc wx)
          case first =>
            as_aux_lemma =>
              refine wp_region_rj (n := 201) [] (fun _ => #[]) [(0, 0, 0, 0), (0, 0, 0, 0), (0, 0, 0, 0), (0, 0, 0, 0), (0, 0, 0, 0), (0, 0, 0, 0), (0, 0, 0, 0), (0, 0, 0, 0), (0, 0, 0, 0), (0, 0, 0, 0), (0, 0, 0, 0), (0, 0, 0, 0), (0, 0, 0, 0)] (fun j => [(.pointer (some ⟨gQ, 1, none⟩)), (.int .i64 qr), (.pointer (some ⟨gO, 0, none⟩)), (.int .i64 R), (.int .i64 rI), (.pointer (some ⟨gQ, 2, none⟩)), (.int .i64 qc), (.pointer (some ⟨gO, 1, none⟩)), (.int .i64 K), (.int .i64 ((K : Int) + 1)), (.int .i64 cI), (.int .i64 rI), (.int .i64 cI)].getD j undef) (fun j => [PG.dflt, PG.dflt, PG.dflt, PG.dflt, PG.dflt, PG.dflt, PG.dflt, PG.dflt, PG.dflt, PG.dflt, PG.dflt, PG.dflt, PG.dflt].getD j PG.dflt) (fun _ => 0) (by kernel_rfl) (by kernel_rfl) (by kernel_rfl) rfl (by kernel_rfl) (no4 rfl) (fun i j h => by revert h; exact no4 (p := fun _ => _) rfl i) (fun hRS => cases13 ⟨?_, ?_, ?_, ?_, ?_, ?_, ?_, ?_, ?_, ?_, ?_, ?_, ?_⟩) ?_
              · intro L a w' hL hsame hsz hJ hdep hcl
                have e0 : a.eval (.tmp 14) = (.pointer (some ⟨gQ, 0, none⟩)) := eval_base hsame (by kernel_rfl)
                refine Step.val _ rfl rfl (wanted_none rfl) (.pointer (some ⟨gQ, 1, none⟩)) w' (fun ρ hρ => ?_) (hJ.val hRS hcl hL rfl (Below.refl _ _) _ rfl)
                rw [hρ] at e0
                clear hJ hsame hdep hcl hρ hsz
                go_simp
              · intro L a w' hL hsame hsz hJ hdep hcl
                have e0 : a.eval (.tmp 58) = (.pointer (some ⟨gQ, 1, none⟩)) := eval_slot (j := 0) (by kernel_rfl) (hJ.valOf (by decide) (dep_of hdep 0 (by kernel_rfl)) rfl rfl)
                have hb := hJ.keptBox BQ.out (by simp)
                have q0 : w'.cell? ⟨gQ, 1, none⟩ = some (.int .i64 qr) := hb.cell 1
                refine Step.val _ rfl rfl (wanted_none rfl) (.int .i64 qr) w' (fun ρ hρ => ?_) (hJ.val hRS hcl hL rfl (Below.refl _ _) _ rfl)
                rw [hρ] at e0
                clear hb
                clear hJ hsame hdep hcl hρ hsz
                go_simp
              · intro L a w' hL hsame hsz hJ hdep hcl
                have e0 : a.eval (.tmp 12) = (.pointer (some ⟨gO, 0, none⟩)) := eval_base hsame (by kernel_rfl)
                refine Step.val _ rfl rfl (wanted_none rfl) (.pointer (some ⟨gO, 0, none⟩)) w' (fun ρ hρ => ?_) (hJ.val hRS hcl hL rfl (Below.refl _ _) _ rfl)
                rw [hρ] at e0
                clear hJ hsame hdep hcl hρ hsz
                go_simp
              · intro L a w' hL hsame hsz hJ hdep hcl
                have e0 : a.eval (.tmp 60) = (.pointer (some ⟨gO, 0, none⟩)) := eval_slot (j := 2) (by kernel_rfl) (hJ.valOf (by decide) (dep_of hdep 2 (by kernel_rfl)) rfl rfl)
                have hb := hJ.keptBox BO.out (by simp)
                have q0 : w'.cell? ⟨gO, 0, none⟩ = some (.int .i64 R) := hb.cell 0
                refine Step.val _ rfl rfl (wanted_none rfl) (.int .i64 R) w' (fun ρ hρ => ?_) (hJ.val hRS hcl hL rfl (Below.refl _ _) _ rfl)
                rw [hρ] at e0
                clear hb
                clear hJ hsame hdep hcl hρ hsz
                go_simp
              · intro L a w' hL hsame hsz hJ hdep hcl
                have e0 : a.eval (.tmp 59) = (.int .i64 qr) := eval_slot (j := 1) (by kernel_rfl) (hJ.valOf (by decide) (dep_of hdep 1 (by kernel_rfl)) rfl rfl)
                have e2 : a.eval (.tmp 61) = (.int .i64 R) := eval_slot (j := 3) (by kernel_rfl) (hJ.valOf (by decide) (dep_of hdep 3 (by kernel_rfl)) rfl rfl)
                refine Step.call _ rfl rfl (wanted_none rfl) 12 #[.int .i64 qr, .int .i64 (-1), .int .i64 R] (fun ρ hρ => ?_) ?_
                · skip
                  rw [hρ] at e0 e2
                  have ec0 : ρ (.const (.int .i64 (-1))) = (.int .i64 (-1)) := (hρ _).symm
                  have ef : ρ (.func 12) = .func (.func 12) #[] #[] := (hρ _).symm
                  clear hJ hsame hdep hcl hρ hsz
                  go_simp
                · refine (KR.out w').mono ?_
                  rintro e w2 ⟨rfl, rfl⟩
                  exact ⟨_, rfl, hJ.val hRS hcl hL rfl (Below.refl _ _) _ rfl⟩
              · intro L a w' hL hsame hsz hJ hdep hcl
                have e0 : a.eval (.tmp 14) = (.pointer (some ⟨gQ, 0, none⟩)) := eval_base hsame (by kernel_rfl)
                refine Step.val _ rfl rfl (wanted_none rfl) (.pointer (some ⟨gQ, 2, none⟩)) w' (fun ρ hρ => ?_) (hJ.val hRS hcl hL rfl (Below.refl _ _) _ rfl)
                rw [hρ] at e0
                clear hJ hsame hdep hcl hρ hsz
                go_simp
              · intro L a w' hL hsame hsz hJ hdep hcl
                have e0 : a.eval (.tmp 63) = (.pointer (some ⟨gQ, 2, none⟩)) := eval_slot (j := 5) (by kernel_rfl) (hJ.valOf (by decide) (dep_of hdep 5 (by kernel_rfl)) rfl rfl)
                have hb := hJ.keptBox BQ.out (by simp)
                have q0 : w'.cell? ⟨gQ, 2, none⟩ = some (.int .i64 qc) := hb.cell 2
                refine Step.val _ rfl rfl (wanted_none rfl) (.int .i64 qc) w' (fun ρ hρ => ?_) (hJ.val hRS hcl hL rfl (Below.refl _ _) _ rfl)
                rw [hρ] at e0
                clear hb
                clear hJ hsame hdep hcl hρ hsz
                go_simp
              · intro L a w' hL hsame hsz hJ hdep hcl
                have e0 : a.eval (.tmp 12) = (.pointer (some ⟨gO, 0, none⟩)) := eval_base hsame (by kernel_rfl)
                refine Step.val _ rfl rfl (wanted_none rfl) (.pointer (some ⟨gO, 1, none⟩)) w' (fun ρ hρ => ?_) (hJ.val hRS hcl hL rfl (Below.refl _ _) _ rfl)
                rw [hρ] at e0
                clear hJ hsame hdep hcl hρ hsz
                go_simp
              · intro L a w' hL hsame hsz hJ hdep hcl
                have e0 : a.eval (.tmp 65) = (.pointer (some ⟨gO, 1, none⟩)) := eval_slot (j := 7) (by kernel_rfl) (hJ.valOf (by decide) (dep_of hdep 7 (by kernel_rfl)) rfl rfl)
                have hb := hJ.keptBox BO.out (by simp)
                have q0 : w'.cell? ⟨gO, 1, none⟩ = some (.int .i64 K) := hb.cell 1
                refine Step.val _ rfl rfl (wanted_none rfl) (.int .i64 K) w' (fun ρ hρ => ?_) (hJ.val hRS hcl hL rfl (Below.refl _ _) _ rfl)
                rw [hρ] at e0
                clear hb
                clear hJ hsame hdep hcl hρ hsz
                go_simp
              · intro L a w' hL hsame hsz hJ hdep hcl
                have e0 : a.eval (.tmp 66) = (.int .i64 K) := eval_slot (j := 8) (by kernel_rfl) (hJ.valOf (by decide) (dep_of hdep 8 (by kernel_rfl)) rfl rfl)
                refine Step.val _ rfl rfl (wanted_none rfl) (.int .i64 ((K : Int) + 1)) w' (fun ρ hρ => ?_) (hJ.val hRS hcl hL rfl (Below.refl _ _) _ rfl)
                rw [hρ] at e0
                have ec0 : ρ (.const (.int .i64 1)) = (.int .i64 1) := (hρ _).symm
                clear hJ hsame hdep hcl hρ hsz
                go_simp
              · intro L a w' hL hsame hsz hJ hdep hcl
                have e0 : a.eval (.tmp 64) = (.int .i64 qc) := eval_slot (j := 6) (by kernel_rfl) (hJ.valOf (by decide) (dep_of hdep 6 (by kernel_rfl)) rfl rfl)
                have e2 : a.eval (.tmp 67) = (.int .i64 ((K : Int) + 1)) := eval_slot (j := 9) (by kernel_rfl) (hJ.valOf (by decide) (dep_of hdep 9 (by kernel_rfl)) rfl rfl)
                refine Step.call _ rfl rfl (wanted_none rfl) 12 #[.int .i64 qc, .int .i64 (-2), .int .i64 ((K : Int) + 1)] (fun ρ hρ => ?_) ?_
                · skip
                  rw [hρ] at e0 e2
                  have ec0 : ρ (.const (.int .i64 (-2))) = (.int .i64 (-2)) := (hρ _).symm
                  have ef : ρ (.func 12) = .func (.func 12) #[] #[] := (hρ _).symm
                  clear hJ hsame hdep hcl hρ hsz
                  go_simp
                · refine (KC.out w').mono ?_
                  rintro e w2 ⟨rfl, rfl⟩
                  exact ⟨_, rfl, hJ.val hRS hcl hL rfl (Below.refl _ _) _ rfl⟩
              · intro L a w' hL hsame hsz hJ hdep hcl
                have e0 : a.eval (.tmp 62) = (.int .i64 rI) := eval_slot (j := 4) (by kernel_rfl) (hJ.valOf (by decide) (dep_of hdep 4 (by kernel_rfl)) rfl rfl)
                refine Step.val _ rfl rfl (wanted_none rfl) (.int .i64 rI) w' (fun ρ hρ => ?_) (hJ.val hRS hcl hL rfl (Below.refl _ _) _ rfl)
                rw [hρ] at e0
                clear hJ hsame hdep hcl hρ hsz
                go_simp
              · intro L a w' hL hsame hsz hJ hdep hcl
                have e0 : a.eval (.tmp 68) = (.int .i64 cI) := eval_slot (j := 10) (by kernel_rfl) (hJ.valOf (by decide) (dep_of hdep 10 (by kernel_rfl)) rfl rfl)
                refine Step.val _ rfl rfl (wanted_none rfl) (.int .i64 cI) w' (fun ρ hρ => ?_) (hJ.val hRS hcl hL rfl (Below.refl _ _) _ rfl)
                rw [hρ] at e0
                clear hJ hsame hdep hcl hρ hsz
                go_simp
              · intro L a w' hsame hsz hJ hall
                obtain ⟨u, hu, ha⟩ := act_puts hsame
                have h : (u 11 = .int .i64 rI ∧ u 12 = .int .i64 cI) ∧ Below wc.heap.size wc w' := by
                  (try simp only [hu])
                  exact (And.intro (And.intro (hJ.valOf (j := 11) (by decide) (hall 11 (by decide)) rfl rfl) (hJ.valOf (j := 12) (by decide) (hall 12 (by decide)) rfl rfl)) (hJ.kept.toBelow (Nat.le_refl _) (by simp)))
                have h := hide h
                clear hJ hall hsz hu hsame
                subst ha
                change Exit.then _ _ Exit.normal (Act.put (Act.put (Act.put (Act.put (Act.put (Act.put (Act.put (Act.put (Act.put (Act.put (Act.put (Act.put (Act.put (putAll _ u 0 _) (some 58) (u 0)) (some 59) (u 1)) (some 60) (u 2)) (some 61) (u 3)) (some 62) (u 4)) (some 63) (u 5)) (some 64) (u 6)) (some 65) (u 7)) (some 66) (u 8)) (some 67) (u 9)) (some 68) (u 10)) (some 17) (u 11)) (some 18) (u 12)) _
                simp only [putAll]
                generalize u 0 = v0
                generalize u 1 = v1
                generalize u 2 = v2
                generalize u 3 = v3
                generalize u 4 = v4
                generalize u 5 = v5
                generalize u 6 = v6
                generalize u 7 = v7
                generalize u 8 = v8
                generalize u 9 = v9
                generalize u 10 = v10
                generalize u 11 = v11 at h ⊢
                generalize u 12 = v12 at h ⊢
                go_simp
                go_step
                go_meet
                exact h.out
          case rest =>
          obtain ⟨⟨rfl, rfl⟩, bc⟩ := hcut
          have bx := hide (bx.out.trans (bc.mono bx.out.size))
          have BQ := hide (BQ.out.below bc BQ.out.lt)
          have BG := hide (BG.out.below bc BG.out.lt)
          have BO := hide (BO.out.below bc BO.out.lt)
          have IG := hide (IG.out.low bc)
          have IO := hide (IO.out.low bc)
          have WAS := hide (WAS.out.low bc)
          have BE := hide (BE.out.below bc BE.out.lt)
          have IE := hide (IE.out.low bc)
          clear bc KR KC hsK
          have hnsp : some 0 ∉ [some gG, some gO] := by
            have h1 := HGG.out
            have h2 := HGO.out
            have h3 := SP.out.lt
            simp
            omega
          have HNS := hide hnsp
          have NR := hide (norow2 BG.out BO.out (by decide) (by decide))
          have hnBQ : some gQ ∉ [some gG, some gO] := by have := HNQ.out; simp; omega
          have hnBE : some gE ∉ [some gG, some gO] := by have := HNE2.out; simp; omega
          have HnBQ := hide hnBQ
          have HnBE := hide hnBE
          have SPX := hide (SP.out.below bx.out SP.out.lt)
          clear hnsp hnBQ hnBE
          have mk0 : wc.cell? ⟨gQ, 0, none⟩ = some (.int .i64 kd) := BQ.out.cell 0
          go_upto_block 2 with fail
          clear mk0
          rename World => w5
          have hcv : ((kd == 1) = true ∧ kd = 1) ∨ ((kd == 1) = false ∧ (kd == 2) = true ∧ kd = 2) ∨ ((kd == 1) = false ∧ (kd == 2) = false ∧ (kd == 3) = true ∧ kd = 3) ∨ ((kd == 1) = false ∧ (kd == 2) = false ∧ (kd == 3) = false) := by
            simp only [beq_iff_eq, beq_eq_false_iff_ne]
            omega
          have HCV := hide hcv
          clear hcv
          go_cut [19, 20, 21] from 71 to 130 (fun _ _ _ wx => (∃ G', PG.RightG G' ∧ G'.rows ≤ 6 ∧ G'.cols ≤ 10 ∧ GBox wx G' gG ∧ GBox wx G' gO) ∧ Kept [some gG, some gO] w5 wx)
          case first =>
            as_aux_lemma =>
              have hpq := C.kpen_right y1 y2 y3
              have KP := hide (fun w' => keepPen_any y1 y2 y3 w' HB.out.2.2.2.2.1.1 HB.out.2.2.2.2.1.2 HB.out.2.2.2.2.2.1.1 HB.out.2.2.2.2.2.1.2 HB.out.2.2.2.2.2.2.1 HB.out.2.2.2.2.2.2.2)
              generalize C.kcol y1 = pd at hpq KP
              generalize C.kcol y2 = pe at hpq KP
              generalize y3 % 256 = pf at hpq KP
              have hpq : PG.okPen (pd, pe, pf) := hpq
              have HPQ := hide hpq
              clear hpq
              rcases HCV.out with ⟨k1, rfl⟩ | ⟨k1, k2, rfl⟩ | ⟨k1, k2, k3, rfl⟩ | ⟨k1, k2, k3⟩
              · skip
                go_upto_region 12 with fail
                refine wp_region_rj (n := 201) [some gG, some gO] (fun j => if j = 18 then #[.int .i64 R, .int .i64 K, .slice AG (R * K) cG] else #[.int .i64 R, .int .i64 K, .slice AO (R * K) cO]) [(0, 0, 0, 0), (0, 0, 0, 0), (0, 0, 0, 0), (0, 0, 0, 0), (0, 0, 0, 0), (0, 0, 0, 0), (0, 0, 0, 0), (0, 0, 0, 0), (1, 0, 0, 0), (0, 0, 0, 0), (0, 0, 0, 0), (0, 0, 0, 0), (0, 0, 0, 0), (0, 0, 0, 0), (0, 0, 0, 0), (0, 0, 0, 0), (0, 0, 0, 0), (1, 0, 0, 0), (4, 0, 8, 26), (4, 0, 17, 26)] (fun j => [(.agg #[.int .i64 R, .int .i64 K, .slice AG (R * K) cG]), (.int .i64 rI), (.int .i64 cI), (.pointer (some ⟨gQ, 4, none⟩)), (.int .i32 qx), (.pointer (some ⟨gQ, 5, none⟩)), (.agg #[.int .i64 y1, .int .i64 y2, .int .i64 y3]), (.agg #[.int .i64 pd, .int .i64 pe, .int .i64 pf]), undef, (.agg #[.int .i64 R, .int .i64 K, .slice AO (R * K) cO]), (.int .i64 rI), (.int .i64 cI), (.pointer (some ⟨gQ, 4, none⟩)), (.int .i32 qx), (.pointer (some ⟨gQ, 5, none⟩)), (.agg #[.int .i64 y1, .int .i64 y2, .int .i64 y3]), (.agg #[.int .i64 pd, .int .i64 pe, .int .i64 pf]), undef, undef, undef].getD j undef) (fun j => [PG.dflt, PG.dflt, PG.dflt, PG.dflt, PG.dflt, PG.dflt, PG.dflt, PG.dflt, (PG.putI Gx rI cI qx (pd, pe, pf)), PG.dflt, PG.dflt, PG.dflt, PG.dflt, PG.dflt, PG.dflt, PG.dflt, PG.dflt, (PG.putI Gx rI cI qx (pd, pe, pf)), PG.dflt, PG.dflt].getD j PG.dflt) (fun j => if j = 18 then gG else gO) (by kernel_rfl) (by kernel_rfl) (by kernel_rfl) rfl (by kernel_rfl) (fun j hk => by rcases only44 (k1 := 18) (k2 := 19) (by kernel_rfl) j hk with rfl | rfl; exact ⟨by simp, rfl, BG.out⟩; exact ⟨by simp, rfl, BO.out⟩) (fun i j h h' e => by rcases only44 (k1 := 18) (k2 := 19) (by kernel_rfl) i h with rfl | rfl <;> rcases only44 (k1 := 18) (k2 := 19) (by kernel_rfl) j h' with rfl | rfl; exact absurd rfl e; exact HNE.out; exact HNE.out.symm; exact absurd rfl e) (fun hRS => cases20 ⟨?_, ?_, ?_, ?_, ?_, ?_, ?_, ?_, ?_, ?_, ?_, ?_, ?_, ?_, ?_, ?_, ?_, ?_, ?_, ?_⟩) ?_
                · intro L a w' hL hsame hsz hJ hdep hcl
                  have e0 : a.eval (.tmp 11) = (.pointer (some ⟨gG, 0, none⟩)) := eval_base hsame (by kernel_rfl)
                  have hb := (show Box w' gG 26 #[.int .i64 R, .int .i64 K, .slice AG (R * K) cG] from hJ.old 18 rfl (late hcl hL (by kernel_rfl)))
                  have q0 : w'.cell? ⟨gG, 0, none⟩ = some (.int .i64 R) := hb.cell 0
                  have q1 : w'.cell? ⟨gG, 1, none⟩ = some (.int .i64 K) := hb.cell 1
                  have q2 : w'.cell? ⟨gG, 2, none⟩ = some (.slice AG (R * K) cG) := hb.cell 2
                  refine Step.val _ rfl rfl (wanted_none rfl) (.agg #[.int .i64 R, .int .i64 K, .slice AG (R * K) cG]) w' (fun ρ hρ => ?_) (hJ.val hRS hcl hL rfl (Below.refl _ _) _ rfl)
                  rw [hρ] at e0
                  clear hb
                  clear hJ hsame hdep hcl hρ hsz
                  go_simp
                · intro L a w' hL hsame hsz hJ hdep hcl
                  have e0 : a.eval (.tmp 17) = (.int .i64 rI) := eval_base hsame (by kernel_rfl)
                  refine Step.val _ rfl rfl (wanted_none rfl) (.int .i64 rI) w' (fun ρ hρ => ?_) (hJ.val hRS hcl hL rfl (Below.refl _ _) _ rfl)
                  rw [hρ] at e0
                  clear hJ hsame hdep hcl hρ hsz
                  go_simp
                · intro L a w' hL hsame hsz hJ hdep hcl
                  have e0 : a.eval (.tmp 18) = (.int .i64 cI) := eval_base hsame (by kernel_rfl)
                  refine Step.val _ rfl rfl (wanted_none rfl) (.int .i64 cI) w' (fun ρ hρ => ?_) (hJ.val hRS hcl hL rfl (Below.refl _ _) _ rfl)
                  rw [hρ] at e0
                  clear hJ hsame hdep hcl hρ hsz
                  go_simp
                · intro L a w' hL hsame hsz hJ hdep hcl
                  have e0 : a.eval (.tmp 14) = (.pointer (some ⟨gQ, 0, none⟩)) := eval_base hsame (by kernel_rfl)
                  refine Step.val _ rfl rfl (wanted_none rfl) (.pointer (some ⟨gQ, 4, none⟩)) w' (fun ρ hρ => ?_) (hJ.val hRS hcl hL rfl (Below.refl _ _) _ rfl)
                  rw [hρ] at e0
                  clear hJ hsame hdep hcl hρ hsz
                  go_simp
                · intro L a w' hL hsame hsz hJ hdep hcl
                  have e0 : a.eval (.tmp 76) = (.pointer (some ⟨gQ, 4, none⟩)) := eval_slot (j := 3) (by kernel_rfl) (hJ.valOf (by decide) (dep_of hdep 3 (by kernel_rfl)) rfl rfl)
                  have hb := hJ.keptBox BQ.out HnBQ.out
                  have q0 : w'.cell? ⟨gQ, 4, none⟩ = some (.int .i32 qx) := hb.cell 4
                  refine Step.val _ rfl rfl (wanted_none rfl) (.int .i32 qx) w' (fun ρ hρ => ?_) (hJ.val hRS hcl hL rfl (Below.refl _ _) _ rfl)
                  rw [hρ] at e0
                  clear hb
                  clear hJ hsame hdep hcl hρ hsz
                  go_simp
                · intro L a w' hL hsame hsz hJ hdep hcl
                  have e0 : a.eval (.tmp 14) = (.pointer (some ⟨gQ, 0, none⟩)) := eval_base hsame (by kernel_rfl)
                  refine Step.val _ rfl rfl (wanted_none rfl) (.pointer (some ⟨gQ, 5, none⟩)) w' (fun ρ hρ => ?_) (hJ.val hRS hcl hL rfl (Below.refl _ _) _ rfl)
                  rw [hρ] at e0
                  clear hJ hsame hdep hcl hρ hsz
                  go_simp
                · intro L a w' hL hsame hsz hJ hdep hcl
                  have e0 : a.eval (.tmp 78) = (.pointer (some ⟨gQ, 5, none⟩)) := eval_slot (j := 5) (by kernel_rfl) (hJ.valOf (by decide) (dep_of hdep 5 (by kernel_rfl)) rfl rfl)
                  have hb := hJ.keptBox BQ.out HnBQ.out
                  have q0 : w'.cell? ⟨gQ, 5, none⟩ = some (.int .i64 y1) := hb.cell 5
                  have q1 : w'.cell? ⟨gQ, 6, none⟩ = some (.int .i64 y2) := hb.cell 6
                  have q2 : w'.cell? ⟨gQ, 7, none⟩ = some (.int .i64 y3) := hb.cell 7
                  refine Step.val _ rfl rfl (wanted_none rfl) (.agg #[.int .i64 y1, .int .i64 y2, .int .i64 y3]) w' (fun ρ hρ => ?_) (hJ.val hRS hcl hL rfl (Below.refl _ _) _ rfl)
                  rw [hρ] at e0
                  clear hb
                  clear hJ hsame hdep hcl hρ hsz
                  go_simp
                · intro L a w' hL hsame hsz hJ hdep hcl
                  have e0 : a.eval (.tmp 79) = (.agg #[.int .i64 y1, .int .i64 y2, .int .i64 y3]) := eval_slot (j := 6) (by kernel_rfl) (hJ.valOf (by decide) (dep_of hdep 6 (by kernel_rfl)) rfl rfl)
                  refine Step.call _ rfl rfl (wanted_none rfl) 13 #[.agg #[.int .i64 y1, .int .i64 y2, .int .i64 y3]] (fun ρ hρ => ?_) ?_
                  · skip
                    rw [hρ] at e0
                    have ef : ρ (.func 13) = .func (.func 13) #[] #[] := (hρ _).symm
                    clear hJ hsame hdep hcl hρ hsz
                    go_simp
                  · refine (KP.out w').mono ?_
                    rintro e w2 ⟨rfl, bb⟩
                    exact ⟨_, rfl, hJ.val hRS hcl hL rfl bb _ rfl⟩
                · intro L a w' hL hsame hsz hJ hdep hcl
                  have e0 : a.eval (.tmp 73) = (.agg #[.int .i64 R, .int .i64 K, .slice AG (R * K) cG]) := eval_slot (j := 0) (by kernel_rfl) (hJ.valOf (by decide) (dep_of hdep 0 (by kernel_rfl)) rfl rfl)
                  have e1 : a.eval (.tmp 74) = (.int .i64 rI) := eval_slot (j := 1) (by kernel_rfl) (hJ.valOf (by decide) (dep_of hdep 1 (by kernel_rfl)) rfl rfl)
                  have e2 : a.eval (.tmp 75) = (.int .i64 cI) := eval_slot (j := 2) (by kernel_rfl) (hJ.valOf (by decide) (dep_of hdep 2 (by kernel_rfl)) rfl rfl)
                  have e3 : a.eval (.tmp 77) = (.int .i32 qx) := eval_slot (j := 4) (by kernel_rfl) (hJ.valOf (by decide) (dep_of hdep 4 (by kernel_rfl)) rfl rfl)
                  have e4 : a.eval (.tmp 80) = (.agg #[.int .i64 pd, .int .i64 pe, .int .i64 pf]) := eval_slot (j := 7) (by kernel_rfl) (hJ.valOf (by decide) (dep_of hdep 7 (by kernel_rfl)) rfl rfl)
                  refine Step.call _ rfl rfl (wanted_none rfl) 8 #[.agg #[.int .i64 R, .int .i64 K, .slice AG (R * K) cG], .int .i64 rI, .int .i64 cI, .int .i32 qx, .agg #[.int .i64 pd, .int .i64 pe, .int .i64 pf]] (fun ρ hρ => ?_) ?_
                  · skip
                    rw [hρ] at e0 e1 e2 e3 e4
                    have ef : ρ (.func 8) = .func (.func 8) #[] #[] := (hρ _).symm
                    clear hJ hsame hdep hcl hρ hsz
                    go_simp
                  · refine (u_put HRX.out.1 (IG.out.keptS NR.out hJ.kept) rI cI qx (pd, pe, pf) (by have := HRC.out; have := HRX.out; omega) (by have := HRC.out; have := HRX.out; omega) HB.out.2.2.2.1.1 HB.out.2.2.2.1.2 (SPX.out.keptS hJ.kept HNS.out)).mono ?_
                    rintro e w2 ⟨v, rfl, hg, bb⟩
                    exact ⟨v, rfl, hJ.grid hRS hcl hL rfl bb v hg⟩
                · intro L a w' hL hsame hsz hJ hdep hcl
                  have e0 : a.eval (.tmp 12) = (.pointer (some ⟨gO, 0, none⟩)) := eval_base hsame (by kernel_rfl)
                  have hb := (show Box w' gO 26 #[.int .i64 R, .int .i64 K, .slice AO (R * K) cO] from hJ.old 19 rfl (late hcl hL (by kernel_rfl)))
                  have q0 : w'.cell? ⟨gO, 0, none⟩ = some (.int .i64 R) := hb.cell 0
                  have q1 : w'.cell? ⟨gO, 1, none⟩ = some (.int .i64 K) := hb.cell 1
                  have q2 : w'.cell? ⟨gO, 2, none⟩ = some (.slice AO (R * K) cO) := hb.cell 2
                  refine Step.val _ rfl rfl (wanted_none rfl) (.agg #[.int .i64 R, .int .i64 K, .slice AO (R * K) cO]) w' (fun ρ hρ => ?_) (hJ.val hRS hcl hL rfl (Below.refl _ _) _ rfl)
                  rw [hρ] at e0
                  clear hb
                  clear hJ hsame hdep hcl hρ hsz
                  go_simp
                · intro L a w' hL hsame hsz hJ hdep hcl
                  have e0 : a.eval (.tmp 17) = (.int .i64 rI) := eval_base hsame (by kernel_rfl)
                  refine Step.val _ rfl rfl (wanted_none rfl) (.int .i64 rI) w' (fun ρ hρ => ?_) (hJ.val hRS hcl hL rfl (Below.refl _ _) _ rfl)
                  rw [hρ] at e0
                  clear hJ hsame hdep hcl hρ hsz
                  go_simp
                · intro L a w' hL hsame hsz hJ hdep hcl
                  have e0 : a.eval (.tmp 18) = (.int .i64 cI) := eval_base hsame (by kernel_rfl)
                  refine Step.val _ rfl rfl (wanted_none rfl) (.int .i64 cI) w' (fun ρ hρ => ?_) (hJ.val hRS hcl hL rfl (Below.refl _ _) _ rfl)
                  rw [hρ] at e0
                  clear hJ hsame hdep hcl hρ hsz
                  go_simp
                · intro L a w' hL hsame hsz hJ hdep hcl
                  have e0 : a.eval (.tmp 14) = (.pointer (some ⟨gQ, 0, none⟩)) := eval_base hsame (by kernel_rfl)
                  refine Step.val _ rfl rfl (wanted_none rfl) (.pointer (some ⟨gQ, 4, none⟩)) w' (fun ρ hρ => ?_) (hJ.val hRS hcl hL rfl (Below.refl _ _) _ rfl)
                  rw [hρ] at e0
                  clear hJ hsame hdep hcl hρ hsz
                  go_simp
                · intro L a w' hL hsame hsz hJ hdep hcl
                  have e0 : a.eval (.tmp 85) = (.pointer (some ⟨gQ, 4, none⟩)) := eval_slot (j := 12) (by kernel_rfl) (hJ.valOf (by decide) (dep_of hdep 12 (by kernel_rfl)) rfl rfl)
                  have hb := hJ.keptBox BQ.out HnBQ.out
                  have q0 : w'.cell? ⟨gQ, 4, none⟩ = some (.int .i32 qx) := hb.cell 4
                  refine Step.val _ rfl rfl (wanted_none rfl) (.int .i32 qx) w' (fun ρ hρ => ?_) (hJ.val hRS hcl hL rfl (Below.refl _ _) _ rfl)
                  rw [hρ] at e0
                  clear hb
                  clear hJ hsame hdep hcl hρ hsz
                  go_simp
                · intro L a w' hL hsame hsz hJ hdep hcl
                  have e0 : a.eval (.tmp 14) = (.pointer (some ⟨gQ, 0, none⟩)) := eval_base hsame (by kernel_rfl)
                  refine Step.val _ rfl rfl (wanted_none rfl) (.pointer (some ⟨gQ, 5, none⟩)) w' (fun ρ hρ => ?_) (hJ.val hRS hcl hL rfl (Below.refl _ _) _ rfl)
                  rw [hρ] at e0
                  clear hJ hsame hdep hcl hρ hsz
                  go_simp
                · intro L a w' hL hsame hsz hJ hdep hcl
                  have e0 : a.eval (.tmp 87) = (.pointer (some ⟨gQ, 5, none⟩)) := eval_slot (j := 14) (by kernel_rfl) (hJ.valOf (by decide) (dep_of hdep 14 (by kernel_rfl)) rfl rfl)
                  have hb := hJ.keptBox BQ.out HnBQ.out
                  have q0 : w'.cell? ⟨gQ, 5, none⟩ = some (.int .i64 y1) := hb.cell 5
                  have q1 : w'.cell? ⟨gQ, 6, none⟩ = some (.int .i64 y2) := hb.cell 6
                  have q2 : w'.cell? ⟨gQ, 7, none⟩ = some (.int .i64 y3) := hb.cell 7
                  refine Step.val _ rfl rfl (wanted_none rfl) (.agg #[.int .i64 y1, .int .i64 y2, .int .i64 y3]) w' (fun ρ hρ => ?_) (hJ.val hRS hcl hL rfl (Below.refl _ _) _ rfl)
                  rw [hρ] at e0
                  clear hb
                  clear hJ hsame hdep hcl hρ hsz
                  go_simp
                · intro L a w' hL hsame hsz hJ hdep hcl
                  have e0 : a.eval (.tmp 88) = (.agg #[.int .i64 y1, .int .i64 y2, .int .i64 y3]) := eval_slot (j := 15) (by kernel_rfl) (hJ.valOf (by decide) (dep_of hdep 15 (by kernel_rfl)) rfl rfl)
                  refine Step.call _ rfl rfl (wanted_none rfl) 13 #[.agg #[.int .i64 y1, .int .i64 y2, .int .i64 y3]] (fun ρ hρ => ?_) ?_
                  · skip
                    rw [hρ] at e0
                    have ef : ρ (.func 13) = .func (.func 13) #[] #[] := (hρ _).symm
                    clear hJ hsame hdep hcl hρ hsz
                    go_simp
                  · refine (KP.out w').mono ?_
                    rintro e w2 ⟨rfl, bb⟩
                    exact ⟨_, rfl, hJ.val hRS hcl hL rfl bb _ rfl⟩
                · intro L a w' hL hsame hsz hJ hdep hcl
                  have e0 : a.eval (.tmp 82) = (.agg #[.int .i64 R, .int .i64 K, .slice AO (R * K) cO]) := eval_slot (j := 9) (by kernel_rfl) (hJ.valOf (by decide) (dep_of hdep 9 (by kernel_rfl)) rfl rfl)
                  have e1 : a.eval (.tmp 83) = (.int .i64 rI) := eval_slot (j := 10) (by kernel_rfl) (hJ.valOf (by decide) (dep_of hdep 10 (by kernel_rfl)) rfl rfl)
                  have e2 : a.eval (.tmp 84) = (.int .i64 cI) := eval_slot (j := 11) (by kernel_rfl) (hJ.valOf (by decide) (dep_of hdep 11 (by kernel_rfl)) rfl rfl)
                  have e3 : a.eval (.tmp 86) = (.int .i32 qx) := eval_slot (j := 13) (by kernel_rfl) (hJ.valOf (by decide) (dep_of hdep 13 (by kernel_rfl)) rfl rfl)
                  have e4 : a.eval (.tmp 89) = (.agg #[.int .i64 pd, .int .i64 pe, .int .i64 pf]) := eval_slot (j := 16) (by kernel_rfl) (hJ.valOf (by decide) (dep_of hdep 16 (by kernel_rfl)) rfl rfl)
                  refine Step.call _ rfl rfl (wanted_none rfl) 15 #[.agg #[.int .i64 R, .int .i64 K, .slice AO (R * K) cO], .int .i64 rI, .int .i64 cI, .int .i32 qx, .agg #[.int .i64 pd, .int .i64 pe, .int .i64 pf]] (fun ρ hρ => ?_) ?_
                  · skip
                    rw [hρ] at e0 e1 e2 e3 e4
                    have ef : ρ (.func 15) = .func (.func 15) #[] #[] := (hρ _).symm
                    clear hJ hsame hdep hcl hρ hsz
                    go_simp
                  · refine (r_put HRX.out.1 (IO.out.keptS NR.out hJ.kept) rI cI qx (pd, pe, pf) (by have := HRC.out; have := HRX.out; omega) (by have := HRC.out; have := HRX.out; omega) HB.out.2.2.2.1.1 HB.out.2.2.2.1.2).mono ?_
                    rintro e w2 ⟨v, rfl, hg, bb⟩
                    exact ⟨v, rfl, hJ.grid hRS hcl hL rfl bb v hg⟩
                · intro L a w' hL hsame hsz hJ hdep hcl
                  obtain ⟨sv, hsv, hso⟩ := hJ.gridOf (by decide) (dep_of hdep 8 (by kernel_rfl)) rfl
                  obtain ⟨sA, sc, rfl, _⟩ := own_form' hso
                  have es : a.eval (.tmp 81) = .agg #[.int .i64 ((PG.putI Gx rI cI qx (pd, pe, pf))).rows, .int .i64 ((PG.putI Gx rI cI qx (pd, pe, pf))).cols, .slice sA (((PG.putI Gx rI cI qx (pd, pe, pf))).rows * ((PG.putI Gx rI cI qx (pd, pe, pf))).cols) sc] := eval_slot (j := 8) (by kernel_rfl) hsv
                  have hb : Box w' gG 26 #[.int .i64 R, .int .i64 K, .slice AG (R * K) cG] := hJ.old 18 rfl hL
                  obtain ⟨m0, m1, m2, f0, f1, f2⟩ := Box.three (a := (.int .i64 R)) (b := (.int .i64 K)) (c := (.slice AG (R * K) cG)) hb
                  have ea : a.eval (.tmp 11) = .pointer (some ⟨gG, 0, none⟩) := eval_base hsame (by kernel_rfl)
                  refine Step.skip _ rfl (wanted_none rfl) (set3 w' gG (.int .i64 ((PG.putI Gx rI cI qx (pd, pe, pf))).rows) (.int .i64 ((PG.putI Gx rI cI qx (pd, pe, pf))).cols) (.slice sA (((PG.putI Gx rI cI qx (pd, pe, pf))).rows * ((PG.putI Gx rI cI qx (pd, pe, pf))).cols) sc)) (fun ρ hρ => ?_) (hJ.set hRS hcl hL rfl (dep_of hdep 8 (by kernel_rfl)) hsv)
                  rw [hρ] at es ea
                  clear hJ hsame hdep hcl hρ hsz hb hso hsv
                  unfold set3
                  go_simp
                · intro L a w' hL hsame hsz hJ hdep hcl
                  obtain ⟨sv, hsv, hso⟩ := hJ.gridOf (by decide) (dep_of hdep 17 (by kernel_rfl)) rfl
                  obtain ⟨sA, sc, rfl, _⟩ := own_form' hso
                  have es : a.eval (.tmp 90) = .agg #[.int .i64 ((PG.putI Gx rI cI qx (pd, pe, pf))).rows, .int .i64 ((PG.putI Gx rI cI qx (pd, pe, pf))).cols, .slice sA (((PG.putI Gx rI cI qx (pd, pe, pf))).rows * ((PG.putI Gx rI cI qx (pd, pe, pf))).cols) sc] := eval_slot (j := 17) (by kernel_rfl) hsv
                  have hb : Box w' gO 26 #[.int .i64 R, .int .i64 K, .slice AO (R * K) cO] := hJ.old 19 rfl hL
                  obtain ⟨m0, m1, m2, f0, f1, f2⟩ := Box.three (a := (.int .i64 R)) (b := (.int .i64 K)) (c := (.slice AO (R * K) cO)) hb
                  have ea : a.eval (.tmp 12) = .pointer (some ⟨gO, 0, none⟩) := eval_base hsame (by kernel_rfl)
                  refine Step.skip _ rfl (wanted_none rfl) (set3 w' gO (.int .i64 ((PG.putI Gx rI cI qx (pd, pe, pf))).rows) (.int .i64 ((PG.putI Gx rI cI qx (pd, pe, pf))).cols) (.slice sA (((PG.putI Gx rI cI qx (pd, pe, pf))).rows * ((PG.putI Gx rI cI qx (pd, pe, pf))).cols) sc)) (fun ρ hρ => ?_) (hJ.set hRS hcl hL rfl (dep_of hdep 17 (by kernel_rfl)) hsv)
                  rw [hρ] at es ea
                  clear hJ hsame hdep hcl hρ hsz hb hso hsv
                  unfold set3
                  go_simp
                · intro L a w' hsame hsz hJ hall
                  obtain ⟨u, hu, ha⟩ := act_puts hsame
                  have h : ((GBox w' (PG.putI Gx rI cI qx (pd, pe, pf)) gG ∧ GBox w' (PG.putI Gx rI cI qx (pd, pe, pf)) gO)) ∧ Kept [some gG, some gO] w5 w' := by
                    (try simp only [hu])
                    exact (And.intro (And.intro (hJ.var4 hall 18 (by decide) rfl rfl (by decide) rfl) (hJ.var4 hall 19 (by decide) rfl rfl (by decide) rfl)) hJ.kept)
                  have h := hide h
                  clear hJ hall hsz hu hsame
                  subst ha
                  change Exit.inBlock _ _ Exit.normal (Act.put (Act.put (Act.put (Act.put (Act.put (Act.put (Act.put (Act.put (Act.put (Act.put (Act.put (Act.put (Act.put (Act.put (Act.put (Act.put (Act.put (Act.put (Act.put (Act.put (putAll _ u 0 _) (some 73) (u 0)) (some 74) (u 1)) (some 75) (u 2)) (some 76) (u 3)) (some 77) (u 4)) (some 78) (u 5)) (some 79) (u 6)) (some 80) (u 7)) (some 81) (u 8)) (some 82) (u 9)) (some 83) (u 10)) (some 84) (u 11)) (some 85) (u 12)) (some 86) (u 13)) (some 87) (u 14)) (some 88) (u 15)) (some 89) (u 16)) (some 90) (u 17)) none (u 18)) none (u 19)) _
                  simp only [putAll]
                  generalize u 0 = v0
                  generalize u 1 = v1
                  generalize u 2 = v2
                  generalize u 3 = v3
                  generalize u 4 = v4
                  generalize u 5 = v5
                  generalize u 6 = v6
                  generalize u 7 = v7
                  generalize u 8 = v8
                  generalize u 9 = v9
                  generalize u 10 = v10
                  generalize u 11 = v11
                  generalize u 12 = v12
                  generalize u 13 = v13
                  generalize u 14 = v14
                  generalize u 15 = v15
                  generalize u 16 = v16
                  generalize u 17 = v17
                  generalize u 18 = v18
                  generalize u 19 = v19
                  go_simp
                  obtain ⟨⟨hx1, hx2⟩, hx3⟩ := h.out
                  clear h
                  (try simp only [Exit.then, Exit.inBlock])
                  go_wp2_with fail
                  go_meet
                  exact ⟨⟨_, (PG.right_putI HRX.out.1 HPQ.out _ _ _), (by rw [(PG.putI_size ..).1, HRX.out.2.1]; exact HRX.out.2.2.2.1), (by rw [(PG.putI_size ..).2, HRX.out.2.2.1]; exact HRX.out.2.2.2.2.1), hx1, hx2⟩, hx3⟩
              · obtain ⟨nI, hnI, hn1, hn2⟩ := within_ex qm (lo := -2) (hi := (K : Int) + 2) (by omega)
                have KN := hide (fun w' => within_is qm (-2) ((K : Int) + 2) nI hnI w' HB.out.2.2.1.1 HB.out.2.2.1.2 (by omega) (by omega) (by have := HRX.out; omega))
                have HNI := hide (show -2 ≤ nI ∧ nI ≤ K + 2 from ⟨hn1, hn2⟩)
                have hsK := hsum_two (K := K) (by have := HRX.out; omega)
                clear hnI hn1 hn2
                go_upto_region 14 with fail
                go_cut [19] from 71 to 130 (fun u wx => u = .int .i64 nI ∧ w5 = wx)
                case first =>
                  as_aux_lemma =>
                    have m1 : w5.cell? ⟨gO, 1, none⟩ = some (.int .i64 K) := BO.out.cell 1
                    have m3 : w5.cell? ⟨gQ, 3, none⟩ = some (.int .i64 qm) := BQ.out.cell 3
                    go_wp2_with (
                      go_at_call 12
                      go_must (refine (KN.out _).mono ?_)
                      rintro e w' ⟨rfl, rfl⟩)
                    go_meet
                    exact ⟨rfl, rfl⟩
                obtain ⟨rfl, rfl⟩ := hcut
                clear KN hsK
                go_upto_region 15 with fail
                refine wp_region_rj (n := 201) [some gG, some gO] (fun j => if j = 16 then #[.int .i64 R, .int .i64 K, .slice AG (R * K) cG] else #[.int .i64 R, .int .i64 K, .slice AO (R * K) cO]) [(0, 0, 0, 0), (0, 0, 0, 0), (0, 0, 0, 0), (0, 0, 0, 0), (0, 0, 0, 0), (0, 0, 0, 0), (0, 0, 0, 0), (1, 0, 0, 0), (0, 0, 0, 0), (0, 0, 0, 0), (0, 0, 0, 0), (0, 0, 0, 0), (0, 0, 0, 0), (0, 0, 0, 0), (0, 0, 0, 0), (1, 0, 0, 0), (4, 0, 7, 26), (4, 0, 15, 26)] (fun j => [(.agg #[.int .i64 R, .int .i64 K, .slice AG (R * K) cG]), (.int .i64 rI), (.int .i64 cI), (.int .i64 nI), (.pointer (some ⟨gQ, 5, none⟩)), (.agg #[.int .i64 y1, .int .i64 y2, .int .i64 y3]), (.agg #[.int .i64 pd, .int .i64 pe, .int .i64 pf]), undef, (.agg #[.int .i64 R, .int .i64 K, .slice AO (R * K) cO]), (.int .i64 rI), (.int .i64 cI), (.int .i64 nI), (.pointer (some ⟨gQ, 5, none⟩)), (.agg #[.int .i64 y1, .int .i64 y2, .int .i64 y3]), (.agg #[.int .i64 pd, .int .i64 pe, .int .i64 pf]), undef, undef, undef].getD j undef) (fun j => [PG.dflt, PG.dflt, PG.dflt, PG.dflt, PG.dflt, PG.dflt, PG.dflt, (PG.wipeI Gx rI cI nI (pd, pe, pf)), PG.dflt, PG.dflt, PG.dflt, PG.dflt, PG.dflt, PG.dflt, PG.dflt, (PG.wipeI Gx rI cI nI (pd, pe, pf)), PG.dflt, PG.dflt].getD j PG.dflt) (fun j => if j = 16 then gG else gO) (by kernel_rfl) (by kernel_rfl) (by kernel_rfl) rfl (by kernel_rfl) (fun j hk => by rcases only44 (k1 := 16) (k2 := 17) (by kernel_rfl) j hk with rfl | rfl; exact ⟨by simp, rfl, BG.out⟩; exact ⟨by simp, rfl, BO.out⟩) (fun i j h h' e => by rcases only44 (k1 := 16) (k2 := 17) (by kernel_rfl) i h with rfl | rfl <;> rcases only44 (k1 := 16) (k2 := 17) (by kernel_rfl) j h' with rfl | rfl; exact absurd rfl e; exact HNE.out; exact HNE.out.symm; exact absurd rfl e) (fun hRS => cases18 ⟨?_, ?_, ?_, ?_, ?_, ?_, ?_, ?_, ?_, ?_, ?_, ?_, ?_, ?_, ?_, ?_, ?_, ?_⟩) ?_
                · intro L a w' hL hsame hsz hJ hdep hcl
                  have e0 : a.eval (.tmp 11) = (.pointer (some ⟨gG, 0, none⟩)) := eval_base hsame (by kernel_rfl)
                  have hb := (show Box w' gG 26 #[.int .i64 R, .int .i64 K, .slice AG (R * K) cG] from hJ.old 16 rfl (late hcl hL (by kernel_rfl)))
                  have q0 : w'.cell? ⟨gG, 0, none⟩ = some (.int .i64 R) := hb.cell 0
                  have q1 : w'.cell? ⟨gG, 1, none⟩ = some (.int .i64 K) := hb.cell 1
                  have q2 : w'.cell? ⟨gG, 2, none⟩ = some (.slice AG (R * K) cG) := hb.cell 2
                  refine Step.val _ rfl rfl (wanted_none rfl) (.agg #[.int .i64 R, .int .i64 K, .slice AG (R * K) cG]) w' (fun ρ hρ => ?_) (hJ.val hRS hcl hL rfl (Below.refl _ _) _ rfl)
                  rw [hρ] at e0
                  clear hb
                  clear hJ hsame hdep hcl hρ hsz
                  go_simp
                · intro L a w' hL hsame hsz hJ hdep hcl
                  have e0 : a.eval (.tmp 17) = (.int .i64 rI) := eval_base hsame (by kernel_rfl)
                  refine Step.val _ rfl rfl (wanted_none rfl) (.int .i64 rI) w' (fun ρ hρ => ?_) (hJ.val hRS hcl hL rfl (Below.refl _ _) _ rfl)
                  rw [hρ] at e0
                  clear hJ hsame hdep hcl hρ hsz
                  go_simp
                · intro L a w' hL hsame hsz hJ hdep hcl
                  have e0 : a.eval (.tmp 18) = (.int .i64 cI) := eval_base hsame (by kernel_rfl)
                  refine Step.val _ rfl rfl (wanted_none rfl) (.int .i64 cI) w' (fun ρ hρ => ?_) (hJ.val hRS hcl hL rfl (Below.refl _ _) _ rfl)
                  rw [hρ] at e0
                  clear hJ hsame hdep hcl hρ hsz
                  go_simp
                · intro L a w' hL hsame hsz hJ hdep hcl
                  have e0 : a.eval (.tmp 19) = (.int .i64 nI) := eval_base hsame (by kernel_rfl)
                  refine Step.val _ rfl rfl (wanted_none rfl) (.int .i64 nI) w' (fun ρ hρ => ?_) (hJ.val hRS hcl hL rfl (Below.refl _ _) _ rfl)
                  rw [hρ] at e0
                  clear hJ hsame hdep hcl hρ hsz
                  go_simp
                · intro L a w' hL hsame hsz hJ hdep hcl
                  have e0 : a.eval (.tmp 14) = (.pointer (some ⟨gQ, 0, none⟩)) := eval_base hsame (by kernel_rfl)
                  refine Step.val _ rfl rfl (wanted_none rfl) (.pointer (some ⟨gQ, 5, none⟩)) w' (fun ρ hρ => ?_) (hJ.val hRS hcl hL rfl (Below.refl _ _) _ rfl)
                  rw [hρ] at e0
                  clear hJ hsame hdep hcl hρ hsz
                  go_simp
                · intro L a w' hL hsame hsz hJ hdep hcl
                  have e0 : a.eval (.tmp 103) = (.pointer (some ⟨gQ, 5, none⟩)) := eval_slot (j := 4) (by kernel_rfl) (hJ.valOf (by decide) (dep_of hdep 4 (by kernel_rfl)) rfl rfl)
                  have hb := hJ.keptBox BQ.out HnBQ.out
                  have q0 : w'.cell? ⟨gQ, 5, none⟩ = some (.int .i64 y1) := hb.cell 5
                  have q1 : w'.cell? ⟨gQ, 6, none⟩ = some (.int .i64 y2) := hb.cell 6
                  have q2 : w'.cell? ⟨gQ, 7, none⟩ = some (.int .i64 y3) := hb.cell 7
                  refine Step.val _ rfl rfl (wanted_none rfl) (.agg #[.int .i64 y1, .int .i64 y2, .int .i64 y3]) w' (fun ρ hρ => ?_) (hJ.val hRS hcl hL rfl (Below.refl _ _) _ rfl)
                  rw [hρ] at e0
                  clear hb
                  clear hJ hsame hdep hcl hρ hsz
                  go_simp
                · intro L a w' hL hsame hsz hJ hdep hcl
                  have e0 : a.eval (.tmp 104) = (.agg #[.int .i64 y1, .int .i64 y2, .int .i64 y3]) := eval_slot (j := 5) (by kernel_rfl) (hJ.valOf (by decide) (dep_of hdep 5 (by kernel_rfl)) rfl rfl)
                  refine Step.call _ rfl rfl (wanted_none rfl) 13 #[.agg #[.int .i64 y1, .int .i64 y2, .int .i64 y3]] (fun ρ hρ => ?_) ?_
                  · skip
                    rw [hρ] at e0
                    have ef : ρ (.func 13) = .func (.func 13) #[] #[] := (hρ _).symm
                    clear hJ hsame hdep hcl hρ hsz
                    go_simp
                  · refine (KP.out w').mono ?_
                    rintro e w2 ⟨rfl, bb⟩
                    exact ⟨_, rfl, hJ.val hRS hcl hL rfl bb _ rfl⟩
                · intro L a w' hL hsame hsz hJ hdep hcl
                  have e0 : a.eval (.tmp 99) = (.agg #[.int .i64 R, .int .i64 K, .slice AG (R * K) cG]) := eval_slot (j := 0) (by kernel_rfl) (hJ.valOf (by decide) (dep_of hdep 0 (by kernel_rfl)) rfl rfl)
                  have e1 : a.eval (.tmp 100) = (.int .i64 rI) := eval_slot (j := 1) (by kernel_rfl) (hJ.valOf (by decide) (dep_of hdep 1 (by kernel_rfl)) rfl rfl)
                  have e2 : a.eval (.tmp 101) = (.int .i64 cI) := eval_slot (j := 2) (by kernel_rfl) (hJ.valOf (by decide) (dep_of hdep 2 (by kernel_rfl)) rfl rfl)
                  have e3 : a.eval (.tmp 102) = (.int .i64 nI) := eval_slot (j := 3) (by kernel_rfl) (hJ.valOf (by decide) (dep_of hdep 3 (by kernel_rfl)) rfl rfl)
                  have e4 : a.eval (.tmp 105) = (.agg #[.int .i64 pd, .int .i64 pe, .int .i64 pf]) := eval_slot (j := 6) (by kernel_rfl) (hJ.valOf (by decide) (dep_of hdep 6 (by kernel_rfl)) rfl rfl)
                  refine Step.call _ rfl rfl (wanted_none rfl) 16 #[.agg #[.int .i64 R, .int .i64 K, .slice AG (R * K) cG], .int .i64 rI, .int .i64 cI, .int .i64 nI, .agg #[.int .i64 pd, .int .i64 pe, .int .i64 pf]] (fun ρ hρ => ?_) ?_
                  · skip
                    rw [hρ] at e0 e1 e2 e3 e4
                    have ef : ρ (.func 16) = .func (.func 16) #[] #[] := (hρ _).symm
                    clear hJ hsame hdep hcl hρ hsz
                    go_simp
                  · refine (u_wipe HRX.out.1 (IG.out.keptS NR.out hJ.kept) rI cI nI (pd, pe, pf) (by have := HRC.out; have := HRX.out; omega) (by have := HNI.out; have := HRX.out; omega)).mono ?_
                    rintro e w2 ⟨v, rfl, hg, bb⟩
                    exact ⟨v, rfl, hJ.grid hRS hcl hL rfl bb v hg⟩
                · intro L a w' hL hsame hsz hJ hdep hcl
                  have e0 : a.eval (.tmp 12) = (.pointer (some ⟨gO, 0, none⟩)) := eval_base hsame (by kernel_rfl)
                  have hb := (show Box w' gO 26 #[.int .i64 R, .int .i64 K, .slice AO (R * K) cO] from hJ.old 17 rfl (late hcl hL (by kernel_rfl)))
                  have q0 : w'.cell? ⟨gO, 0, none⟩ = some (.int .i64 R) := hb.cell 0
                  have q1 : w'.cell? ⟨gO, 1, none⟩ = some (.int .i64 K) := hb.cell 1
                  have q2 : w'.cell? ⟨gO, 2, none⟩ = some (.slice AO (R * K) cO) := hb.cell 2
                  refine Step.val _ rfl rfl (wanted_none rfl) (.agg #[.int .i64 R, .int .i64 K, .slice AO (R * K) cO]) w' (fun ρ hρ => ?_) (hJ.val hRS hcl hL rfl (Below.refl _ _) _ rfl)
                  rw [hρ] at e0
                  clear hb
                  clear hJ hsame hdep hcl hρ hsz
                  go_simp
                · intro L a w' hL hsame hsz hJ hdep hcl
                  have e0 : a.eval (.tmp 17) = (.int .i64 rI) := eval_base hsame (by kernel_rfl)
                  refine Step.val _ rfl rfl (wanted_none rfl) (.int .i64 rI) w' (fun ρ hρ => ?_) (hJ.val hRS hcl hL rfl (Below.refl _ _) _ rfl)
                  rw [hρ] at e0
                  clear hJ hsame hdep hcl hρ hsz
                  go_simp
                · intro L a w' hL hsame hsz hJ hdep hcl
                  have e0 : a.eval (.tmp 18) = (.int .i64 cI) := eval_base hsame (by kernel_rfl)
                  refine Step.val _ rfl rfl (wanted_none rfl) (.int .i64 cI) w' (fun ρ hρ => ?_) (hJ.val hRS hcl hL rfl (Below.refl _ _) _ rfl)
                  rw [hρ] at e0
                  clear hJ hsame hdep hcl hρ hsz
                  go_simp
                · intro L a w' hL hsame hsz hJ hdep hcl
                  have e0 : a.eval (.tmp 19) = (.int .i64 nI) := eval_base hsame (by kernel_rfl)
                  refine Step.val _ rfl rfl (wanted_none rfl) (.int .i64 nI) w' (fun ρ hρ => ?_) (hJ.val hRS hcl hL rfl (Below.refl _ _) _ rfl)
                  rw [hρ] at e0
                  clear hJ hsame hdep hcl hρ hsz
                  go_simp
                · intro L a w' hL hsame hsz hJ hdep hcl
                  have e0 : a.eval (.tmp 14) = (.pointer (some ⟨gQ, 0, none⟩)) := eval_base hsame (by kernel_rfl)
                  refine Step.val _ rfl rfl (wanted_none rfl) (.pointer (some ⟨gQ, 5, none⟩)) w' (fun ρ hρ => ?_) (hJ.val hRS hcl hL rfl (Below.refl _ _) _ rfl)
                  rw [hρ] at e0
                  clear hJ hsame hdep hcl hρ hsz
                  go_simp
                · intro L a w' hL hsame hsz hJ hdep hcl
                  have e0 : a.eval (.tmp 111) = (.pointer (some ⟨gQ, 5, none⟩)) := eval_slot (j := 12) (by kernel_rfl) (hJ.valOf (by decide) (dep_of hdep 12 (by kernel_rfl)) rfl rfl)
                  have hb := hJ.keptBox BQ.out HnBQ.out
                  have q0 : w'.cell? ⟨gQ, 5, none⟩ = some (.int .i64 y1) := hb.cell 5
                  have q1 : w'.cell? ⟨gQ, 6, none⟩ = some (.int .i64 y2) := hb.cell 6
                  have q2 : w'.cell? ⟨gQ, 7, none⟩ = some (.int .i64 y3) := hb.cell 7
                  refine Step.val _ rfl rfl (wanted_none rfl) (.agg #[.int .i64 y1, .int .i64 y2, .int .i64 y3]) w' (fun ρ hρ => ?_) (hJ.val hRS hcl hL rfl (Below.refl _ _) _ rfl)
                  rw [hρ] at e0
                  clear hb
                  clear hJ hsame hdep hcl hρ hsz
                  go_simp
                · intro L a w' hL hsame hsz hJ hdep hcl
                  have e0 : a.eval (.tmp 112) = (.agg #[.int .i64 y1, .int .i64 y2, .int .i64 y3]) := eval_slot (j := 13) (by kernel_rfl) (hJ.valOf (by decide) (dep_of hdep 13 (by kernel_rfl)) rfl rfl)
                  refine Step.call _ rfl rfl (wanted_none rfl) 13 #[.agg #[.int .i64 y1, .int .i64 y2, .int .i64 y3]] (fun ρ hρ => ?_) ?_
                  · skip
                    rw [hρ] at e0
                    have ef : ρ (.func 13) = .func (.func 13) #[] #[] := (hρ _).symm
                    clear hJ hsame hdep hcl hρ hsz
                    go_simp
                  · refine (KP.out w').mono ?_
                    rintro e w2 ⟨rfl, bb⟩
                    exact ⟨_, rfl, hJ.val hRS hcl hL rfl bb _ rfl⟩
                · intro L a w' hL hsame hsz hJ hdep hcl
                  have e0 : a.eval (.tmp 107) = (.agg #[.int .i64 R, .int .i64 K, .slice AO (R * K) cO]) := eval_slot (j := 8) (by kernel_rfl) (hJ.valOf (by decide) (dep_of hdep 8 (by kernel_rfl)) rfl rfl)
                  have e1 : a.eval (.tmp 108) = (.int .i64 rI) := eval_slot (j := 9) (by kernel_rfl) (hJ.valOf (by decide) (dep_of hdep 9 (by kernel_rfl)) rfl rfl)
                  have e2 : a.eval (.tmp 109) = (.int .i64 cI) := eval_slot (j := 10) (by kernel_rfl) (hJ.valOf (by decide) (dep_of hdep 10 (by kernel_rfl)) rfl rfl)
                  have e3 : a.eval (.tmp 110) = (.int .i64 nI) := eval_slot (j := 11) (by kernel_rfl) (hJ.valOf (by decide) (dep_of hdep 11 (by kernel_rfl)) rfl rfl)
                  have e4 : a.eval (.tmp 113) = (.agg #[.int .i64 pd, .int .i64 pe, .int .i64 pf]) := eval_slot (j := 14) (by kernel_rfl) (hJ.valOf (by decide) (dep_of hdep 14 (by kernel_rfl)) rfl rfl)
                  refine Step.call _ rfl rfl (wanted_none rfl) 17 #[.agg #[.int .i64 R, .int .i64 K, .slice AO (R * K) cO], .int .i64 rI, .int .i64 cI, .int .i64 nI, .agg #[.int .i64 pd, .int .i64 pe, .int .i64 pf]] (fun ρ hρ => ?_) ?_
                  · skip
                    rw [hρ] at e0 e1 e2 e3 e4
                    have ef : ρ (.func 17) = .func (.func 17) #[] #[] := (hρ _).symm
                    clear hJ hsame hdep hcl hρ hsz
                    go_simp
                  · refine (r_wipe HRX.out.1 (IO.out.keptS NR.out hJ.kept) rI cI nI (pd, pe, pf) (by have := HRC.out; have := HRX.out; omega) (by have := HNI.out; have := HRX.out; omega)).mono ?_
                    rintro e w2 ⟨v, rfl, hg, bb⟩
                    exact ⟨v, rfl, hJ.grid hRS hcl hL rfl bb v hg⟩
                · intro L a w' hL hsame hsz hJ hdep hcl
                  obtain ⟨sv, hsv, hso⟩ := hJ.gridOf (by decide) (dep_of hdep 7 (by kernel_rfl)) rfl
                  obtain ⟨sA, sc, rfl, _⟩ := own_form' hso
                  have es : a.eval (.tmp 106) = .agg #[.int .i64 ((PG.wipeI Gx rI cI nI (pd, pe, pf))).rows, .int .i64 ((PG.wipeI Gx rI cI nI (pd, pe, pf))).cols, .slice sA (((PG.wipeI Gx rI cI nI (pd, pe, pf))).rows * ((PG.wipeI Gx rI cI nI (pd, pe, pf))).cols) sc] := eval_slot (j := 7) (by kernel_rfl) hsv
                  have hb : Box w' gG 26 #[.int .i64 R, .int .i64 K, .slice AG (R * K) cG] := hJ.old 16 rfl hL
                  obtain ⟨m0, m1, m2, f0, f1, f2⟩ := Box.three (a := (.int .i64 R)) (b := (.int .i64 K)) (c := (.slice AG (R * K) cG)) hb
                  have ea : a.eval (.tmp 11) = .pointer (some ⟨gG, 0, none⟩) := eval_base hsame (by kernel_rfl)
                  refine Step.skip _ rfl (wanted_none rfl) (set3 w' gG (.int .i64 ((PG.wipeI Gx rI cI nI (pd, pe, pf))).rows) (.int .i64 ((PG.wipeI Gx rI cI nI (pd, pe, pf))).cols) (.slice sA (((PG.wipeI Gx rI cI nI (pd, pe, pf))).rows * ((PG.wipeI Gx rI cI nI (pd, pe, pf))).cols) sc)) (fun ρ hρ => ?_) (hJ.set hRS hcl hL rfl (dep_of hdep 7 (by kernel_rfl)) hsv)
                  rw [hρ] at es ea
                  clear hJ hsame hdep hcl hρ hsz hb hso hsv
                  unfold set3
                  go_simp
                · intro L a w' hL hsame hsz hJ hdep hcl
                  obtain ⟨sv, hsv, hso⟩ := hJ.gridOf (by decide) (dep_of hdep 15 (by kernel_rfl)) rfl
                  obtain ⟨sA, sc, rfl, _⟩ := own_form' hso
                  have es : a.eval (.tmp 114) = .agg #[.int .i64 ((PG.wipeI Gx rI cI nI (pd, pe, pf))).rows, .int .i64 ((PG.wipeI Gx rI cI nI (pd, pe, pf))).cols, .slice sA (((PG.wipeI Gx rI cI nI (pd, pe, pf))).rows * ((PG.wipeI Gx rI cI nI (pd, pe, pf))).cols) sc] := eval_slot (j := 15) (by kernel_rfl) hsv
                  have hb : Box w' gO 26 #[.int .i64 R, .int .i64 K, .slice AO (R * K) cO] := hJ.old 17 rfl hL
                  obtain ⟨m0, m1, m2, f0, f1, f2⟩ := Box.three (a := (.int .i64 R)) (b := (.int .i64 K)) (c := (.slice AO (R * K) cO)) hb
                  have ea : a.eval (.tmp 12) = .pointer (some ⟨gO, 0, none⟩) := eval_base hsame (by kernel_rfl)
                  refine Step.skip _ rfl (wanted_none rfl) (set3 w' gO (.int .i64 ((PG.wipeI Gx rI cI nI (pd, pe, pf))).rows) (.int .i64 ((PG.wipeI Gx rI cI nI (pd, pe, pf))).cols) (.slice sA (((PG.wipeI Gx rI cI nI (pd, pe, pf))).rows * ((PG.wipeI Gx rI cI nI (pd, pe, pf))).cols) sc)) (fun ρ hρ => ?_) (hJ.set hRS hcl hL rfl (dep_of hdep 15 (by kernel_rfl)) hsv)
                  rw [hρ] at es ea
                  clear hJ hsame hdep hcl hρ hsz hb hso hsv
                  unfold set3
                  go_simp
                · intro L a w' hsame hsz hJ hall
                  obtain ⟨u, hu, ha⟩ := act_puts hsame
                  have h : ((GBox w' (PG.wipeI Gx rI cI nI (pd, pe, pf)) gG ∧ GBox w' (PG.wipeI Gx rI cI nI (pd, pe, pf)) gO)) ∧ Kept [some gG, some gO] w5 w' := by
                    (try simp only [hu])
                    exact (And.intro (And.intro (hJ.var4 hall 16 (by decide) rfl rfl (by decide) rfl) (hJ.var4 hall 17 (by decide) rfl rfl (by decide) rfl)) hJ.kept)
                  have h := hide h
                  clear hJ hall hsz hu hsame
                  subst ha
                  change Exit.inBlock _ _ Exit.normal (Act.put (Act.put (Act.put (Act.put (Act.put (Act.put (Act.put (Act.put (Act.put (Act.put (Act.put (Act.put (Act.put (Act.put (Act.put (Act.put (Act.put (Act.put (putAll _ u 0 _) (some 99) (u 0)) (some 100) (u 1)) (some 101) (u 2)) (some 102) (u 3)) (some 103) (u 4)) (some 104) (u 5)) (some 105) (u 6)) (some 106) (u 7)) (some 107) (u 8)) (some 108) (u 9)) (some 109) (u 10)) (some 110) (u 11)) (some 111) (u 12)) (some 112) (u 13)) (some 113) (u 14)) (some 114) (u 15)) none (u 16)) none (u 17)) _
                  simp only [putAll]
                  generalize u 0 = v0
                  generalize u 1 = v1
                  generalize u 2 = v2
                  generalize u 3 = v3
                  generalize u 4 = v4
                  generalize u 5 = v5
                  generalize u 6 = v6
                  generalize u 7 = v7
                  generalize u 8 = v8
                  generalize u 9 = v9
                  generalize u 10 = v10
                  generalize u 11 = v11
                  generalize u 12 = v12
                  generalize u 13 = v13
                  generalize u 14 = v14
                  generalize u 15 = v15
                  generalize u 16 = v16
                  generalize u 17 = v17
                  go_simp
                  obtain ⟨⟨hx1, hx2⟩, hx3⟩ := h.out
                  clear h
                  (try simp only [Exit.then, Exit.inBlock])
                  go_wp2_with fail
                  go_meet
                  exact ⟨⟨_, (PG.right_wipeI HRX.out.1 HPQ.out _ _ _), (by rw [(PG.wipeI_size ..).1, HRX.out.2.1]; exact HRX.out.2.2.2.1), (by rw [(PG.wipeI_size ..).2, HRX.out.2.2.1]; exact HRX.out.2.2.2.2.1), hx1, hx2⟩, hx3⟩
              · obtain ⟨aI, haI, ha1, ha2⟩ := within_nat qr (hi := 6) (by omega)
                obtain ⟨bI, hbI, hb1, hb2⟩ := within_nat qm (hi := 10) (by omega)
                have KA := hide (fun w' => within_is qr 1 6 aI haI w' HB.out.1.1 HB.out.1.2 (by omega) (by omega) (by omega))
                have KB := hide (fun w' => within_is qm 1 10 bI hbI w' HB.out.2.2.1.1 HB.out.2.2.1.2 (by omega) (by omega) (by omega))
                have HAB := hide (show 1 ≤ aI ∧ aI ≤ 6 ∧ 1 ≤ bI ∧ bI ≤ 10 from ⟨ha1, ha2, hb1, hb2⟩)
                clear haI ha1 ha2 hbI hb1 hb2
                go_upto_region 17 with fail
                go_cut [20, 21] from 71 to 130 (fun u20 u21 wx => (u20 = .int .i64 aI ∧ u21 = .int .i64 bI) ∧ Below w5.heap.size w5 wx)
                case first =>
                  as_aux_lemma =>
                    refine wp_region_rj (n := 201) [] (fun _ => #[]) [(0, 0, 0, 0), (0, 0, 0, 0), (0, 0, 0, 0), (0, 0, 0, 0), (0, 0, 0, 0), (0, 0, 0, 0), (0, 0, 0, 0), (0, 0, 0, 0)] (fun j => [(.pointer (some ⟨gQ, 1, none⟩)), (.int .i64 qr), (.int .i64 aI), (.pointer (some ⟨gQ, 3, none⟩)), (.int .i64 qm), (.int .i64 bI), (.int .i64 aI), (.int .i64 bI)].getD j undef) (fun j => [PG.dflt, PG.dflt, PG.dflt, PG.dflt, PG.dflt, PG.dflt, PG.dflt, PG.dflt].getD j PG.dflt) (fun _ => 0) (by kernel_rfl) (by kernel_rfl) (by kernel_rfl) rfl (by kernel_rfl) (no4 rfl) (fun i j h => by revert h; exact no4 (p := fun _ => _) rfl i) (fun hRS => cases8 ⟨?_, ?_, ?_, ?_, ?_, ?_, ?_, ?_⟩) ?_
                    · intro L a w' hL hsame hsz hJ hdep hcl
                      have e0 : a.eval (.tmp 14) = (.pointer (some ⟨gQ, 0, none⟩)) := eval_base hsame (by kernel_rfl)
                      refine Step.val _ rfl rfl (wanted_none rfl) (.pointer (some ⟨gQ, 1, none⟩)) w' (fun ρ hρ => ?_) (hJ.val hRS hcl hL rfl (Below.refl _ _) _ rfl)
                      rw [hρ] at e0
                      clear hJ hsame hdep hcl hρ hsz
                      go_simp
                    · intro L a w' hL hsame hsz hJ hdep hcl
                      have e0 : a.eval (.tmp 117) = (.pointer (some ⟨gQ, 1, none⟩)) := eval_slot (j := 0) (by kernel_rfl) (hJ.valOf (by decide) (dep_of hdep 0 (by kernel_rfl)) rfl rfl)
                      have hb := hJ.keptBox BQ.out (by simp)
                      have q0 : w'.cell? ⟨gQ, 1, none⟩ = some (.int .i64 qr) := hb.cell 1
                      refine Step.val _ rfl rfl (wanted_none rfl) (.int .i64 qr) w' (fun ρ hρ => ?_) (hJ.val hRS hcl hL rfl (Below.refl _ _) _ rfl)
                      rw [hρ] at e0
                      clear hb
                      clear hJ hsame hdep hcl hρ hsz
                      go_simp
                    · intro L a w' hL hsame hsz hJ hdep hcl
                      have e0 : a.eval (.tmp 118) = (.int .i64 qr) := eval_slot (j := 1) (by kernel_rfl) (hJ.valOf (by decide) (dep_of hdep 1 (by kernel_rfl)) rfl rfl)
                      refine Step.call _ rfl rfl (wanted_none rfl) 12 #[.int .i64 qr, .int .i64 1, .int .i64 6] (fun ρ hρ => ?_) ?_
                      · skip
                        rw [hρ] at e0
                        have ec0 : ρ (.const (.int .i64 1)) = (.int .i64 1) := (hρ _).symm
                        have ec1 : ρ (.const (.int .i64 6)) = (.int .i64 6) := (hρ _).symm
                        have ef : ρ (.func 12) = .func (.func 12) #[] #[] := (hρ _).symm
                        clear hJ hsame hdep hcl hρ hsz
                        go_simp
                      · refine (KA.out w').mono ?_
                        rintro e w2 ⟨rfl, rfl⟩
                        exact ⟨_, rfl, hJ.val hRS hcl hL rfl (Below.refl _ _) _ rfl⟩
                    · intro L a w' hL hsame hsz hJ hdep hcl
                      have e0 : a.eval (.tmp 14) = (.pointer (some ⟨gQ, 0, none⟩)) := eval_base hsame (by kernel_rfl)
                      refine Step.val _ rfl rfl (wanted_none rfl) (.pointer (some ⟨gQ, 3, none⟩)) w' (fun ρ hρ => ?_) (hJ.val hRS hcl hL rfl (Below.refl _ _) _ rfl)
                      rw [hρ] at e0
                      clear hJ hsame hdep hcl hρ hsz
                      go_simp
                    · intro L a w' hL hsame hsz hJ hdep hcl
                      have e0 : a.eval (.tmp 120) = (.pointer (some ⟨gQ, 3, none⟩)) := eval_slot (j := 3) (by kernel_rfl) (hJ.valOf (by decide) (dep_of hdep 3 (by kernel_rfl)) rfl rfl)
                      have hb := hJ.keptBox BQ.out (by simp)
                      have q0 : w'.cell? ⟨gQ, 3, none⟩ = some (.int .i64 qm) := hb.cell 3
                      refine Step.val _ rfl rfl (wanted_none rfl) (.int .i64 qm) w' (fun ρ hρ => ?_) (hJ.val hRS hcl hL rfl (Below.refl _ _) _ rfl)
                      rw [hρ] at e0
                      clear hb
                      clear hJ hsame hdep hcl hρ hsz
                      go_simp
                    · intro L a w' hL hsame hsz hJ hdep hcl
                      have e0 : a.eval (.tmp 121) = (.int .i64 qm) := eval_slot (j := 4) (by kernel_rfl) (hJ.valOf (by decide) (dep_of hdep 4 (by kernel_rfl)) rfl rfl)
                      refine Step.call _ rfl rfl (wanted_none rfl) 12 #[.int .i64 qm, .int .i64 1, .int .i64 10] (fun ρ hρ => ?_) ?_
                      · skip
                        rw [hρ] at e0
                        have ec0 : ρ (.const (.int .i64 1)) = (.int .i64 1) := (hρ _).symm
                        have ec1 : ρ (.const (.int .i64 10)) = (.int .i64 10) := (hρ _).symm
                        have ef : ρ (.func 12) = .func (.func 12) #[] #[] := (hρ _).symm
                        clear hJ hsame hdep hcl hρ hsz
                        go_simp
                      · refine (KB.out w').mono ?_
                        rintro e w2 ⟨rfl, rfl⟩
                        exact ⟨_, rfl, hJ.val hRS hcl hL rfl (Below.refl _ _) _ rfl⟩
                    · intro L a w' hL hsame hsz hJ hdep hcl
                      have e0 : a.eval (.tmp 119) = (.int .i64 aI) := eval_slot (j := 2) (by kernel_rfl) (hJ.valOf (by decide) (dep_of hdep 2 (by kernel_rfl)) rfl rfl)
                      refine Step.val _ rfl rfl (wanted_none rfl) (.int .i64 aI) w' (fun ρ hρ => ?_) (hJ.val hRS hcl hL rfl (Below.refl _ _) _ rfl)
                      rw [hρ] at e0
                      clear hJ hsame hdep hcl hρ hsz
                      go_simp
                    · intro L a w' hL hsame hsz hJ hdep hcl
                      have e0 : a.eval (.tmp 122) = (.int .i64 bI) := eval_slot (j := 5) (by kernel_rfl) (hJ.valOf (by decide) (dep_of hdep 5 (by kernel_rfl)) rfl rfl)
                      refine Step.val _ rfl rfl (wanted_none rfl) (.int .i64 bI) w' (fun ρ hρ => ?_) (hJ.val hRS hcl hL rfl (Below.refl _ _) _ rfl)
                      rw [hρ] at e0
                      clear hJ hsame hdep hcl hρ hsz
                      go_simp
                    · intro L a w' hsame hsz hJ hall
                      obtain ⟨u, hu, ha⟩ := act_puts hsame
                      have h : (u 6 = .int .i64 aI ∧ u 7 = .int .i64 bI) ∧ Below w5.heap.size w5 w' := by
                        (try simp only [hu])
                        exact (And.intro (And.intro (hJ.valOf (j := 6) (by decide) (hall 6 (by decide)) rfl rfl) (hJ.valOf (j := 7) (by decide) (hall 7 (by decide)) rfl rfl)) (hJ.kept.toBelow (Nat.le_refl _) (by simp)))
                      have h := hide h
                      clear hJ hall hsz hu hsame
                      subst ha
                      change Exit.then _ _ Exit.normal (Act.put (Act.put (Act.put (Act.put (Act.put (Act.put (Act.put (Act.put (putAll _ u 0 _) (some 117) (u 0)) (some 118) (u 1)) (some 119) (u 2)) (some 120) (u 3)) (some 121) (u 4)) (some 122) (u 5)) (some 20) (u 6)) (some 21) (u 7)) _
                      simp only [putAll]
                      generalize u 0 = v0
                      generalize u 1 = v1
                      generalize u 2 = v2
                      generalize u 3 = v3
                      generalize u 4 = v4
                      generalize u 5 = v5
                      generalize u 6 = v6 at h ⊢
                      generalize u 7 = v7 at h ⊢
                      go_simp
                      go_step
                      go_meet
                      exact h.out
                case rest =>
                obtain ⟨⟨rfl, rfl⟩, bc⟩ := hcut
                have BQ := hide (BQ.out.below bc BQ.out.lt)
                have BG := hide (BG.out.below bc BG.out.lt)
                have BO := hide (BO.out.below bc BO.out.lt)
                have IG := hide (IG.out.low bc)
                have IO := hide (IO.out.low bc)
                have SPX := hide (SPX.out.keep bc)
                have NR := hide (norow2 BG.out BO.out (by decide) (by decide))
                have BC5 := hide bc
                clear bc KA KB
                go_upto_region 18 with fail
                refine wp_region_rj (n := 201) [some gG, some gO] (fun j => if j = 8 then #[.int .i64 R, .int .i64 K, .slice AG (R * K) cG] else #[.int .i64 R, .int .i64 K, .slice AO (R * K) cO]) [(0, 0, 0, 0), (0, 0, 0, 0), (0, 0, 0, 0), (1, 0, 0, 0), (0, 0, 0, 0), (0, 0, 0, 0), (0, 0, 0, 0), (1, 0, 0, 0), (4, 0, 3, 26), (4, 0, 7, 26)] (fun j => [(.agg #[.int .i64 R, .int .i64 K, .slice AG (R * K) cG]), (.int .i64 aI), (.int .i64 bI), undef, (.agg #[.int .i64 R, .int .i64 K, .slice AO (R * K) cO]), (.int .i64 aI), (.int .i64 bI), undef, undef, undef].getD j undef) (fun j => [PG.dflt, PG.dflt, PG.dflt, (PG.resizeG Gx aI bI), PG.dflt, PG.dflt, PG.dflt, (PG.resizeG Gx aI bI), PG.dflt, PG.dflt].getD j PG.dflt) (fun j => if j = 8 then gG else gO) (by kernel_rfl) (by kernel_rfl) (by kernel_rfl) rfl (by kernel_rfl) (fun j hk => by rcases only44 (k1 := 8) (k2 := 9) (by kernel_rfl) j hk with rfl | rfl; exact ⟨by simp, rfl, BG.out⟩; exact ⟨by simp, rfl, BO.out⟩) (fun i j h h' e => by rcases only44 (k1 := 8) (k2 := 9) (by kernel_rfl) i h with rfl | rfl <;> rcases only44 (k1 := 8) (k2 := 9) (by kernel_rfl) j h' with rfl | rfl; exact absurd rfl e; exact HNE.out; exact HNE.out.symm; exact absurd rfl e) (fun hRS => cases10 ⟨?_, ?_, ?_, ?_, ?_, ?_, ?_, ?_, ?_, ?_⟩) ?_
                · intro L a w' hL hsame hsz hJ hdep hcl
                  have e0 : a.eval (.tmp 11) = (.pointer (some ⟨gG, 0, none⟩)) := eval_base hsame (by kernel_rfl)
                  have hb := (show Box w' gG 26 #[.int .i64 R, .int .i64 K, .slice AG (R * K) cG] from hJ.old 8 rfl (late hcl hL (by kernel_rfl)))
                  have q0 : w'.cell? ⟨gG, 0, none⟩ = some (.int .i64 R) := hb.cell 0
                  have q1 : w'.cell? ⟨gG, 1, none⟩ = some (.int .i64 K) := hb.cell 1
                  have q2 : w'.cell? ⟨gG, 2, none⟩ = some (.slice AG (R * K) cG) := hb.cell 2
                  refine Step.val _ rfl rfl (wanted_none rfl) (.agg #[.int .i64 R, .int .i64 K, .slice AG (R * K) cG]) w' (fun ρ hρ => ?_) (hJ.val hRS hcl hL rfl (Below.refl _ _) _ rfl)
                  rw [hρ] at e0
                  clear hb
                  clear hJ hsame hdep hcl hρ hsz
                  go_simp
                · intro L a w' hL hsame hsz hJ hdep hcl
                  have e0 : a.eval (.tmp 20) = (.int .i64 aI) := eval_base hsame (by kernel_rfl)
                  refine Step.val _ rfl rfl (wanted_none rfl) (.int .i64 aI) w' (fun ρ hρ => ?_) (hJ.val hRS hcl hL rfl (Below.refl _ _) _ rfl)
                  rw [hρ] at e0
                  clear hJ hsame hdep hcl hρ hsz
                  go_simp
                · intro L a w' hL hsame hsz hJ hdep hcl
                  have e0 : a.eval (.tmp 21) = (.int .i64 bI) := eval_base hsame (by kernel_rfl)
                  refine Step.val _ rfl rfl (wanted_none rfl) (.int .i64 bI) w' (fun ρ hρ => ?_) (hJ.val hRS hcl hL rfl (Below.refl _ _) _ rfl)
                  rw [hρ] at e0
                  clear hJ hsame hdep hcl hρ hsz
                  go_simp
                · intro L a w' hL hsame hsz hJ hdep hcl
                  have e0 : a.eval (.tmp 123) = (.agg #[.int .i64 R, .int .i64 K, .slice AG (R * K) cG]) := eval_slot (j := 0) (by kernel_rfl) (hJ.valOf (by decide) (dep_of hdep 0 (by kernel_rfl)) rfl rfl)
                  have e1 : a.eval (.tmp 124) = (.int .i64 aI) := eval_slot (j := 1) (by kernel_rfl) (hJ.valOf (by decide) (dep_of hdep 1 (by kernel_rfl)) rfl rfl)
                  have e2 : a.eval (.tmp 125) = (.int .i64 bI) := eval_slot (j := 2) (by kernel_rfl) (hJ.valOf (by decide) (dep_of hdep 2 (by kernel_rfl)) rfl rfl)
                  refine Step.call _ rfl rfl (wanted_none rfl) 18 #[.agg #[.int .i64 R, .int .i64 K, .slice AG (R * K) cG], .int .i64 aI, .int .i64 bI] (fun ρ hρ => ?_) ?_
                  · skip
                    rw [hρ] at e0 e1 e2
                    have ef : ρ (.func 18) = .func (.func 18) #[] #[] := (hρ _).symm
                    clear hJ hsame hdep hcl hρ hsz
                    go_simp
                  · refine (u_resize HRX.out.1 (IG.out.keptS NR.out hJ.kept) aI bI (by have := HAB.out; omega) (by have := HAB.out; omega) (by have := HAB.out; omega) (by have := HAB.out; omega)).mono ?_
                    rintro e w2 ⟨v, rfl, hg, bb⟩
                    exact ⟨v, rfl, hJ.grid hRS hcl hL rfl bb v hg⟩
                · intro L a w' hL hsame hsz hJ hdep hcl
                  have e0 : a.eval (.tmp 12) = (.pointer (some ⟨gO, 0, none⟩)) := eval_base hsame (by kernel_rfl)
                  have hb := (show Box w' gO 26 #[.int .i64 R, .int .i64 K, .slice AO (R * K) cO] from hJ.old 9 rfl (late hcl hL (by kernel_rfl)))
                  have q0 : w'.cell? ⟨gO, 0, none⟩ = some (.int .i64 R) := hb.cell 0
                  have q1 : w'.cell? ⟨gO, 1, none⟩ = some (.int .i64 K) := hb.cell 1
                  have q2 : w'.cell? ⟨gO, 2, none⟩ = some (.slice AO (R * K) cO) := hb.cell 2
                  refine Step.val _ rfl rfl (wanted_none rfl) (.agg #[.int .i64 R, .int .i64 K, .slice AO (R * K) cO]) w' (fun ρ hρ => ?_) (hJ.val hRS hcl hL rfl (Below.refl _ _) _ rfl)
                  rw [hρ] at e0
                  clear hb
                  clear hJ hsame hdep hcl hρ hsz
                  go_simp
                · intro L a w' hL hsame hsz hJ hdep hcl
                  have e0 : a.eval (.tmp 20) = (.int .i64 aI) := eval_base hsame (by kernel_rfl)
                  refine Step.val _ rfl rfl (wanted_none rfl) (.int .i64 aI) w' (fun ρ hρ => ?_) (hJ.val hRS hcl hL rfl (Below.refl _ _) _ rfl)
                  rw [hρ] at e0
                  clear hJ hsame hdep hcl hρ hsz
                  go_simp
                · intro L a w' hL hsame hsz hJ hdep hcl
                  have e0 : a.eval (.tmp 21) = (.int .i64 bI) := eval_base hsame (by kernel_rfl)
                  refine Step.val _ rfl rfl (wanted_none rfl) (.int .i64 bI) w' (fun ρ hρ => ?_) (hJ.val hRS hcl hL rfl (Below.refl _ _) _ rfl)
                  rw [hρ] at e0
                  clear hJ hsame hdep hcl hρ hsz
                  go_simp
                · intro L a w' hL hsame hsz hJ hdep hcl
                  have e0 : a.eval (.tmp 127) = (.agg #[.int .i64 R, .int .i64 K, .slice AO (R * K) cO]) := eval_slot (j := 4) (by kernel_rfl) (hJ.valOf (by decide) (dep_of hdep 4 (by kernel_rfl)) rfl rfl)
                  have e1 : a.eval (.tmp 128) = (.int .i64 aI) := eval_slot (j := 5) (by kernel_rfl) (hJ.valOf (by decide) (dep_of hdep 5 (by kernel_rfl)) rfl rfl)
                  have e2 : a.eval (.tmp 129) = (.int .i64 bI) := eval_slot (j := 6) (by kernel_rfl) (hJ.valOf (by decide) (dep_of hdep 6 (by kernel_rfl)) rfl rfl)
                  refine Step.call _ rfl rfl (wanted_none rfl) 19 #[.agg #[.int .i64 R, .int .i64 K, .slice AO (R * K) cO], .int .i64 aI, .int .i64 bI] (fun ρ hρ => ?_) ?_
                  · skip
                    rw [hρ] at e0 e1 e2
                    have ef : ρ (.func 19) = .func (.func 19) #[] #[] := (hρ _).symm
                    clear hJ hsame hdep hcl hρ hsz
                    go_simp
                  · refine (r_resize HRX.out.1 (IO.out.keptS NR.out hJ.kept) aI bI (by have := HAB.out; omega) (by have := HAB.out; omega) (by have := HAB.out; omega) (by have := HAB.out; omega)).mono ?_
                    rintro e w2 ⟨v, rfl, hg, bb⟩
                    exact ⟨v, rfl, hJ.grid hRS hcl hL rfl bb v hg⟩
                · intro L a w' hL hsame hsz hJ hdep hcl
                  obtain ⟨sv, hsv, hso⟩ := hJ.gridOf (by decide) (dep_of hdep 3 (by kernel_rfl)) rfl
                  obtain ⟨sA, sc, rfl, _⟩ := own_form' hso
                  have es : a.eval (.tmp 126) = .agg #[.int .i64 ((PG.resizeG Gx aI bI)).rows, .int .i64 ((PG.resizeG Gx aI bI)).cols, .slice sA (((PG.resizeG Gx aI bI)).rows * ((PG.resizeG Gx aI bI)).cols) sc] := eval_slot (j := 3) (by kernel_rfl) hsv
                  have hb : Box w' gG 26 #[.int .i64 R, .int .i64 K, .slice AG (R * K) cG] := hJ.old 8 rfl hL
                  obtain ⟨m0, m1, m2, f0, f1, f2⟩ := Box.three (a := (.int .i64 R)) (b := (.int .i64 K)) (c := (.slice AG (R * K) cG)) hb
                  have ea : a.eval (.tmp 11) = .pointer (some ⟨gG, 0, none⟩) := eval_base hsame (by kernel_rfl)
                  refine Step.skip _ rfl (wanted_none rfl) (set3 w' gG (.int .i64 ((PG.resizeG Gx aI bI)).rows) (.int .i64 ((PG.resizeG Gx aI bI)).cols) (.slice sA (((PG.resizeG Gx aI bI)).rows * ((PG.resizeG Gx aI bI)).cols) sc)) (fun ρ hρ => ?_) (hJ.set hRS hcl hL rfl (dep_of hdep 3 (by kernel_rfl)) hsv)
                  rw [hρ] at es ea
                  clear hJ hsame hdep hcl hρ hsz hb hso hsv
                  unfold set3
                  go_simp
                · intro L a w' hL hsame hsz hJ hdep hcl
                  obtain ⟨sv, hsv, hso⟩ := hJ.gridOf (by decide) (dep_of hdep 7 (by kernel_rfl)) rfl
                  obtain ⟨sA, sc, rfl, _⟩ := own_form' hso
                  have es : a.eval (.tmp 130) = .agg #[.int .i64 ((PG.resizeG Gx aI bI)).rows, .int .i64 ((PG.resizeG Gx aI bI)).cols, .slice sA (((PG.resizeG Gx aI bI)).rows * ((PG.resizeG Gx aI bI)).cols) sc] := eval_slot (j := 7) (by kernel_rfl) hsv
                  have hb : Box w' gO 26 #[.int .i64 R, .int .i64 K, .slice AO (R * K) cO] := hJ.old 9 rfl hL
                  obtain ⟨m0, m1, m2, f0, f1, f2⟩ := Box.three (a := (.int .i64 R)) (b := (.int .i64 K)) (c := (.slice AO (R * K) cO)) hb
                  have ea : a.eval (.tmp 12) = .pointer (some ⟨gO, 0, none⟩) := eval_base hsame (by kernel_rfl)
                  refine Step.skip _ rfl (wanted_none rfl) (set3 w' gO (.int .i64 ((PG.resizeG Gx aI bI)).rows) (.int .i64 ((PG.resizeG Gx aI bI)).cols) (.slice sA (((PG.resizeG Gx aI bI)).rows * ((PG.resizeG Gx aI bI)).cols) sc)) (fun ρ hρ => ?_) (hJ.set hRS hcl hL rfl (dep_of hdep 7 (by kernel_rfl)) hsv)
                  rw [hρ] at es ea
                  clear hJ hsame hdep hcl hρ hsz hb hso hsv
                  unfold set3
                  go_simp
                · intro L a w' hsame hsz hJ hall
                  obtain ⟨u, hu, ha⟩ := act_puts hsame
                  have h : ((GBox w' (PG.resizeG Gx aI bI) gG ∧ GBox w' (PG.resizeG Gx aI bI) gO)) ∧ Kept [some gG, some gO] wc w' := by
                    (try simp only [hu])
                    exact (And.intro (And.intro (hJ.var4 hall 8 (by decide) rfl rfl (by decide) rfl) (hJ.var4 hall 9 (by decide) rfl rfl (by decide) rfl)) hJ.kept)
                  have h := hide h
                  clear hJ hall hsz hu hsame
                  subst ha
                  change Exit.inBlock _ _ Exit.normal (Act.put (Act.put (Act.put (Act.put (Act.put (Act.put (Act.put (Act.put (Act.put (Act.put (putAll _ u 0 _) (some 123) (u 0)) (some 124) (u 1)) (some 125) (u 2)) (some 126) (u 3)) (some 127) (u 4)) (some 128) (u 5)) (some 129) (u 6)) (some 130) (u 7)) none (u 8)) none (u 9)) _
                  simp only [putAll]
                  generalize u 0 = v0
                  generalize u 1 = v1
                  generalize u 2 = v2
                  generalize u 3 = v3
                  generalize u 4 = v4
                  generalize u 5 = v5
                  generalize u 6 = v6
                  generalize u 7 = v7
                  generalize u 8 = v8
                  generalize u 9 = v9
                  go_simp
                  obtain ⟨⟨hx1, hx2⟩, hx3⟩ := h.out
                  clear h
                  (try simp only [Exit.then, Exit.inBlock])
                  go_wp2_with fail
                  go_meet
                  exact ⟨⟨_, (PG.right_resizeG HRX.out.1 (by have := HAB.out; omega) (by have := HAB.out; omega) (by have := HAB.out; omega) (by have := HAB.out; omega)), (show aI ≤ 6 from HAB.out.2.1), (show bI ≤ 10 from HAB.out.2.2.2), hx1, hx2⟩, (Kept.trans (L := [some gG, some gO]) (Kept.of_below BC5.out) hx3 (fun x hx => From.mem hx))⟩
              · go_wp2_with fail
                go_meet
                exact ⟨⟨Gx, HRX.out.1, by rw [HRX.out.2.1]; exact HRX.out.2.2.2.1, by rw [HRX.out.2.2.1]; exact HRX.out.2.2.2.2.1, ⟨_, by rw [HRX.out.2.1, HRX.out.2.2.1]; exact BG.out, by rw [HRX.out.2.1, HRX.out.2.2.1]; exact IG.out⟩, ⟨_, by rw [HRX.out.2.1, HRX.out.2.2.1]; exact BO.out, by rw [HRX.out.2.1, HRX.out.2.2.1]; exact IO.out⟩⟩, Kept.refl _ _⟩
          case rest =>
          obtain ⟨⟨Gy, hry, hr6, hc10, vg, vo⟩, bk⟩ := hcut
          have hnBQ := HnBQ.out
          have hnBE := HnBE.out
          have bx := hide (bx.out.trans (bk.toBelow bx.out.size (by have := HGG.out; have := HGO.out; simp; omega)))
          have BQ := hide (BQ.out.kept bk hnBQ)
          have WAS := hide (WAS.out.keptS NR.out bk)
          have BE := hide (BE.out.kept bk hnBE)
          have IE := hide (IE.out.keptS NR.out bk)
          obtain ⟨R', hR⟩ : ∃ R, Gy.rows = R := ⟨_, rfl⟩
          obtain ⟨K', hK⟩ : ∃ K, Gy.cols = K := ⟨_, rfl⟩
          obtain ⟨AG', cG', hbG, -, -, -, hiG⟩ := vg.open_ hR hK
          obtain ⟨AO', cO', hbO, -, -, -, hiO⟩ := vo.open_ hR hK
          have HRY := hide (show PG.RightG Gy ∧ Gy.rows = R' ∧ Gy.cols = K' ∧ R' ≤ 6 ∧ K' ≤ 10 ∧ 1 ≤ R' ∧ 1 ≤ K' from ⟨hry, hR, hK, hR ▸ hr6, hK ▸ hc10, hR ▸ hry.1, hK ▸ hry.2.2.1⟩)
          have BG := hide (show Box wc gG 26 #[.int .i64 R', .int .i64 K', .slice AG' (R' * K') cG'] from hbG)
          have BO := hide (show Box wc gO 26 #[.int .i64 R', .int .i64 K', .slice AO' (R' * K') cO'] from hbO)
          have IG := hide (show IsG wc Gy (.agg #[.int .i64 R', .int .i64 K', .slice AG' (R' * K') cG']) from hiG)
          have IO := hide (show IsG wc Gy (.agg #[.int .i64 R', .int .i64 K', .slice AO' (R' * K') cO']) from hiO)
          clear hbG hbO hiG hiO hR hK vg vo hry hr6 hc10 bk hnBQ hnBE NR SPX HNS HnBQ HnBE HCV BQ
          obtain ⟨F, b, hat, hcs⟩ := atI_cases Gy rI cI
          go_upto_region 19 with fail
          go_cut [22, 23] from 131 to 137 (fun u v wx => (CBox F u wx ∧ v = .bool b) ∧ Below wc.heap.size wc wx)
          case first =>
            as_aux_lemma =>
              have AT := u_at HRY.out.1 IG.out rI cI
              rw [hat] at AT
              have AT := hide AT
              obtain ⟨m0, m1, m2, -, -, -⟩ := Box.three (a := .int .i64 R') (b := .int .i64 K') (c := .slice AG' (R' * K') cG') BG.out
              clear hat hcs
              go_wp2_with (
                go_at_call 20
                go_must (refine AT.out.mono ?_)
                rintro e w2 ⟨rfl, b2⟩
                unfold atv cv
                have b2 := hide b2
                clear m0 m1 m2)
              go_meet
              exact ⟨⟨⟨_, rfl, Box.new _ _ _⟩, rfl⟩, b2.out.alloc (by have := b2.out.size; omega) _⟩
          case rest =>
          obtain ⟨⟨⟨gC, rfl, hC⟩, rfl⟩, bc⟩ := hcut
          have bx := hide (bx.out.trans (bc.mono bx.out.size))
          have WAS := hide (WAS.out.low bc)
          have BE := hide (BE.out.below bc BE.out.lt)
          have IE := hide (IE.out.low bc)
          have BG := hide (BG.out.below bc BG.out.lt)
          have BO := hide (BO.out.below bc BO.out.lt)
          have IG := hide (IG.out.low bc)
          have IO := hide (IO.out.low bc)
          have B22 := hide (show Box wc gC 32 #[.int .i32 (PG.rn F), .int .i64 (PG.kd F), .int .i64 (PG.pn F).1, .int .i64 (PG.pn F).2.1, .int .i64 (PG.pn F).2.2] from hC)
          clear bc hC hat
          rw [HRY.out.2.1, HRY.out.2.2.1] at hcs
          have HCS := hide hcs
          clear hcs
          go_upto_region 20 with fail
          go_cut [24] from 138 to 155 (fun u wx => u = .bool b ∧ wx = wc)
          case first =>
            as_aux_lemma =>
              have m0 : wc.cell? ⟨gO, 0, none⟩ = some (.int .i64 R') := BO.out.cell 0
              have m1 : wc.cell? ⟨gO, 1, none⟩ = some (.int .i64 K') := BO.out.cell 1
              rcases HCS.out with ⟨rfl, ri, ci, rfl, rfl, hri, hci, hF⟩ | ⟨rfl, hno⟩
              · have e1 : (0 : Int) ≤ (ri : Int) := by omega
                have e2 : (ri : Int) < (R' : Int) := by omega
                have e3 : (0 : Int) ≤ (ci : Int) := by omega
                have e4 : (ci : Int) < (K' : Int) := by omega
                clear hF hri hci
                go_wp2_with fail
                go_meet
                exact ⟨rfl, rfl⟩
              · have hno : rI < 0 ∨ (0 ≤ rI ∧ (R' : Int) ≤ rI) ∨ (0 ≤ rI ∧ rI < R' ∧ cI < 0) ∨ (0 ≤ rI ∧ rI < R' ∧ 0 ≤ cI ∧ (K' : Int) ≤ cI) := by omega
                rcases hno with e1 | ⟨e1, e2⟩ | ⟨e1, e2, e3⟩ | ⟨e1, e2, e3, e4⟩
                all_goals
                  go_wp2_with fail
                  go_meet
                  exact ⟨by first | rfl | (simp only [Value.bool.injEq, decide_eq_false_iff_not]; omega), rfl⟩
          obtain ⟨rfl, rfl⟩ := hcut
          go_upto_region 21 with fail
          go_cut [199] from 156 to 198 (fun u wx => u = .bool false ∧ Below wc.heap.size wc wx)
          case first =>
            as_aux_lemma =>
              rcases HCS.out with ⟨rfl, ri, ci, rfl, rfl, hri, hci, hF⟩ | ⟨rfl, hno⟩
              · have hcell : (PG.cells Gy)[ri * K' + ci]? = some F := by
                  have h := PG.cells_at Gy (r := ri) (c := ci) (by rw [HRY.out.2.1]; exact hri) (by rw [HRY.out.2.2.1]; exact hci)
                  rw [HRY.out.2.2.1, hF] at h
                  exact h
                obtain ⟨adO, hadO, -, -⟩ := IO.out.seen.five hcell
                subst hadO
                have SPY := hide (SP.out.below bx.out SP.out.lt)
                obtain ⟨hmul, hadd, hix, hi60⟩ := mul_place hri HRY.out.2.2.2.1 hci HRY.out.2.2.2.2.1
                obtain ⟨ml, hml⟩ : ∃ m, ri * K' = m := ⟨_, rfl⟩
                rw [hml] at hmul hadd hix hcell
                obtain ⟨pl, hpl⟩ : ∃ m, ml + ci = m := ⟨_, rfl⟩
                rw [hpl] at hadd hix hcell
                obtain ⟨NN, hNN⟩ : ∃ m, R' * K' = m := ⟨_, rfl⟩
                rw [hNN] at hix BO IO
                have HAT := hide hcell
                have hix : (pl : Int) < (NN : Int) := by omega
                have hi0 : (0 : Int) ≤ (pl : Int) := by omega
                clear hcell hF hri hci hml hpl hNN hi60
                refine wp_region_rj (n := 201) [] (fun _ => #[]) [(0, 0, 0, 0), (0, 0, 0, 0), (0, 0, 0, 0), (0, 0, 0, 0), (0, 0, 0, 0), (0, 0, 0, 0), (0, 0, 0, 0), (0, 0, 0, 0), (0, 0, 0, 0), (0, 0, 0, 0), (0, 0, 0, 0), (0, 0, 0, 0), (0, 0, 0, 0), (0, 0, 0, 0), (0, 0, 0, 0), (0, 0, 0, 0), (0, 0, 0, 0), (0, 0, 0, 0), (0, 0, 0, 0), (0, 0, 0, 0), (0, 0, 0, 0), (0, 0, 0, 0), (0, 0, 0, 0), (0, 0, 0, 0), (0, 0, 0, 0), (0, 0, 0, 0), (0, 0, 0, 0), (0, 0, 0, 0), (0, 0, 0, 0), (0, 0, 0, 0), (0, 0, 0, 0), (0, 0, 0, 0), (0, 0, 0, 0), (0, 0, 0, 0), (0, 0, 0, 0), (0, 0, 0, 0), (0, 0, 0, 0), (0, 0, 0, 0), (0, 0, 0, 0), (0, 0, 0, 0), (0, 0, 0, 0), (0, 0, 0, 0), (0, 0, 0, 0), (0, 0, 0, 0)] (fun j => [(.agg #[.int .i64 R', .int .i64 K', .slice AG' (R' * K') cG']), (.agg #[.int .i64 R', .int .i64 K', .slice (some adO) NN cO']), (.bool true), (.bool false), (.bool false), (.agg #[.int .i64 R', .int .i64 K', .slice AG' (R' * K') cG']), (.bool true), (.bool false), (.bool false), (.bool false), (.agg #[.int .i64 R', .int .i64 K', .slice AG' (R' * K') cG']), (.agg #[.int .i64 R', .int .i64 K', .slice (some adO) NN cO']), (.bool true), (.bool false), (.bool false), (.bool false), (.bool true), (.bool true), (.bool false), (.bool false), (.bool false), (.bool true), (.bool true), (.agg #[.int .i32 (PG.rn F), .int .i64 (PG.kd F), .int .i64 (PG.pn F).1, .int .i64 (PG.pn F).2.1, .int .i64 (PG.pn F).2.2]), (.pointer (some ⟨gO, 2, none⟩)), (.slice (some adO) NN cO'), (.int .i64 ri), (.pointer (some ⟨gO, 1, none⟩)), (.int .i64 K'), (.int .i64 (ml : Int)), (.int .i64 ci), (.int .i64 (pl : Int)), (.pointer (some (adO.add (pl * 5)))), (.agg #[.int .i32 (PG.rn F), .int .i64 (PG.kd F), .int .i64 (PG.pn F).1, .int .i64 (PG.pn F).2.1, .int .i64 (PG.pn F).2.2]), (.bool false), (.bool false), (.bool false), (.bool false), (.pointer (some ⟨gE, 2, none⟩)), (.slice AG (R * K) cG), (.slice A2 n2 k2), (.bool true), (.bool false), (.bool false)].getD j undef) (fun j => [PG.dflt, PG.dflt, PG.dflt, PG.dflt, PG.dflt, PG.dflt, PG.dflt, PG.dflt, PG.dflt, PG.dflt, PG.dflt, PG.dflt, PG.dflt, PG.dflt, PG.dflt, PG.dflt, PG.dflt, PG.dflt, PG.dflt, PG.dflt, PG.dflt, PG.dflt, PG.dflt, PG.dflt, PG.dflt, PG.dflt, PG.dflt, PG.dflt, PG.dflt, PG.dflt, PG.dflt, PG.dflt, PG.dflt, PG.dflt, PG.dflt, PG.dflt, PG.dflt, PG.dflt, PG.dflt, PG.dflt, PG.dflt, PG.dflt, PG.dflt, PG.dflt].getD j PG.dflt) (fun _ => 0) (by kernel_rfl) (by kernel_rfl) (by kernel_rfl) rfl (by kernel_rfl) (no4 rfl) (fun i j h => by revert h; exact no4 (p := fun _ => _) rfl i) (fun hRS => cases44 ⟨?_, ?_, ?_, ?_, ?_, ?_, ?_, ?_, ?_, ?_, ?_, ?_, ?_, ?_, ?_, ?_, ?_, ?_, ?_, ?_, ?_, ?_, ?_, ?_, ?_, ?_, ?_, ?_, ?_, ?_, ?_, ?_, ?_, ?_, ?_, ?_, ?_, ?_, ?_, ?_, ?_, ?_, ?_, ?_⟩) ?_
                · intro L a w' hL hsame hsz hJ hdep hcl
                  have e0 : a.eval (.tmp 11) = (.pointer (some ⟨gG, 0, none⟩)) := eval_base hsame (by kernel_rfl)
                  have hb := hJ.keptBox BG.out (by simp)
                  have q0 : w'.cell? ⟨gG, 0, none⟩ = some (.int .i64 R') := hb.cell 0
                  have q1 : w'.cell? ⟨gG, 1, none⟩ = some (.int .i64 K') := hb.cell 1
                  have q2 : w'.cell? ⟨gG, 2, none⟩ = some (.slice AG' (R' * K') cG') := hb.cell 2
                  refine Step.val _ rfl rfl (wanted_none rfl) (.agg #[.int .i64 R', .int .i64 K', .slice AG' (R' * K') cG']) w' (fun ρ hρ => ?_) (hJ.val hRS hcl hL rfl (Below.refl _ _) _ rfl)
                  rw [hρ] at e0
                  clear hb
                  clear hJ hsame hdep hcl hρ hsz
                  go_simp
                · intro L a w' hL hsame hsz hJ hdep hcl
                  have e0 : a.eval (.tmp 12) = (.pointer (some ⟨gO, 0, none⟩)) := eval_base hsame (by kernel_rfl)
                  have hb := hJ.keptBox BO.out (by simp)
                  have q0 : w'.cell? ⟨gO, 0, none⟩ = some (.int .i64 R') := hb.cell 0
                  have q1 : w'.cell? ⟨gO, 1, none⟩ = some (.int .i64 K') := hb.cell 1
                  have q2 : w'.cell? ⟨gO, 2, none⟩ = some (.slice (some adO) NN cO') := hb.cell 2
                  refine Step.val _ rfl rfl (wanted_none rfl) (.agg #[.int .i64 R', .int .i64 K', .slice (some adO) NN cO']) w' (fun ρ hρ => ?_) (hJ.val hRS hcl hL rfl (Below.refl _ _) _ rfl)
                  rw [hρ] at e0
                  clear hb
                  clear hJ hsame hdep hcl hρ hsz
                  go_simp
                · intro L a w' hL hsame hsz hJ hdep hcl
                  have e0 : a.eval (.tmp 156) = (.agg #[.int .i64 R', .int .i64 K', .slice AG' (R' * K') cG']) := eval_slot (j := 0) (by kernel_rfl) (hJ.valOf (by decide) (dep_of hdep 0 (by kernel_rfl)) rfl rfl)
                  have e1 : a.eval (.tmp 157) = (.agg #[.int .i64 R', .int .i64 K', .slice (some adO) NN cO']) := eval_slot (j := 1) (by kernel_rfl) (hJ.valOf (by decide) (dep_of hdep 1 (by kernel_rfl)) rfl rfl)
                  refine Step.call _ rfl rfl (wanted_none rfl) 21 #[.agg #[.int .i64 R', .int .i64 K', .slice AG' (R' * K') cG'], .agg #[.int .i64 R', .int .i64 K', .slice (some adO) NN cO']] (fun ρ hρ => ?_) ?_
                  · skip
                    rw [hρ] at e0 e1
                    have ef : ρ (.func 21) = .func (.func 21) #[] #[] := (hρ _).symm
                    clear hJ hsame hdep hcl hρ hsz
                    go_simp
                  · refine (l_same HRY.out.1 (IG.out.low (hJ.kept.toBelow (Nat.le_refl _) (by simp))) (IO.out.low (hJ.kept.toBelow (Nat.le_refl _) (by simp)))).mono ?_
                    rintro e w2 ⟨rfl, bb⟩
                    exact ⟨_, rfl, hJ.val hRS hcl hL rfl bb _ rfl⟩
                · intro L a w' hL hsame hsz hJ hdep hcl
                  have e0 : a.eval (.tmp 158) = (.bool true) := eval_slot (j := 2) (by kernel_rfl) (hJ.valOf (by decide) (dep_of hdep 2 (by kernel_rfl)) rfl rfl)
                  refine Step.val _ rfl rfl (wanted_none rfl) (.bool false) w' (fun ρ hρ => ?_) (hJ.val hRS hcl hL rfl (Below.refl _ _) _ rfl)
                  rw [hρ] at e0
                  clear hJ hsame hdep hcl hρ hsz
                  go_simp
                · intro L a w' hL hsame hsz hJ hdep hcl
                  have e0 : a.eval (.tmp 159) = (.bool false) := eval_slot (j := 3) (by kernel_rfl) (hJ.valOf (by decide) (dep_of hdep 3 (by kernel_rfl)) rfl rfl)
                  refine Step.val _ rfl rfl (wanted_none rfl) (.bool false) w' (fun ρ hρ => ?_) (hJ.val hRS hcl hL rfl (Below.refl _ _) _ rfl)
                  rw [hρ] at e0
                  clear hJ hsame hdep hcl hρ hsz
                  go_simp
                · intro L a w' hL hsame hsz hJ hdep hcl
                  have gd : valOf _ 4 a = .bool false := hJ.valOf (by decide) (dep_of hdep 4 (by kernel_rfl)) rfl rfl
                  have e0 : a.eval (.tmp 11) = (.pointer (some ⟨gG, 0, none⟩)) := eval_base hsame (by kernel_rfl)
                  have hb := hJ.keptBox BG.out (by simp)
                  have q0 : w'.cell? ⟨gG, 0, none⟩ = some (.int .i64 R') := hb.cell 0
                  have q1 : w'.cell? ⟨gG, 1, none⟩ = some (.int .i64 K') := hb.cell 1
                  have q2 : w'.cell? ⟨gG, 2, none⟩ = some (.slice AG' (R' * K') cG') := hb.cell 2
                  refine Step.val _ rfl rfl (wanted_some (g := 4) (b := false) rfl gd) (.agg #[.int .i64 R', .int .i64 K', .slice AG' (R' * K') cG']) w' (fun ρ hρ => ?_) (hJ.val hRS hcl hL rfl (Below.refl _ _) _ rfl)
                  rw [hρ] at e0
                  clear hb
                  clear hJ hsame hdep hcl hρ hsz gd
                  go_simp
                · intro L a w' hL hsame hsz hJ hdep hcl
                  have gd : valOf _ 4 a = .bool false := hJ.valOf (by decide) (dep_of hdep 4 (by kernel_rfl)) rfl rfl
                  have e0 : a.eval (.tmp 161) = (.agg #[.int .i64 R', .int .i64 K', .slice AG' (R' * K') cG']) := eval_slot (j := 5) (by kernel_rfl) (hJ.valOf (by decide) (dep_of hdep 5 (by kernel_rfl)) rfl rfl)
                  refine Step.call _ rfl rfl (wanted_some (g := 4) (b := false) rfl gd) 11 #[.agg #[.int .i64 R', .int .i64 K', .slice AG' (R' * K') cG']] (fun ρ hρ => ?_) ?_
                  · skip
                    rw [hρ] at e0
                    have ef : ρ (.func 11) = .func (.func 11) #[] #[] := (hρ _).symm
                    clear hJ hsame hdep hcl hρ hsz gd
                    go_simp
                  · refine (u_right HRY.out.1 (IG.out.low (hJ.kept.toBelow (Nat.le_refl _) (by simp))) (SPY.out.keptS hJ.kept (by simp))).mono ?_
                    rintro e w2 ⟨rfl, bb⟩
                    exact ⟨_, rfl, hJ.val hRS hcl hL rfl bb _ rfl⟩
                · intro L a w' hL hsame hsz hJ hdep hcl
                  have gd : valOf _ 4 a = .bool false := hJ.valOf (by decide) (dep_of hdep 4 (by kernel_rfl)) rfl rfl
                  have e0 : a.eval (.tmp 162) = (.bool true) := eval_slot (j := 6) (by kernel_rfl) (hJ.valOf (by decide) (dep_of hdep 6 (by kernel_rfl)) rfl rfl)
                  refine Step.val _ rfl rfl (wanted_some (g := 4) (b := false) rfl gd) (.bool false) w' (fun ρ hρ => ?_) (hJ.val hRS hcl hL rfl (Below.refl _ _) _ rfl)
                  rw [hρ] at e0
                  clear hJ hsame hdep hcl hρ hsz gd
                  go_simp
                · intro L a w' hL hsame hsz hJ hdep hcl
                  have e0 : a.eval (.tmp 160) = (.bool false) := eval_slot (j := 4) (by kernel_rfl) (hJ.valOf (by decide) (dep_of hdep 4 (by kernel_rfl)) rfl rfl)
                  have e2 : a.eval (.tmp 163) = (.bool false) := eval_slot (j := 7) (by kernel_rfl) (hJ.valOf (by decide) (dep_of hdep 7 (by kernel_rfl)) rfl rfl)
                  refine Step.val _ rfl rfl (wanted_none rfl) (.bool false) w' (fun ρ hρ => ?_) (hJ.val hRS hcl hL rfl (Below.refl _ _) _ rfl)
                  rw [hρ] at e0 e2
                  have ec0 : ρ (.const (.bool true)) = (.bool true) := (hρ _).symm
                  clear hJ hsame hdep hcl hρ hsz
                  go_simp
                · intro L a w' hL hsame hsz hJ hdep hcl
                  have e0 : a.eval (.tmp 164) = (.bool false) := eval_slot (j := 8) (by kernel_rfl) (hJ.valOf (by decide) (dep_of hdep 8 (by kernel_rfl)) rfl rfl)
                  refine Step.val _ rfl rfl (wanted_none rfl) (.bool false) w' (fun ρ hρ => ?_) (hJ.val hRS hcl hL rfl (Below.refl _ _) _ rfl)
                  rw [hρ] at e0
                  clear hJ hsame hdep hcl hρ hsz
                  go_simp
                · intro L a w' hL hsame hsz hJ hdep hcl
                  have gd : valOf _ 9 a = .bool false := hJ.valOf (by decide) (dep_of hdep 9 (by kernel_rfl)) rfl rfl
                  have e0 : a.eval (.tmp 11) = (.pointer (some ⟨gG, 0, none⟩)) := eval_base hsame (by kernel_rfl)
                  have hb := hJ.keptBox BG.out (by simp)
                  have q0 : w'.cell? ⟨gG, 0, none⟩ = some (.int .i64 R') := hb.cell 0
                  have q1 : w'.cell? ⟨gG, 1, none⟩ = some (.int .i64 K') := hb.cell 1
                  have q2 : w'.cell? ⟨gG, 2, none⟩ = some (.slice AG' (R' * K') cG') := hb.cell 2
                  refine Step.val _ rfl rfl (wanted_some (g := 9) (b := false) rfl gd) (.agg #[.int .i64 R', .int .i64 K', .slice AG' (R' * K') cG']) w' (fun ρ hρ => ?_) (hJ.val hRS hcl hL rfl (Below.refl _ _) _ rfl)
                  rw [hρ] at e0
                  clear hb
                  clear hJ hsame hdep hcl hρ hsz gd
                  go_simp
                · intro L a w' hL hsame hsz hJ hdep hcl
                  have gd : valOf _ 9 a = .bool false := hJ.valOf (by decide) (dep_of hdep 9 (by kernel_rfl)) rfl rfl
                  have e0 : a.eval (.tmp 12) = (.pointer (some ⟨gO, 0, none⟩)) := eval_base hsame (by kernel_rfl)
                  have hb := hJ.keptBox BO.out (by simp)
                  have q0 : w'.cell? ⟨gO, 0, none⟩ = some (.int .i64 R') := hb.cell 0
                  have q1 : w'.cell? ⟨gO, 1, none⟩ = some (.int .i64 K') := hb.cell 1
                  have q2 : w'.cell? ⟨gO, 2, none⟩ = some (.slice (some adO) NN cO') := hb.cell 2
                  refine Step.val _ rfl rfl (wanted_some (g := 9) (b := false) rfl gd) (.agg #[.int .i64 R', .int .i64 K', .slice (some adO) NN cO']) w' (fun ρ hρ => ?_) (hJ.val hRS hcl hL rfl (Below.refl _ _) _ rfl)
                  rw [hρ] at e0
                  clear hb
                  clear hJ hsame hdep hcl hρ hsz gd
                  go_simp
                · intro L a w' hL hsame hsz hJ hdep hcl
                  have gd : valOf _ 9 a = .bool false := hJ.valOf (by decide) (dep_of hdep 9 (by kernel_rfl)) rfl rfl
                  have e0 : a.eval (.tmp 166) = (.agg #[.int .i64 R', .int .i64 K', .slice AG' (R' * K') cG']) := eval_slot (j := 10) (by kernel_rfl) (hJ.valOf (by decide) (dep_of hdep 10 (by kernel_rfl)) rfl rfl)
                  have e1 : a.eval (.tmp 167) = (.agg #[.int .i64 R', .int .i64 K', .slice (some adO) NN cO']) := eval_slot (j := 11) (by kernel_rfl) (hJ.valOf (by decide) (dep_of hdep 11 (by kernel_rfl)) rfl rfl)
                  refine Step.call _ rfl rfl (wanted_some (g := 9) (b := false) rfl gd) 22 #[.agg #[.int .i64 R', .int .i64 K', .slice AG' (R' * K') cG'], .agg #[.int .i64 R', .int .i64 K', .slice (some adO) NN cO']] (fun ρ hρ => ?_) ?_
                  · skip
                    rw [hρ] at e0 e1
                    have ef : ρ (.func 22) = .func (.func 22) #[] #[] := (hρ _).symm
                    clear hJ hsame hdep hcl hρ hsz gd
                    go_simp
                  · refine (u_same HRY.out.1 (IG.out.low (hJ.kept.toBelow (Nat.le_refl _) (by simp))) (IO.out.low (hJ.kept.toBelow (Nat.le_refl _) (by simp))) (PG.Alike.refl _)).mono ?_
                    rintro e w2 ⟨rfl, bb⟩
                    exact ⟨_, rfl, hJ.val hRS hcl hL rfl bb _ rfl⟩
                · intro L a w' hL hsame hsz hJ hdep hcl
                  have gd : valOf _ 9 a = .bool false := hJ.valOf (by decide) (dep_of hdep 9 (by kernel_rfl)) rfl rfl
                  have e0 : a.eval (.tmp 168) = (.bool true) := eval_slot (j := 12) (by kernel_rfl) (hJ.valOf (by decide) (dep_of hdep 12 (by kernel_rfl)) rfl rfl)
                  refine Step.val _ rfl rfl (wanted_some (g := 9) (b := false) rfl gd) (.bool false) w' (fun ρ hρ => ?_) (hJ.val hRS hcl hL rfl (Below.refl _ _) _ rfl)
                  rw [hρ] at e0
                  clear hJ hsame hdep hcl hρ hsz gd
                  go_simp
                · intro L a w' hL hsame hsz hJ hdep hcl
                  have e0 : a.eval (.tmp 165) = (.bool false) := eval_slot (j := 9) (by kernel_rfl) (hJ.valOf (by decide) (dep_of hdep 9 (by kernel_rfl)) rfl rfl)
                  have e2 : a.eval (.tmp 169) = (.bool false) := eval_slot (j := 13) (by kernel_rfl) (hJ.valOf (by decide) (dep_of hdep 13 (by kernel_rfl)) rfl rfl)
                  refine Step.val _ rfl rfl (wanted_none rfl) (.bool false) w' (fun ρ hρ => ?_) (hJ.val hRS hcl hL rfl (Below.refl _ _) _ rfl)
                  rw [hρ] at e0 e2
                  have ec0 : ρ (.const (.bool true)) = (.bool true) := (hρ _).symm
                  clear hJ hsame hdep hcl hρ hsz
                  go_simp
                · intro L a w' hL hsame hsz hJ hdep hcl
                  have e0 : a.eval (.tmp 170) = (.bool false) := eval_slot (j := 14) (by kernel_rfl) (hJ.valOf (by decide) (dep_of hdep 14 (by kernel_rfl)) rfl rfl)
                  refine Step.val _ rfl rfl (wanted_none rfl) (.bool false) w' (fun ρ hρ => ?_) (hJ.val hRS hcl hL rfl (Below.refl _ _) _ rfl)
                  rw [hρ] at e0
                  clear hJ hsame hdep hcl hρ hsz
                  go_simp
                · intro L a w' hL hsame hsz hJ hdep hcl
                  have gd : valOf _ 15 a = .bool false := hJ.valOf (by decide) (dep_of hdep 15 (by kernel_rfl)) rfl rfl
                  have e0 : a.eval (.tmp 23) = (.bool true) := eval_base hsame (by kernel_rfl)
                  refine Step.val _ rfl rfl (wanted_some (g := 15) (b := false) rfl gd) (.bool true) w' (fun ρ hρ => ?_) (hJ.val hRS hcl hL rfl (Below.refl _ _) _ rfl)
                  rw [hρ] at e0
                  clear hJ hsame hdep hcl hρ hsz gd
                  go_simp
                · intro L a w' hL hsame hsz hJ hdep hcl
                  have gd : valOf _ 15 a = .bool false := hJ.valOf (by decide) (dep_of hdep 15 (by kernel_rfl)) rfl rfl
                  have e0 : a.eval (.tmp 24) = (.bool true) := eval_base hsame (by kernel_rfl)
                  refine Step.val _ rfl rfl (wanted_some (g := 15) (b := false) rfl gd) (.bool true) w' (fun ρ hρ => ?_) (hJ.val hRS hcl hL rfl (Below.refl _ _) _ rfl)
                  rw [hρ] at e0
                  clear hJ hsame hdep hcl hρ hsz gd
                  go_simp
                · intro L a w' hL hsame hsz hJ hdep hcl
                  have gd : valOf _ 15 a = .bool false := hJ.valOf (by decide) (dep_of hdep 15 (by kernel_rfl)) rfl rfl
                  have e0 : a.eval (.tmp 172) = (.bool true) := eval_slot (j := 16) (by kernel_rfl) (hJ.valOf (by decide) (dep_of hdep 16 (by kernel_rfl)) rfl rfl)
                  have e1 : a.eval (.tmp 173) = (.bool true) := eval_slot (j := 17) (by kernel_rfl) (hJ.valOf (by decide) (dep_of hdep 17 (by kernel_rfl)) rfl rfl)
                  refine Step.val _ rfl rfl (wanted_some (g := 15) (b := false) rfl gd) (.bool false) w' (fun ρ hρ => ?_) (hJ.val hRS hcl hL rfl (Below.refl _ _) _ rfl)
                  rw [hρ] at e0 e1
                  clear hJ hsame hdep hcl hρ hsz gd
                  go_simp
                · intro L a w' hL hsame hsz hJ hdep hcl
                  have e0 : a.eval (.tmp 171) = (.bool false) := eval_slot (j := 15) (by kernel_rfl) (hJ.valOf (by decide) (dep_of hdep 15 (by kernel_rfl)) rfl rfl)
                  have e2 : a.eval (.tmp 174) = (.bool false) := eval_slot (j := 18) (by kernel_rfl) (hJ.valOf (by decide) (dep_of hdep 18 (by kernel_rfl)) rfl rfl)
                  refine Step.val _ rfl rfl (wanted_none rfl) (.bool false) w' (fun ρ hρ => ?_) (hJ.val hRS hcl hL rfl (Below.refl _ _) _ rfl)
                  rw [hρ] at e0 e2
                  have ec0 : ρ (.const (.bool true)) = (.bool true) := (hρ _).symm
                  clear hJ hsame hdep hcl hρ hsz
                  go_simp
                · intro L a w' hL hsame hsz hJ hdep hcl
                  have e0 : a.eval (.tmp 175) = (.bool false) := eval_slot (j := 19) (by kernel_rfl) (hJ.valOf (by decide) (dep_of hdep 19 (by kernel_rfl)) rfl rfl)
                  refine Step.val _ rfl rfl (wanted_none rfl) (.bool false) w' (fun ρ hρ => ?_) (hJ.val hRS hcl hL rfl (Below.refl _ _) _ rfl)
                  rw [hρ] at e0
                  clear hJ hsame hdep hcl hρ hsz
                  go_simp
                · intro L a w' hL hsame hsz hJ hdep hcl
                  have gd : valOf _ 20 a = .bool false := hJ.valOf (by decide) (dep_of hdep 20 (by kernel_rfl)) rfl rfl
                  have e0 : a.eval (.tmp 24) = (.bool true) := eval_base hsame (by kernel_rfl)
                  refine Step.val _ rfl rfl (wanted_some (g := 20) (b := false) rfl gd) (.bool true) w' (fun ρ hρ => ?_) (hJ.val hRS hcl hL rfl (Below.refl _ _) _ rfl)
                  rw [hρ] at e0
                  clear hJ hsame hdep hcl hρ hsz gd
                  go_simp
                · intro L a w' hL hsame hsz hJ hdep hcl
                  have gd : valOf _ 20 a = .bool false := hJ.valOf (by decide) (dep_of hdep 20 (by kernel_rfl)) rfl rfl
                  have e0 : a.eval (.tmp 177) = (.bool true) := eval_slot (j := 21) (by kernel_rfl) (hJ.valOf (by decide) (dep_of hdep 21 (by kernel_rfl)) rfl rfl)
                  refine Step.val _ rfl rfl (wanted_some (g := 20) (b := false) rfl gd) (.bool true) w' (fun ρ hρ => ?_) (hJ.val hRS hcl hL rfl (Below.refl _ _) _ rfl)
                  rw [hρ] at e0
                  clear hJ hsame hdep hcl hρ hsz gd
                  go_simp
                · intro L a w' hL hsame hsz hJ hdep hcl
                  have gd : valOf _ 22 a = .bool true := hJ.valOf (by decide) (dep_of hdep 22 (by kernel_rfl)) rfl rfl
                  have e0 : a.eval (.tmp 22) = (.pointer (some ⟨gC, 0, none⟩)) := eval_base hsame (by kernel_rfl)
                  have hb := hJ.keptBox B22.out (by simp)
                  have q0 : w'.cell? ⟨gC, 0, none⟩ = some (.int .i32 (PG.rn F)) := hb.cell 0
                  have q1 : w'.cell? ⟨gC, 1, none⟩ = some (.int .i64 (PG.kd F)) := hb.cell 1
                  have q2 : w'.cell? ⟨gC, 2, none⟩ = some (.int .i64 (PG.pn F).1) := hb.cell 2
                  have q3 : w'.cell? ⟨gC, 3, none⟩ = some (.int .i64 (PG.pn F).2.1) := hb.cell 3
                  have q4 : w'.cell? ⟨gC, 4, none⟩ = some (.int .i64 (PG.pn F).2.2) := hb.cell 4
                  refine Step.val _ rfl rfl (wanted_some (g := 22) (b := true) rfl gd) (.agg #[.int .i32 (PG.rn F), .int .i64 (PG.kd F), .int .i64 (PG.pn F).1, .int .i64 (PG.pn F).2.1, .int .i64 (PG.pn F).2.2]) w' (fun ρ hρ => ?_) (hJ.val hRS hcl hL rfl (Below.refl _ _) _ rfl)
                  rw [hρ] at e0
                  clear hb
                  clear hJ hsame hdep hcl hρ hsz gd
                  go_simp
                · intro L a w' hL hsame hsz hJ hdep hcl
                  have gd : valOf _ 22 a = .bool true := hJ.valOf (by decide) (dep_of hdep 22 (by kernel_rfl)) rfl rfl
                  have e0 : a.eval (.tmp 12) = (.pointer (some ⟨gO, 0, none⟩)) := eval_base hsame (by kernel_rfl)
                  refine Step.val _ rfl rfl (wanted_some (g := 22) (b := true) rfl gd) (.pointer (some ⟨gO, 2, none⟩)) w' (fun ρ hρ => ?_) (hJ.val hRS hcl hL rfl (Below.refl _ _) _ rfl)
                  rw [hρ] at e0
                  clear hJ hsame hdep hcl hρ hsz gd
                  go_simp
                · intro L a w' hL hsame hsz hJ hdep hcl
                  have gd : valOf _ 22 a = .bool true := hJ.valOf (by decide) (dep_of hdep 22 (by kernel_rfl)) rfl rfl
                  have e0 : a.eval (.tmp 180) = (.pointer (some ⟨gO, 2, none⟩)) := eval_slot (j := 24) (by kernel_rfl) (hJ.valOf (by decide) (dep_of hdep 24 (by kernel_rfl)) rfl rfl)
                  have hb := hJ.keptBox BO.out (by simp)
                  have q0 : w'.cell? ⟨gO, 2, none⟩ = some (.slice (some adO) NN cO') := hb.cell 2
                  refine Step.val _ rfl rfl (wanted_some (g := 22) (b := true) rfl gd) (.slice (some adO) NN cO') w' (fun ρ hρ => ?_) (hJ.val hRS hcl hL rfl (Below.refl _ _) _ rfl)
                  rw [hρ] at e0
                  clear hb
                  clear hJ hsame hdep hcl hρ hsz gd
                  go_simp
                · intro L a w' hL hsame hsz hJ hdep hcl
                  have gd : valOf _ 22 a = .bool true := hJ.valOf (by decide) (dep_of hdep 22 (by kernel_rfl)) rfl rfl
                  have e0 : a.eval (.tmp 17) = (.int .i64 ri) := eval_base hsame (by kernel_rfl)
                  refine Step.val _ rfl rfl (wanted_some (g := 22) (b := true) rfl gd) (.int .i64 ri) w' (fun ρ hρ => ?_) (hJ.val hRS hcl hL rfl (Below.refl _ _) _ rfl)
                  rw [hρ] at e0
                  clear hJ hsame hdep hcl hρ hsz gd
                  go_simp
                · intro L a w' hL hsame hsz hJ hdep hcl
                  have gd : valOf _ 22 a = .bool true := hJ.valOf (by decide) (dep_of hdep 22 (by kernel_rfl)) rfl rfl
                  have e0 : a.eval (.tmp 12) = (.pointer (some ⟨gO, 0, none⟩)) := eval_base hsame (by kernel_rfl)
                  refine Step.val _ rfl rfl (wanted_some (g := 22) (b := true) rfl gd) (.pointer (some ⟨gO, 1, none⟩)) w' (fun ρ hρ => ?_) (hJ.val hRS hcl hL rfl (Below.refl _ _) _ rfl)
                  rw [hρ] at e0
                  clear hJ hsame hdep hcl hρ hsz gd
                  go_simp
                · intro L a w' hL hsame hsz hJ hdep hcl
                  have gd : valOf _ 22 a = .bool true := hJ.valOf (by decide) (dep_of hdep 22 (by kernel_rfl)) rfl rfl
                  have e0 : a.eval (.tmp 183) = (.pointer (some ⟨gO, 1, none⟩)) := eval_slot (j := 27) (by kernel_rfl) (hJ.valOf (by decide) (dep_of hdep 27 (by kernel_rfl)) rfl rfl)
                  have hb := hJ.keptBox BO.out (by simp)
                  have q0 : w'.cell? ⟨gO, 1, none⟩ = some (.int .i64 K') := hb.cell 1
                  refine Step.val _ rfl rfl (wanted_some (g := 22) (b := true) rfl gd) (.int .i64 K') w' (fun ρ hρ => ?_) (hJ.val hRS hcl hL rfl (Below.refl _ _) _ rfl)
                  rw [hρ] at e0
                  clear hb
                  clear hJ hsame hdep hcl hρ hsz gd
                  go_simp
                · intro L a w' hL hsame hsz hJ hdep hcl
                  have gd : valOf _ 22 a = .bool true := hJ.valOf (by decide) (dep_of hdep 22 (by kernel_rfl)) rfl rfl
                  have e0 : a.eval (.tmp 182) = (.int .i64 ri) := eval_slot (j := 26) (by kernel_rfl) (hJ.valOf (by decide) (dep_of hdep 26 (by kernel_rfl)) rfl rfl)
                  have e1 : a.eval (.tmp 184) = (.int .i64 K') := eval_slot (j := 28) (by kernel_rfl) (hJ.valOf (by decide) (dep_of hdep 28 (by kernel_rfl)) rfl rfl)
                  refine Step.val _ rfl rfl (wanted_some (g := 22) (b := true) rfl gd) (.int .i64 (ml : Int)) w' (fun ρ hρ => ?_) (hJ.val hRS hcl hL rfl (Below.refl _ _) _ rfl)
                  rw [hρ] at e0 e1
                  clear hJ hsame hdep hcl hρ hsz gd
                  go_simp
                · intro L a w' hL hsame hsz hJ hdep hcl
                  have gd : valOf _ 22 a = .bool true := hJ.valOf (by decide) (dep_of hdep 22 (by kernel_rfl)) rfl rfl
                  have e0 : a.eval (.tmp 18) = (.int .i64 ci) := eval_base hsame (by kernel_rfl)
                  refine Step.val _ rfl rfl (wanted_some (g := 22) (b := true) rfl gd) (.int .i64 ci) w' (fun ρ hρ => ?_) (hJ.val hRS hcl hL rfl (Below.refl _ _) _ rfl)
                  rw [hρ] at e0
                  clear hJ hsame hdep hcl hρ hsz gd
                  go_simp
                · intro L a w' hL hsame hsz hJ hdep hcl
                  have gd : valOf _ 22 a = .bool true := hJ.valOf (by decide) (dep_of hdep 22 (by kernel_rfl)) rfl rfl
                  have e0 : a.eval (.tmp 185) = (.int .i64 (ml : Int)) := eval_slot (j := 29) (by kernel_rfl) (hJ.valOf (by decide) (dep_of hdep 29 (by kernel_rfl)) rfl rfl)
                  have e1 : a.eval (.tmp 186) = (.int .i64 ci) := eval_slot (j := 30) (by kernel_rfl) (hJ.valOf (by decide) (dep_of hdep 30 (by kernel_rfl)) rfl rfl)
                  refine Step.val _ rfl rfl (wanted_some (g := 22) (b := true) rfl gd) (.int .i64 (pl : Int)) w' (fun ρ hρ => ?_) (hJ.val hRS hcl hL rfl (Below.refl _ _) _ rfl)
                  rw [hρ] at e0 e1
                  clear hJ hsame hdep hcl hρ hsz gd
                  go_simp
                · intro L a w' hL hsame hsz hJ hdep hcl
                  have gd : valOf _ 22 a = .bool true := hJ.valOf (by decide) (dep_of hdep 22 (by kernel_rfl)) rfl rfl
                  have e0 : a.eval (.tmp 181) = (.slice (some adO) NN cO') := eval_slot (j := 25) (by kernel_rfl) (hJ.valOf (by decide) (dep_of hdep 25 (by kernel_rfl)) rfl rfl)
                  have e1 : a.eval (.tmp 187) = (.int .i64 (pl : Int)) := eval_slot (j := 31) (by kernel_rfl) (hJ.valOf (by decide) (dep_of hdep 31 (by kernel_rfl)) rfl rfl)
                  refine Step.val _ rfl rfl (wanted_some (g := 22) (b := true) rfl gd) (.pointer (some (adO.add (pl * 5)))) w' (fun ρ hρ => ?_) (hJ.val hRS hcl hL rfl (Below.refl _ _) _ rfl)
                  rw [hρ] at e0 e1
                  clear hJ hsame hdep hcl hρ hsz gd
                  go_simp
                · intro L a w' hL hsame hsz hJ hdep hcl
                  have gd : valOf _ 22 a = .bool true := hJ.valOf (by decide) (dep_of hdep 22 (by kernel_rfl)) rfl rfl
                  have e0 : a.eval (.tmp 188) = (.pointer (some (adO.add (pl * 5)))) := eval_slot (j := 32) (by kernel_rfl) (hJ.valOf (by decide) (dep_of hdep 32 (by kernel_rfl)) rfl rfl)
                  have hb := True.intro
                  obtain ⟨_, hsome, _, q0, q1, q2, q3, q4⟩ := ((IO.out.low (hJ.kept.toBelow (Nat.le_refl _) (by simp))).seen).five HAT.out
                  injection hsome with hsome
                  subst hsome
                  refine Step.val _ rfl rfl (wanted_some (g := 22) (b := true) rfl gd) (.agg #[.int .i32 (PG.rn F), .int .i64 (PG.kd F), .int .i64 (PG.pn F).1, .int .i64 (PG.pn F).2.1, .int .i64 (PG.pn F).2.2]) w' (fun ρ hρ => ?_) (hJ.val hRS hcl hL rfl (Below.refl _ _) _ rfl)
                  rw [hρ] at e0
                  clear hb
                  clear hJ hsame hdep hcl hρ hsz gd
                  go_simp
                · intro L a w' hL hsame hsz hJ hdep hcl
                  have gd : valOf _ 22 a = .bool true := hJ.valOf (by decide) (dep_of hdep 22 (by kernel_rfl)) rfl rfl
                  have e0 : a.eval (.tmp 179) = (.agg #[.int .i32 (PG.rn F), .int .i64 (PG.kd F), .int .i64 (PG.pn F).1, .int .i64 (PG.pn F).2.1, .int .i64 (PG.pn F).2.2]) := eval_slot (j := 23) (by kernel_rfl) (hJ.valOf (by decide) (dep_of hdep 23 (by kernel_rfl)) rfl rfl)
                  have e1 : a.eval (.tmp 189) = (.agg #[.int .i32 (PG.rn F), .int .i64 (PG.kd F), .int .i64 (PG.pn F).1, .int .i64 (PG.pn F).2.1, .int .i64 (PG.pn F).2.2]) := eval_slot (j := 33) (by kernel_rfl) (hJ.valOf (by decide) (dep_of hdep 33 (by kernel_rfl)) rfl rfl)
                  refine Step.val _ rfl rfl (wanted_some (g := 22) (b := true) rfl gd) (.bool false) w' (fun ρ hρ => ?_) (hJ.val hRS hcl hL rfl (Below.refl _ _) _ rfl)
                  rw [hρ] at e0 e1
                  clear hJ hsame hdep hcl hρ hsz gd
                  go_simp
                · intro L a w' hL hsame hsz hJ hdep hcl
                  have gd : valOf _ 20 a = .bool false := hJ.valOf (by decide) (dep_of hdep 20 (by kernel_rfl)) rfl rfl
                  have e0 : a.eval (.tmp 178) = (.bool true) := eval_slot (j := 22) (by kernel_rfl) (hJ.valOf (by decide) (dep_of hdep 22 (by kernel_rfl)) rfl rfl)
                  have e1 : a.eval (.tmp 190) = (.bool false) := eval_slot (j := 34) (by kernel_rfl) (hJ.valOf (by decide) (dep_of hdep 34 (by kernel_rfl)) rfl rfl)
                  refine Step.val _ rfl rfl (wanted_some (g := 20) (b := false) rfl gd) (.bool false) w' (fun ρ hρ => ?_) (hJ.val hRS hcl hL rfl (Below.refl _ _) _ rfl)
                  rw [hρ] at e0 e1
                  have ec0 : ρ (.const (.bool false)) = (.bool false) := (hρ _).symm
                  clear hJ hsame hdep hcl hρ hsz gd
                  go_simp
                · intro L a w' hL hsame hsz hJ hdep hcl
                  have e0 : a.eval (.tmp 176) = (.bool false) := eval_slot (j := 20) (by kernel_rfl) (hJ.valOf (by decide) (dep_of hdep 20 (by kernel_rfl)) rfl rfl)
                  have e2 : a.eval (.tmp 191) = (.bool false) := eval_slot (j := 35) (by kernel_rfl) (hJ.valOf (by decide) (dep_of hdep 35 (by kernel_rfl)) rfl rfl)
                  refine Step.val _ rfl rfl (wanted_none rfl) (.bool false) w' (fun ρ hρ => ?_) (hJ.val hRS hcl hL rfl (Below.refl _ _) _ rfl)
                  rw [hρ] at e0 e2
                  have ec0 : ρ (.const (.bool true)) = (.bool true) := (hρ _).symm
                  clear hJ hsame hdep hcl hρ hsz
                  go_simp
                · intro L a w' hL hsame hsz hJ hdep hcl
                  have e0 : a.eval (.tmp 192) = (.bool false) := eval_slot (j := 36) (by kernel_rfl) (hJ.valOf (by decide) (dep_of hdep 36 (by kernel_rfl)) rfl rfl)
                  refine Step.val _ rfl rfl (wanted_none rfl) (.bool false) w' (fun ρ hρ => ?_) (hJ.val hRS hcl hL rfl (Below.refl _ _) _ rfl)
                  rw [hρ] at e0
                  clear hJ hsame hdep hcl hρ hsz
                  go_simp
                · intro L a w' hL hsame hsz hJ hdep hcl
                  have gd : valOf _ 37 a = .bool false := hJ.valOf (by decide) (dep_of hdep 37 (by kernel_rfl)) rfl rfl
                  have e0 : a.eval (.tmp 16) = (.pointer (some ⟨gE, 0, none⟩)) := eval_base hsame (by kernel_rfl)
                  refine Step.val _ rfl rfl (wanted_some (g := 37) (b := false) rfl gd) (.pointer (some ⟨gE, 2, none⟩)) w' (fun ρ hρ => ?_) (hJ.val hRS hcl hL rfl (Below.refl _ _) _ rfl)
                  rw [hρ] at e0
                  clear hJ hsame hdep hcl hρ hsz gd
                  go_simp
                · intro L a w' hL hsame hsz hJ hdep hcl
                  have gd : valOf _ 37 a = .bool false := hJ.valOf (by decide) (dep_of hdep 37 (by kernel_rfl)) rfl rfl
                  have e0 : a.eval (.tmp 194) = (.pointer (some ⟨gE, 2, none⟩)) := eval_slot (j := 38) (by kernel_rfl) (hJ.valOf (by decide) (dep_of hdep 38 (by kernel_rfl)) rfl rfl)
                  have hb := hJ.keptBox BE.out (by simp)
                  have q0 : w'.cell? ⟨gE, 2, none⟩ = some (.slice AG (R * K) cG) := hb.cell 2
                  refine Step.val _ rfl rfl (wanted_some (g := 37) (b := false) rfl gd) (.slice AG (R * K) cG) w' (fun ρ hρ => ?_) (hJ.val hRS hcl hL rfl (Below.refl _ _) _ rfl)
                  rw [hρ] at e0
                  clear hb
                  clear hJ hsame hdep hcl hρ hsz gd
                  go_simp
                · intro L a w' hL hsame hsz hJ hdep hcl
                  have gd : valOf _ 37 a = .bool false := hJ.valOf (by decide) (dep_of hdep 37 (by kernel_rfl)) rfl rfl
                  have e0 : a.eval (.tmp 15) = (.slice A2 n2 k2) := eval_base hsame (by kernel_rfl)
                  refine Step.val _ rfl rfl (wanted_some (g := 37) (b := false) rfl gd) (.slice A2 n2 k2) w' (fun ρ hρ => ?_) (hJ.val hRS hcl hL rfl (Below.refl _ _) _ rfl)
                  rw [hρ] at e0
                  clear hJ hsame hdep hcl hρ hsz gd
                  go_simp
                · intro L a w' hL hsame hsz hJ hdep hcl
                  have gd : valOf _ 37 a = .bool false := hJ.valOf (by decide) (dep_of hdep 37 (by kernel_rfl)) rfl rfl
                  have e0 : a.eval (.tmp 195) = (.slice AG (R * K) cG) := eval_slot (j := 39) (by kernel_rfl) (hJ.valOf (by decide) (dep_of hdep 39 (by kernel_rfl)) rfl rfl)
                  have e1 : a.eval (.tmp 196) = (.slice A2 n2 k2) := eval_slot (j := 40) (by kernel_rfl) (hJ.valOf (by decide) (dep_of hdep 40 (by kernel_rfl)) rfl rfl)
                  refine Step.call _ rfl rfl (wanted_some (g := 37) (b := false) rfl gd) 23 #[.slice AG (R * K) cG, .slice A2 n2 k2] (fun ρ hρ => ?_) ?_
                  · skip
                    rw [hρ] at e0 e1
                    have ef : ρ (.func 23) = .func (.func 23) #[] #[] := (hρ _).symm
                    clear hJ hsame hdep hcl hρ hsz gd
                    go_simp
                  · refine (same_cellsB (IE.out.low (hJ.kept.toBelow (Nat.le_refl _) (by simp))).seen (SeenC.of_own (WAS.out.low (hJ.kept.toBelow (Nat.le_refl _) (by simp)))) (by have := HRX.out; have : R * K ≤ 6 * 10 := Nat.mul_le_mul this.2.2.2.1 this.2.2.2.2.1; omega)).mono ?_
                    rintro e w2 ⟨rfl, bb⟩
                    exact ⟨_, rfl, hJ.val hRS hcl hL rfl bb _ rfl⟩
                · intro L a w' hL hsame hsz hJ hdep hcl
                  have gd : valOf _ 37 a = .bool false := hJ.valOf (by decide) (dep_of hdep 37 (by kernel_rfl)) rfl rfl
                  have e0 : a.eval (.tmp 197) = (.bool true) := eval_slot (j := 41) (by kernel_rfl) (hJ.valOf (by decide) (dep_of hdep 41 (by kernel_rfl)) rfl rfl)
                  refine Step.val _ rfl rfl (wanted_some (g := 37) (b := false) rfl gd) (.bool false) w' (fun ρ hρ => ?_) (hJ.val hRS hcl hL rfl (Below.refl _ _) _ rfl)
                  rw [hρ] at e0
                  clear hJ hsame hdep hcl hρ hsz gd
                  go_simp
                · intro L a w' hL hsame hsz hJ hdep hcl
                  have e0 : a.eval (.tmp 193) = (.bool false) := eval_slot (j := 37) (by kernel_rfl) (hJ.valOf (by decide) (dep_of hdep 37 (by kernel_rfl)) rfl rfl)
                  have e2 : a.eval (.tmp 198) = (.bool false) := eval_slot (j := 42) (by kernel_rfl) (hJ.valOf (by decide) (dep_of hdep 42 (by kernel_rfl)) rfl rfl)
                  refine Step.val _ rfl rfl (wanted_none rfl) (.bool false) w' (fun ρ hρ => ?_) (hJ.val hRS hcl hL rfl (Below.refl _ _) _ rfl)
                  rw [hρ] at e0 e2
                  have ec0 : ρ (.const (.bool true)) = (.bool true) := (hρ _).symm
                  clear hJ hsame hdep hcl hρ hsz
                  go_simp
                · intro L a w' hsame hsz hJ hall
                  obtain ⟨u, hu, ha⟩ := act_puts hsame
                  have h : (u 43 = .bool false) ∧ Below wc.heap.size wc w' := by
                    (try simp only [hu])
                    exact (And.intro (hJ.valOf (j := 43) (by decide) (hall 43 (by decide)) rfl rfl) (hJ.kept.toBelow (Nat.le_refl _) (by simp)))
                  have h := hide h
                  clear hJ hall hsz hu hsame
                  subst ha
                  change Exit.then _ _ Exit.normal (Act.put (Act.put (Act.put (Act.put (Act.put (Act.put (Act.put (Act.put (Act.put (Act.put (Act.put (Act.put (Act.put (Act.put (Act.put (Act.put (Act.put (Act.put (Act.put (Act.put (Act.put (Act.put (Act.put (Act.put (Act.put (Act.put (Act.put (Act.put (Act.put (Act.put (Act.put (Act.put (Act.put (Act.put (Act.put (Act.put (Act.put (Act.put (Act.put (Act.put (Act.put (Act.put (Act.put (Act.put (putAll _ u 0 _) (some 156) (u 0)) (some 157) (u 1)) (some 158) (u 2)) (some 159) (u 3)) (some 160) (u 4)) (some 161) (u 5)) (some 162) (u 6)) (some 163) (u 7)) (some 164) (u 8)) (some 165) (u 9)) (some 166) (u 10)) (some 167) (u 11)) (some 168) (u 12)) (some 169) (u 13)) (some 170) (u 14)) (some 171) (u 15)) (some 172) (u 16)) (some 173) (u 17)) (some 174) (u 18)) (some 175) (u 19)) (some 176) (u 20)) (some 177) (u 21)) (some 178) (u 22)) (some 179) (u 23)) (some 180) (u 24)) (some 181) (u 25)) (some 182) (u 26)) (some 183) (u 27)) (some 184) (u 28)) (some 185) (u 29)) (some 186) (u 30)) (some 187) (u 31)) (some 188) (u 32)) (some 189) (u 33)) (some 190) (u 34)) (some 191) (u 35)) (some 192) (u 36)) (some 193) (u 37)) (some 194) (u 38)) (some 195) (u 39)) (some 196) (u 40)) (some 197) (u 41)) (some 198) (u 42)) (some 199) (u 43)) _
                  simp only [putAll]
                  generalize u 0 = v0
                  generalize u 1 = v1
                  generalize u 2 = v2
                  generalize u 3 = v3
                  generalize u 4 = v4
                  generalize u 5 = v5
                  generalize u 6 = v6
                  generalize u 7 = v7
                  generalize u 8 = v8
                  generalize u 9 = v9
                  generalize u 10 = v10
                  generalize u 11 = v11
                  generalize u 12 = v12
                  generalize u 13 = v13
                  generalize u 14 = v14
                  generalize u 15 = v15
                  generalize u 16 = v16
                  generalize u 17 = v17
                  generalize u 18 = v18
                  generalize u 19 = v19
                  generalize u 20 = v20
                  generalize u 21 = v21
                  generalize u 22 = v22
                  generalize u 23 = v23
                  generalize u 24 = v24
                  generalize u 25 = v25
                  generalize u 26 = v26
                  generalize u 27 = v27
                  generalize u 28 = v28
                  generalize u 29 = v29
                  generalize u 30 = v30
                  generalize u 31 = v31
                  generalize u 32 = v32
                  generalize u 33 = v33
                  generalize u 34 = v34
                  generalize u 35 = v35
                  generalize u 36 = v36
                  generalize u 37 = v37
                  generalize u 38 = v38
                  generalize u 39 = v39
                  generalize u 40 = v40
                  generalize u 41 = v41
                  generalize u 42 = v42
                  generalize u 43 = v43 at h ⊢
                  go_simp
                  go_step
                  go_meet
                  exact h.out
              · have SPY := hide (SP.out.below bx.out SP.out.lt)
                clear hno
                refine wp_region_rj (n := 201) [] (fun _ => #[]) [(0, 0, 0, 0), (0, 0, 0, 0), (0, 0, 0, 0), (0, 0, 0, 0), (0, 0, 0, 0), (0, 0, 0, 0), (0, 0, 0, 0), (0, 0, 0, 0), (0, 0, 0, 0), (0, 0, 0, 0), (0, 0, 0, 0), (0, 0, 0, 0), (0, 0, 0, 0), (0, 0, 0, 0), (0, 0, 0, 0), (0, 0, 0, 0), (0, 0, 0, 0), (0, 0, 0, 0), (0, 0, 0, 0), (0, 0, 0, 0), (0, 0, 0, 0), (0, 0, 0, 0), (0, 0, 0, 0), (0, 0, 0, 0), (0, 0, 0, 0), (0, 0, 0, 0), (0, 0, 0, 0), (0, 0, 0, 0), (0, 0, 0, 0), (0, 0, 0, 0), (0, 0, 0, 0), (0, 0, 0, 0), (0, 0, 0, 0), (0, 0, 0, 0), (0, 0, 0, 0), (0, 0, 0, 0), (0, 0, 0, 0), (0, 0, 0, 0), (0, 0, 0, 0), (0, 0, 0, 0), (0, 0, 0, 0), (0, 0, 0, 0), (0, 0, 0, 0), (0, 0, 0, 0)] (fun j => [(.agg #[.int .i64 R', .int .i64 K', .slice AG' (R' * K') cG']), (.agg #[.int .i64 R', .int .i64 K', .slice AO' (R' * K') cO']), (.bool true), (.bool false), (.bool false), (.agg #[.int .i64 R', .int .i64 K', .slice AG' (R' * K') cG']), (.bool true), (.bool false), (.bool false), (.bool false), (.agg #[.int .i64 R', .int .i64 K', .slice AG' (R' * K') cG']), (.agg #[.int .i64 R', .int .i64 K', .slice AO' (R' * K') cO']), (.bool true), (.bool false), (.bool false), (.bool false), (.bool false), (.bool false), (.bool false), (.bool false), (.bool false), (.bool false), (.bool false), undef, undef, undef, undef, undef, undef, undef, undef, undef, undef, undef, undef, (.bool false), (.bool false), (.bool false), (.pointer (some ⟨gE, 2, none⟩)), (.slice AG (R * K) cG), (.slice A2 n2 k2), (.bool true), (.bool false), (.bool false)].getD j undef) (fun j => [PG.dflt, PG.dflt, PG.dflt, PG.dflt, PG.dflt, PG.dflt, PG.dflt, PG.dflt, PG.dflt, PG.dflt, PG.dflt, PG.dflt, PG.dflt, PG.dflt, PG.dflt, PG.dflt, PG.dflt, PG.dflt, PG.dflt, PG.dflt, PG.dflt, PG.dflt, PG.dflt, PG.dflt, PG.dflt, PG.dflt, PG.dflt, PG.dflt, PG.dflt, PG.dflt, PG.dflt, PG.dflt, PG.dflt, PG.dflt, PG.dflt, PG.dflt, PG.dflt, PG.dflt, PG.dflt, PG.dflt, PG.dflt, PG.dflt, PG.dflt, PG.dflt].getD j PG.dflt) (fun _ => 0) (by kernel_rfl) (by kernel_rfl) (by kernel_rfl) rfl (by kernel_rfl) (no4 rfl) (fun i j h => by revert h; exact no4 (p := fun _ => _) rfl i) (fun hRS => cases44 ⟨?_, ?_, ?_, ?_, ?_, ?_, ?_, ?_, ?_, ?_, ?_, ?_, ?_, ?_, ?_, ?_, ?_, ?_, ?_, ?_, ?_, ?_, ?_, ?_, ?_, ?_, ?_, ?_, ?_, ?_, ?_, ?_, ?_, ?_, ?_, ?_, ?_, ?_, ?_, ?_, ?_, ?_, ?_, ?_⟩) ?_
                · intro L a w' hL hsame hsz hJ hdep hcl
                  have e0 : a.eval (.tmp 11) = (.pointer (some ⟨gG, 0, none⟩)) := eval_base hsame (by kernel_rfl)
                  have hb := hJ.keptBox BG.out (by simp)
                  have q0 : w'.cell? ⟨gG, 0, none⟩ = some (.int .i64 R') := hb.cell 0
                  have q1 : w'.cell? ⟨gG, 1, none⟩ = some (.int .i64 K') := hb.cell 1
                  have q2 : w'.cell? ⟨gG, 2, none⟩ = some (.slice AG' (R' * K') cG') := hb.cell 2
                  refine Step.val _ rfl rfl (wanted_none rfl) (.agg #[.int .i64 R', .int .i64 K', .slice AG' (R' * K') cG']) w' (fun ρ hρ => ?_) (hJ.val hRS hcl hL rfl (Below.refl _ _) _ rfl)
                  rw [hρ] at e0
                  clear hb
                  clear hJ hsame hdep hcl hρ hsz
                  go_simp
                · intro L a w' hL hsame hsz hJ hdep hcl
                  have e0 : a.eval (.tmp 12) = (.pointer (some ⟨gO, 0, none⟩)) := eval_base hsame (by kernel_rfl)
                  have hb := hJ.keptBox BO.out (by simp)
                  have q0 : w'.cell? ⟨gO, 0, none⟩ = some (.int .i64 R') := hb.cell 0
                  have q1 : w'.cell? ⟨gO, 1, none⟩ = some (.int .i64 K') := hb.cell 1
                  have q2 : w'.cell? ⟨gO, 2, none⟩ = some (.slice AO' (R' * K') cO') := hb.cell 2
                  refine Step.val _ rfl rfl (wanted_none rfl) (.agg #[.int .i64 R', .int .i64 K', .slice AO' (R' * K') cO']) w' (fun ρ hρ => ?_) (hJ.val hRS hcl hL rfl (Below.refl _ _) _ rfl)
                  rw [hρ] at e0
                  clear hb
                  clear hJ hsame hdep hcl hρ hsz
                  go_simp
                · intro L a w' hL hsame hsz hJ hdep hcl
                  have e0 : a.eval (.tmp 156) = (.agg #[.int .i64 R', .int .i64 K', .slice AG' (R' * K') cG']) := eval_slot (j := 0) (by kernel_rfl) (hJ.valOf (by decide) (dep_of hdep 0 (by kernel_rfl)) rfl rfl)
                  have e1 : a.eval (.tmp 157) = (.agg #[.int .i64 R', .int .i64 K', .slice AO' (R' * K') cO']) := eval_slot (j := 1) (by kernel_rfl) (hJ.valOf (by decide) (dep_of hdep 1 (by kernel_rfl)) rfl rfl)
                  refine Step.call _ rfl rfl (wanted_none rfl) 21 #[.agg #[.int .i64 R', .int .i64 K', .slice AG' (R' * K') cG'], .agg #[.int .i64 R', .int .i64 K', .slice AO' (R' * K') cO']] (fun ρ hρ => ?_) ?_
                  · skip
                    rw [hρ] at e0 e1
                    have ef : ρ (.func 21) = .func (.func 21) #[] #[] := (hρ _).symm
                    clear hJ hsame hdep hcl hρ hsz
                    go_simp
                  · refine (l_same HRY.out.1 (IG.out.low (hJ.kept.toBelow (Nat.le_refl _) (by simp))) (IO.out.low (hJ.kept.toBelow (Nat.le_refl _) (by simp)))).mono ?_
                    rintro e w2 ⟨rfl, bb⟩
                    exact ⟨_, rfl, hJ.val hRS hcl hL rfl bb _ rfl⟩
                · intro L a w' hL hsame hsz hJ hdep hcl
                  have e0 : a.eval (.tmp 158) = (.bool true) := eval_slot (j := 2) (by kernel_rfl) (hJ.valOf (by decide) (dep_of hdep 2 (by kernel_rfl)) rfl rfl)
                  refine Step.val _ rfl rfl (wanted_none rfl) (.bool false) w' (fun ρ hρ => ?_) (hJ.val hRS hcl hL rfl (Below.refl _ _) _ rfl)
                  rw [hρ] at e0
                  clear hJ hsame hdep hcl hρ hsz
                  go_simp
                · intro L a w' hL hsame hsz hJ hdep hcl
                  have e0 : a.eval (.tmp 159) = (.bool false) := eval_slot (j := 3) (by kernel_rfl) (hJ.valOf (by decide) (dep_of hdep 3 (by kernel_rfl)) rfl rfl)
                  refine Step.val _ rfl rfl (wanted_none rfl) (.bool false) w' (fun ρ hρ => ?_) (hJ.val hRS hcl hL rfl (Below.refl _ _) _ rfl)
                  rw [hρ] at e0
                  clear hJ hsame hdep hcl hρ hsz
                  go_simp
                · intro L a w' hL hsame hsz hJ hdep hcl
                  have gd : valOf _ 4 a = .bool false := hJ.valOf (by decide) (dep_of hdep 4 (by kernel_rfl)) rfl rfl
                  have e0 : a.eval (.tmp 11) = (.pointer (some ⟨gG, 0, none⟩)) := eval_base hsame (by kernel_rfl)
                  have hb := hJ.keptBox BG.out (by simp)
                  have q0 : w'.cell? ⟨gG, 0, none⟩ = some (.int .i64 R') := hb.cell 0
                  have q1 : w'.cell? ⟨gG, 1, none⟩ = some (.int .i64 K') := hb.cell 1
                  have q2 : w'.cell? ⟨gG, 2, none⟩ = some (.slice AG' (R' * K') cG') := hb.cell 2
                  refine Step.val _ rfl rfl (wanted_some (g := 4) (b := false) rfl gd) (.agg #[.int .i64 R', .int .i64 K', .slice AG' (R' * K') cG']) w' (fun ρ hρ => ?_) (hJ.val hRS hcl hL rfl (Below.refl _ _) _ rfl)
                  rw [hρ] at e0
                  clear hb
                  clear hJ hsame hdep hcl hρ hsz gd
                  go_simp
                · intro L a w' hL hsame hsz hJ hdep hcl
                  have gd : valOf _ 4 a = .bool false := hJ.valOf (by decide) (dep_of hdep 4 (by kernel_rfl)) rfl rfl
                  have e0 : a.eval (.tmp 161) = (.agg #[.int .i64 R', .int .i64 K', .slice AG' (R' * K') cG']) := eval_slot (j := 5) (by kernel_rfl) (hJ.valOf (by decide) (dep_of hdep 5 (by kernel_rfl)) rfl rfl)
                  refine Step.call _ rfl rfl (wanted_some (g := 4) (b := false) rfl gd) 11 #[.agg #[.int .i64 R', .int .i64 K', .slice AG' (R' * K') cG']] (fun ρ hρ => ?_) ?_
                  · skip
                    rw [hρ] at e0
                    have ef : ρ (.func 11) = .func (.func 11) #[] #[] := (hρ _).symm
                    clear hJ hsame hdep hcl hρ hsz gd
                    go_simp
                  · refine (u_right HRY.out.1 (IG.out.low (hJ.kept.toBelow (Nat.le_refl _) (by simp))) (SPY.out.keptS hJ.kept (by simp))).mono ?_
                    rintro e w2 ⟨rfl, bb⟩
                    exact ⟨_, rfl, hJ.val hRS hcl hL rfl bb _ rfl⟩
                · intro L a w' hL hsame hsz hJ hdep hcl
                  have gd : valOf _ 4 a = .bool false := hJ.valOf (by decide) (dep_of hdep 4 (by kernel_rfl)) rfl rfl
                  have e0 : a.eval (.tmp 162) = (.bool true) := eval_slot (j := 6) (by kernel_rfl) (hJ.valOf (by decide) (dep_of hdep 6 (by kernel_rfl)) rfl rfl)
                  refine Step.val _ rfl rfl (wanted_some (g := 4) (b := false) rfl gd) (.bool false) w' (fun ρ hρ => ?_) (hJ.val hRS hcl hL rfl (Below.refl _ _) _ rfl)
                  rw [hρ] at e0
                  clear hJ hsame hdep hcl hρ hsz gd
                  go_simp
                · intro L a w' hL hsame hsz hJ hdep hcl
                  have e0 : a.eval (.tmp 160) = (.bool false) := eval_slot (j := 4) (by kernel_rfl) (hJ.valOf (by decide) (dep_of hdep 4 (by kernel_rfl)) rfl rfl)
                  have e2 : a.eval (.tmp 163) = (.bool false) := eval_slot (j := 7) (by kernel_rfl) (hJ.valOf (by decide) (dep_of hdep 7 (by kernel_rfl)) rfl rfl)
                  refine Step.val _ rfl rfl (wanted_none rfl) (.bool false) w' (fun ρ hρ => ?_) (hJ.val hRS hcl hL rfl (Below.refl _ _) _ rfl)
                  rw [hρ] at e0 e2
                  have ec0 : ρ (.const (.bool true)) = (.bool true) := (hρ _).symm
                  clear hJ hsame hdep hcl hρ hsz
                  go_simp
                · intro L a w' hL hsame hsz hJ hdep hcl
                  have e0 : a.eval (.tmp 164) = (.bool false) := eval_slot (j := 8) (by kernel_rfl) (hJ.valOf (by decide) (dep_of hdep 8 (by kernel_rfl)) rfl rfl)
                  refine Step.val _ rfl rfl (wanted_none rfl) (.bool false) w' (fun ρ hρ => ?_) (hJ.val hRS hcl hL rfl (Below.refl _ _) _ rfl)
                  rw [hρ] at e0
                  clear hJ hsame hdep hcl hρ hsz
                  go_simp
                · intro L a w' hL hsame hsz hJ hdep hcl
                  have gd : valOf _ 9 a = .bool false := hJ.valOf (by decide) (dep_of hdep 9 (by kernel_rfl)) rfl rfl
                  have e0 : a.eval (.tmp 11) = (.pointer (some ⟨gG, 0, none⟩)) := eval_base hsame (by kernel_rfl)
                  have hb := hJ.keptBox BG.out (by simp)
                  have q0 : w'.cell? ⟨gG, 0, none⟩ = some (.int .i64 R') := hb.cell 0
                  have q1 : w'.cell? ⟨gG, 1, none⟩ = some (.int .i64 K') := hb.cell 1
                  have q2 : w'.cell? ⟨gG, 2, none⟩ = some (.slice AG' (R' * K') cG') := hb.cell 2
                  refine Step.val _ rfl rfl (wanted_some (g := 9) (b := false) rfl gd) (.agg #[.int .i64 R', .int .i64 K', .slice AG' (R' * K') cG']) w' (fun ρ hρ => ?_) (hJ.val hRS hcl hL rfl (Below.refl _ _) _ rfl)
                  rw [hρ] at e0
                  clear hb
                  clear hJ hsame hdep hcl hρ hsz gd
                  go_simp
                · intro L a w' hL hsame hsz hJ hdep hcl
                  have gd : valOf _ 9 a = .bool false := hJ.valOf (by decide) (dep_of hdep 9 (by kernel_rfl)) rfl rfl
                  have e0 : a.eval (.tmp 12) = (.pointer (some ⟨gO, 0, none⟩)) := eval_base hsame (by kernel_rfl)
                  have hb := hJ.keptBox BO.out (by simp)
                  have q0 : w'.cell? ⟨gO, 0, none⟩ = some (.int .i64 R') := hb.cell 0
                  have q1 : w'.cell? ⟨gO, 1, none⟩ = some (.int .i64 K') := hb.cell 1
                  have q2 : w'.cell? ⟨gO, 2, none⟩ = some (.slice AO' (R' * K') cO') := hb.cell 2
                  refine Step.val _ rfl rfl (wanted_some (g := 9) (b := false) rfl gd) (.agg #[.int .i64 R', .int .i64 K', .slice AO' (R' * K') cO']) w' (fun ρ hρ => ?_) (hJ.val hRS hcl hL rfl (Below.refl _ _) _ rfl)
                  rw [hρ] at e0
                  clear hb
                  clear hJ hsame hdep hcl hρ hsz gd
                  go_simp
                · intro L a w' hL hsame hsz hJ hdep hcl
                  have gd : valOf _ 9 a = .bool false := hJ.valOf (by decide) (dep_of hdep 9 (by kernel_rfl)) rfl rfl
                  have e0 : a.eval (.tmp 166) = (.agg #[.int .i64 R', .int .i64 K', .slice AG' (R' * K') cG']) := eval_slot (j := 10) (by kernel_rfl) (hJ.valOf (by decide) (dep_of hdep 10 (by kernel_rfl)) rfl rfl)
                  have e1 : a.eval (.tmp 167) = (.agg #[.int .i64 R', .int .i64 K', .slice AO' (R' * K') cO']) := eval_slot (j := 11) (by kernel_rfl) (hJ.valOf (by decide) (dep_of hdep 11 (by kernel_rfl)) rfl rfl)
                  refine Step.call _ rfl rfl (wanted_some (g := 9) (b := false) rfl gd) 22 #[.agg #[.int .i64 R', .int .i64 K', .slice AG' (R' * K') cG'], .agg #[.int .i64 R', .int .i64 K', .slice AO' (R' * K') cO']] (fun ρ hρ => ?_) ?_
                  · skip
                    rw [hρ] at e0 e1
                    have ef : ρ (.func 22) = .func (.func 22) #[] #[] := (hρ _).symm
                    clear hJ hsame hdep hcl hρ hsz gd
                    go_simp
                  · refine (u_same HRY.out.1 (IG.out.low (hJ.kept.toBelow (Nat.le_refl _) (by simp))) (IO.out.low (hJ.kept.toBelow (Nat.le_refl _) (by simp))) (PG.Alike.refl _)).mono ?_
                    rintro e w2 ⟨rfl, bb⟩
                    exact ⟨_, rfl, hJ.val hRS hcl hL rfl bb _ rfl⟩
                · intro L a w' hL hsame hsz hJ hdep hcl
                  have gd : valOf _ 9 a = .bool false := hJ.valOf (by decide) (dep_of hdep 9 (by kernel_rfl)) rfl rfl
                  have e0 : a.eval (.tmp 168) = (.bool true) := eval_slot (j := 12) (by kernel_rfl) (hJ.valOf (by decide) (dep_of hdep 12 (by kernel_rfl)) rfl rfl)
                  refine Step.val _ rfl rfl (wanted_some (g := 9) (b := false) rfl gd) (.bool false) w' (fun ρ hρ => ?_) (hJ.val hRS hcl hL rfl (Below.refl _ _) _ rfl)
                  rw [hρ] at e0
                  clear hJ hsame hdep hcl hρ hsz gd
                  go_simp
                · intro L a w' hL hsame hsz hJ hdep hcl
                  have e0 : a.eval (.tmp 165) = (.bool false) := eval_slot (j := 9) (by kernel_rfl) (hJ.valOf (by decide) (dep_of hdep 9 (by kernel_rfl)) rfl rfl)
                  have e2 : a.eval (.tmp 169) = (.bool false) := eval_slot (j := 13) (by kernel_rfl) (hJ.valOf (by decide) (dep_of hdep 13 (by kernel_rfl)) rfl rfl)
                  refine Step.val _ rfl rfl (wanted_none rfl) (.bool false) w' (fun ρ hρ => ?_) (hJ.val hRS hcl hL rfl (Below.refl _ _) _ rfl)
                  rw [hρ] at e0 e2
                  have ec0 : ρ (.const (.bool true)) = (.bool true) := (hρ _).symm
                  clear hJ hsame hdep hcl hρ hsz
                  go_simp
                · intro L a w' hL hsame hsz hJ hdep hcl
                  have e0 : a.eval (.tmp 170) = (.bool false) := eval_slot (j := 14) (by kernel_rfl) (hJ.valOf (by decide) (dep_of hdep 14 (by kernel_rfl)) rfl rfl)
                  refine Step.val _ rfl rfl (wanted_none rfl) (.bool false) w' (fun ρ hρ => ?_) (hJ.val hRS hcl hL rfl (Below.refl _ _) _ rfl)
                  rw [hρ] at e0
                  clear hJ hsame hdep hcl hρ hsz
                  go_simp
                · intro L a w' hL hsame hsz hJ hdep hcl
                  have gd : valOf _ 15 a = .bool false := hJ.valOf (by decide) (dep_of hdep 15 (by kernel_rfl)) rfl rfl
                  have e0 : a.eval (.tmp 23) = (.bool false) := eval_base hsame (by kernel_rfl)
                  refine Step.val _ rfl rfl (wanted_some (g := 15) (b := false) rfl gd) (.bool false) w' (fun ρ hρ => ?_) (hJ.val hRS hcl hL rfl (Below.refl _ _) _ rfl)
                  rw [hρ] at e0
                  clear hJ hsame hdep hcl hρ hsz gd
                  go_simp
                · intro L a w' hL hsame hsz hJ hdep hcl
                  have gd : valOf _ 15 a = .bool false := hJ.valOf (by decide) (dep_of hdep 15 (by kernel_rfl)) rfl rfl
                  have e0 : a.eval (.tmp 24) = (.bool false) := eval_base hsame (by kernel_rfl)
                  refine Step.val _ rfl rfl (wanted_some (g := 15) (b := false) rfl gd) (.bool false) w' (fun ρ hρ => ?_) (hJ.val hRS hcl hL rfl (Below.refl _ _) _ rfl)
                  rw [hρ] at e0
                  clear hJ hsame hdep hcl hρ hsz gd
                  go_simp
                · intro L a w' hL hsame hsz hJ hdep hcl
                  have gd : valOf _ 15 a = .bool false := hJ.valOf (by decide) (dep_of hdep 15 (by kernel_rfl)) rfl rfl
                  have e0 : a.eval (.tmp 172) = (.bool false) := eval_slot (j := 16) (by kernel_rfl) (hJ.valOf (by decide) (dep_of hdep 16 (by kernel_rfl)) rfl rfl)
                  have e1 : a.eval (.tmp 173) = (.bool false) := eval_slot (j := 17) (by kernel_rfl) (hJ.valOf (by decide) (dep_of hdep 17 (by kernel_rfl)) rfl rfl)
                  refine Step.val _ rfl rfl (wanted_some (g := 15) (b := false) rfl gd) (.bool false) w' (fun ρ hρ => ?_) (hJ.val hRS hcl hL rfl (Below.refl _ _) _ rfl)
                  rw [hρ] at e0 e1
                  clear hJ hsame hdep hcl hρ hsz gd
                  go_simp
                · intro L a w' hL hsame hsz hJ hdep hcl
                  have e0 : a.eval (.tmp 171) = (.bool false) := eval_slot (j := 15) (by kernel_rfl) (hJ.valOf (by decide) (dep_of hdep 15 (by kernel_rfl)) rfl rfl)
                  have e2 : a.eval (.tmp 174) = (.bool false) := eval_slot (j := 18) (by kernel_rfl) (hJ.valOf (by decide) (dep_of hdep 18 (by kernel_rfl)) rfl rfl)
                  refine Step.val _ rfl rfl (wanted_none rfl) (.bool false) w' (fun ρ hρ => ?_) (hJ.val hRS hcl hL rfl (Below.refl _ _) _ rfl)
                  rw [hρ] at e0 e2
                  have ec0 : ρ (.const (.bool true)) = (.bool true) := (hρ _).symm
                  clear hJ hsame hdep hcl hρ hsz
                  go_simp
                · intro L a w' hL hsame hsz hJ hdep hcl
                  have e0 : a.eval (.tmp 175) = (.bool false) := eval_slot (j := 19) (by kernel_rfl) (hJ.valOf (by decide) (dep_of hdep 19 (by kernel_rfl)) rfl rfl)
                  refine Step.val _ rfl rfl (wanted_none rfl) (.bool false) w' (fun ρ hρ => ?_) (hJ.val hRS hcl hL rfl (Below.refl _ _) _ rfl)
                  rw [hρ] at e0
                  clear hJ hsame hdep hcl hρ hsz
                  go_simp
                · intro L a w' hL hsame hsz hJ hdep hcl
                  have gd : valOf _ 20 a = .bool false := hJ.valOf (by decide) (dep_of hdep 20 (by kernel_rfl)) rfl rfl
                  have e0 : a.eval (.tmp 24) = (.bool false) := eval_base hsame (by kernel_rfl)
                  refine Step.val _ rfl rfl (wanted_some (g := 20) (b := false) rfl gd) (.bool false) w' (fun ρ hρ => ?_) (hJ.val hRS hcl hL rfl (Below.refl _ _) _ rfl)
                  rw [hρ] at e0
                  clear hJ hsame hdep hcl hρ hsz gd
                  go_simp
                · intro L a w' hL hsame hsz hJ hdep hcl
                  have gd : valOf _ 20 a = .bool false := hJ.valOf (by decide) (dep_of hdep 20 (by kernel_rfl)) rfl rfl
                  have e0 : a.eval (.tmp 177) = (.bool false) := eval_slot (j := 21) (by kernel_rfl) (hJ.valOf (by decide) (dep_of hdep 21 (by kernel_rfl)) rfl rfl)
                  refine Step.val _ rfl rfl (wanted_some (g := 20) (b := false) rfl gd) (.bool false) w' (fun ρ hρ => ?_) (hJ.val hRS hcl hL rfl (Below.refl _ _) _ rfl)
                  rw [hρ] at e0
                  clear hJ hsame hdep hcl hρ hsz gd
                  go_simp
                · intro L a w' hL hsame hsz hJ hdep hcl
                  have gd : valOf _ 22 a = .bool false := hJ.valOf (by decide) (dep_of hdep 22 (by kernel_rfl)) rfl rfl
                  exact Step.pass _ rfl (wanted_not (g := 22) (b := true) (c := false) rfl gd (by decide)) (hJ.val hRS hcl hL rfl (Below.refl _ _) _ rfl)
                · intro L a w' hL hsame hsz hJ hdep hcl
                  have gd : valOf _ 22 a = .bool false := hJ.valOf (by decide) (dep_of hdep 22 (by kernel_rfl)) rfl rfl
                  exact Step.pass _ rfl (wanted_not (g := 22) (b := true) (c := false) rfl gd (by decide)) (hJ.val hRS hcl hL rfl (Below.refl _ _) _ rfl)
                · intro L a w' hL hsame hsz hJ hdep hcl
                  have gd : valOf _ 22 a = .bool false := hJ.valOf (by decide) (dep_of hdep 22 (by kernel_rfl)) rfl rfl
                  exact Step.pass _ rfl (wanted_not (g := 22) (b := true) (c := false) rfl gd (by decide)) (hJ.val hRS hcl hL rfl (Below.refl _ _) _ rfl)
                · intro L a w' hL hsame hsz hJ hdep hcl
                  have gd : valOf _ 22 a = .bool false := hJ.valOf (by decide) (dep_of hdep 22 (by kernel_rfl)) rfl rfl
                  exact Step.pass _ rfl (wanted_not (g := 22) (b := true) (c := false) rfl gd (by decide)) (hJ.val hRS hcl hL rfl (Below.refl _ _) _ rfl)
                · intro L a w' hL hsame hsz hJ hdep hcl
                  have gd : valOf _ 22 a = .bool false := hJ.valOf (by decide) (dep_of hdep 22 (by kernel_rfl)) rfl rfl
                  exact Step.pass _ rfl (wanted_not (g := 22) (b := true) (c := false) rfl gd (by decide)) (hJ.val hRS hcl hL rfl (Below.refl _ _) _ rfl)
                · intro L a w' hL hsame hsz hJ hdep hcl
                  have gd : valOf _ 22 a = .bool false := hJ.valOf (by decide) (dep_of hdep 22 (by kernel_rfl)) rfl rfl
                  exact Step.pass _ rfl (wanted_not (g := 22) (b := true) (c := false) rfl gd (by decide)) (hJ.val hRS hcl hL rfl (Below.refl _ _) _ rfl)
                · intro L a w' hL hsame hsz hJ hdep hcl
                  have gd : valOf _ 22 a = .bool false := hJ.valOf (by decide) (dep_of hdep 22 (by kernel_rfl)) rfl rfl
                  exact Step.pass _ rfl (wanted_not (g := 22) (b := true) (c := false) rfl gd (by decide)) (hJ.val hRS hcl hL rfl (Below.refl _ _) _ rfl)
                · intro L a w' hL hsame hsz hJ hdep hcl
                  have gd : valOf _ 22 a = .bool false := hJ.valOf (by decide) (dep_of hdep 22 (by kernel_rfl)) rfl rfl
                  exact Step.pass _ rfl (wanted_not (g := 22) (b := true) (c := false) rfl gd (by decide)) (hJ.val hRS hcl hL rfl (Below.refl _ _) _ rfl)
                · intro L a w' hL hsame hsz hJ hdep hcl
                  have gd : valOf _ 22 a = .bool false := hJ.valOf (by decide) (dep_of hdep 22 (by kernel_rfl)) rfl rfl
                  exact Step.pass _ rfl (wanted_not (g := 22) (b := true) (c := false) rfl gd (by decide)) (hJ.val hRS hcl hL rfl (Below.refl _ _) _ rfl)
                · intro L a w' hL hsame hsz hJ hdep hcl
                  have gd : valOf _ 22 a = .bool false := hJ.valOf (by decide) (dep_of hdep 22 (by kernel_rfl)) rfl rfl
                  exact Step.pass _ rfl (wanted_not (g := 22) (b := true) (c := false) rfl gd (by decide)) (hJ.val hRS hcl hL rfl (Below.refl _ _) _ rfl)
                · intro L a w' hL hsame hsz hJ hdep hcl
                  have gd : valOf _ 22 a = .bool false := hJ.valOf (by decide) (dep_of hdep 22 (by kernel_rfl)) rfl rfl
                  exact Step.pass _ rfl (wanted_not (g := 22) (b := true) (c := false) rfl gd (by decide)) (hJ.val hRS hcl hL rfl (Below.refl _ _) _ rfl)
                · intro L a w' hL hsame hsz hJ hdep hcl
                  have gd : valOf _ 22 a = .bool false := hJ.valOf (by decide) (dep_of hdep 22 (by kernel_rfl)) rfl rfl
                  exact Step.pass _ rfl (wanted_not (g := 22) (b := true) (c := false) rfl gd (by decide)) (hJ.val hRS hcl hL rfl (Below.refl _ _) _ rfl)
                · intro L a w' hL hsame hsz hJ hdep hcl
                  have gd : valOf _ 20 a = .bool false := hJ.valOf (by decide) (dep_of hdep 20 (by kernel_rfl)) rfl rfl
                  have e0 : a.eval (.tmp 178) = (.bool false) := eval_slot (j := 22) (by kernel_rfl) (hJ.valOf (by decide) (dep_of hdep 22 (by kernel_rfl)) rfl rfl)
                  have e1 : a.eval (.tmp 190) = undef := eval_slot (j := 34) (by kernel_rfl) (hJ.valOf (by decide) (dep_of hdep 34 (by kernel_rfl)) rfl rfl)
                  refine Step.val _ rfl rfl (wanted_some (g := 20) (b := false) rfl gd) (.bool false) w' (fun ρ hρ => ?_) (hJ.val hRS hcl hL rfl (Below.refl _ _) _ rfl)
                  rw [hρ] at e0 e1
                  have ec0 : ρ (.const (.bool false)) = (.bool false) := (hρ _).symm
                  clear hJ hsame hdep hcl hρ hsz gd
                  go_simp
                · intro L a w' hL hsame hsz hJ hdep hcl
                  have e0 : a.eval (.tmp 176) = (.bool false) := eval_slot (j := 20) (by kernel_rfl) (hJ.valOf (by decide) (dep_of hdep 20 (by kernel_rfl)) rfl rfl)
                  have e2 : a.eval (.tmp 191) = (.bool false) := eval_slot (j := 35) (by kernel_rfl) (hJ.valOf (by decide) (dep_of hdep 35 (by kernel_rfl)) rfl rfl)
                  refine Step.val _ rfl rfl (wanted_none rfl) (.bool false) w' (fun ρ hρ => ?_) (hJ.val hRS hcl hL rfl (Below.refl _ _) _ rfl)
                  rw [hρ] at e0 e2
                  have ec0 : ρ (.const (.bool true)) = (.bool true) := (hρ _).symm
                  clear hJ hsame hdep hcl hρ hsz
                  go_simp
                · intro L a w' hL hsame hsz hJ hdep hcl
                  have e0 : a.eval (.tmp 192) = (.bool false) := eval_slot (j := 36) (by kernel_rfl) (hJ.valOf (by decide) (dep_of hdep 36 (by kernel_rfl)) rfl rfl)
                  refine Step.val _ rfl rfl (wanted_none rfl) (.bool false) w' (fun ρ hρ => ?_) (hJ.val hRS hcl hL rfl (Below.refl _ _) _ rfl)
                  rw [hρ] at e0
                  clear hJ hsame hdep hcl hρ hsz
                  go_simp
                · intro L a w' hL hsame hsz hJ hdep hcl
                  have gd : valOf _ 37 a = .bool false := hJ.valOf (by decide) (dep_of hdep 37 (by kernel_rfl)) rfl rfl
                  have e0 : a.eval (.tmp 16) = (.pointer (some ⟨gE, 0, none⟩)) := eval_base hsame (by kernel_rfl)
                  refine Step.val _ rfl rfl (wanted_some (g := 37) (b := false) rfl gd) (.pointer (some ⟨gE, 2, none⟩)) w' (fun ρ hρ => ?_) (hJ.val hRS hcl hL rfl (Below.refl _ _) _ rfl)
                  rw [hρ] at e0
                  clear hJ hsame hdep hcl hρ hsz gd
                  go_simp
                · intro L a w' hL hsame hsz hJ hdep hcl
                  have gd : valOf _ 37 a = .bool false := hJ.valOf (by decide) (dep_of hdep 37 (by kernel_rfl)) rfl rfl
                  have e0 : a.eval (.tmp 194) = (.pointer (some ⟨gE, 2, none⟩)) := eval_slot (j := 38) (by kernel_rfl) (hJ.valOf (by decide) (dep_of hdep 38 (by kernel_rfl)) rfl rfl)
                  have hb := hJ.keptBox BE.out (by simp)
                  have q0 : w'.cell? ⟨gE, 2, none⟩ = some (.slice AG (R * K) cG) := hb.cell 2
                  refine Step.val _ rfl rfl (wanted_some (g := 37) (b := false) rfl gd) (.slice AG (R * K) cG) w' (fun ρ hρ => ?_) (hJ.val hRS hcl hL rfl (Below.refl _ _) _ rfl)
                  rw [hρ] at e0
                  clear hb
                  clear hJ hsame hdep hcl hρ hsz gd
                  go_simp
                · intro L a w' hL hsame hsz hJ hdep hcl
                  have gd : valOf _ 37 a = .bool false := hJ.valOf (by decide) (dep_of hdep 37 (by kernel_rfl)) rfl rfl
                  have e0 : a.eval (.tmp 15) = (.slice A2 n2 k2) := eval_base hsame (by kernel_rfl)
                  refine Step.val _ rfl rfl (wanted_some (g := 37) (b := false) rfl gd) (.slice A2 n2 k2) w' (fun ρ hρ => ?_) (hJ.val hRS hcl hL rfl (Below.refl _ _) _ rfl)
                  rw [hρ] at e0
                  clear hJ hsame hdep hcl hρ hsz gd
                  go_simp
                · intro L a w' hL hsame hsz hJ hdep hcl
                  have gd : valOf _ 37 a = .bool false := hJ.valOf (by decide) (dep_of hdep 37 (by kernel_rfl)) rfl rfl
                  have e0 : a.eval (.tmp 195) = (.slice AG (R * K) cG) := eval_slot (j := 39) (by kernel_rfl) (hJ.valOf (by decide) (dep_of hdep 39 (by kernel_rfl)) rfl rfl)
                  have e1 : a.eval (.tmp 196) = (.slice A2 n2 k2) := eval_slot (j := 40) (by kernel_rfl) (hJ.valOf (by decide) (dep_of hdep 40 (by kernel_rfl)) rfl rfl)
                  refine Step.call _ rfl rfl (wanted_some (g := 37) (b := false) rfl gd) 23 #[.slice AG (R * K) cG, .slice A2 n2 k2] (fun ρ hρ => ?_) ?_
                  · skip
                    rw [hρ] at e0 e1
                    have ef : ρ (.func 23) = .func (.func 23) #[] #[] := (hρ _).symm
                    clear hJ hsame hdep hcl hρ hsz gd
                    go_simp
                  · refine (same_cellsB (IE.out.low (hJ.kept.toBelow (Nat.le_refl _) (by simp))).seen (SeenC.of_own (WAS.out.low (hJ.kept.toBelow (Nat.le_refl _) (by simp)))) (by have := HRX.out; have : R * K ≤ 6 * 10 := Nat.mul_le_mul this.2.2.2.1 this.2.2.2.2.1; omega)).mono ?_
                    rintro e w2 ⟨rfl, bb⟩
                    exact ⟨_, rfl, hJ.val hRS hcl hL rfl bb _ rfl⟩
                · intro L a w' hL hsame hsz hJ hdep hcl
                  have gd : valOf _ 37 a = .bool false := hJ.valOf (by decide) (dep_of hdep 37 (by kernel_rfl)) rfl rfl
                  have e0 : a.eval (.tmp 197) = (.bool true) := eval_slot (j := 41) (by kernel_rfl) (hJ.valOf (by decide) (dep_of hdep 41 (by kernel_rfl)) rfl rfl)
                  refine Step.val _ rfl rfl (wanted_some (g := 37) (b := false) rfl gd) (.bool false) w' (fun ρ hρ => ?_) (hJ.val hRS hcl hL rfl (Below.refl _ _) _ rfl)
                  rw [hρ] at e0
                  clear hJ hsame hdep hcl hρ hsz gd
                  go_simp
                · intro L a w' hL hsame hsz hJ hdep hcl
                  have e0 : a.eval (.tmp 193) = (.bool false) := eval_slot (j := 37) (by kernel_rfl) (hJ.valOf (by decide) (dep_of hdep 37 (by kernel_rfl)) rfl rfl)
                  have e2 : a.eval (.tmp 198) = (.bool false) := eval_slot (j := 42) (by kernel_rfl) (hJ.valOf (by decide) (dep_of hdep 42 (by kernel_rfl)) rfl rfl)
                  refine Step.val _ rfl rfl (wanted_none rfl) (.bool false) w' (fun ρ hρ => ?_) (hJ.val hRS hcl hL rfl (Below.refl _ _) _ rfl)
                  rw [hρ] at e0 e2
                  have ec0 : ρ (.const (.bool true)) = (.bool true) := (hρ _).symm
                  clear hJ hsame hdep hcl hρ hsz
                  go_simp
                · intro L a w' hsame hsz hJ hall
                  obtain ⟨u, hu, ha⟩ := act_puts hsame
                  have h : (u 43 = .bool false) ∧ Below wc.heap.size wc w' := by
                    (try simp only [hu])
                    exact (And.intro (hJ.valOf (j := 43) (by decide) (hall 43 (by decide)) rfl rfl) (hJ.kept.toBelow (Nat.le_refl _) (by simp)))
                  have h := hide h
                  clear hJ hall hsz hu hsame
                  subst ha
                  change Exit.then _ _ Exit.normal (Act.put (Act.put (Act.put (Act.put (Act.put (Act.put (Act.put (Act.put (Act.put (Act.put (Act.put (Act.put (Act.put (Act.put (Act.put (Act.put (Act.put (Act.put (Act.put (Act.put (Act.put (Act.put (Act.put (Act.put (Act.put (Act.put (Act.put (Act.put (Act.put (Act.put (Act.put (Act.put (Act.put (Act.put (Act.put (Act.put (Act.put (Act.put (Act.put (Act.put (Act.put (Act.put (Act.put (Act.put (putAll _ u 0 _) (some 156) (u 0)) (some 157) (u 1)) (some 158) (u 2)) (some 159) (u 3)) (some 160) (u 4)) (some 161) (u 5)) (some 162) (u 6)) (some 163) (u 7)) (some 164) (u 8)) (some 165) (u 9)) (some 166) (u 10)) (some 167) (u 11)) (some 168) (u 12)) (some 169) (u 13)) (some 170) (u 14)) (some 171) (u 15)) (some 172) (u 16)) (some 173) (u 17)) (some 174) (u 18)) (some 175) (u 19)) (some 176) (u 20)) (some 177) (u 21)) (some 178) (u 22)) (some 179) (u 23)) (some 180) (u 24)) (some 181) (u 25)) (some 182) (u 26)) (some 183) (u 27)) (some 184) (u 28)) (some 185) (u 29)) (some 186) (u 30)) (some 187) (u 31)) (some 188) (u 32)) (some 189) (u 33)) (some 190) (u 34)) (some 191) (u 35)) (some 192) (u 36)) (some 193) (u 37)) (some 194) (u 38)) (some 195) (u 39)) (some 196) (u 40)) (some 197) (u 41)) (some 198) (u 42)) (some 199) (u 43)) _
                  simp only [putAll]
                  generalize u 0 = v0
                  generalize u 1 = v1
                  generalize u 2 = v2
                  generalize u 3 = v3
                  generalize u 4 = v4
                  generalize u 5 = v5
                  generalize u 6 = v6
                  generalize u 7 = v7
                  generalize u 8 = v8
                  generalize u 9 = v9
                  generalize u 10 = v10
                  generalize u 11 = v11
                  generalize u 12 = v12
                  generalize u 13 = v13
                  generalize u 14 = v14
                  generalize u 15 = v15
                  generalize u 16 = v16
                  generalize u 17 = v17
                  generalize u 18 = v18
                  generalize u 19 = v19
                  generalize u 20 = v20
                  generalize u 21 = v21
                  generalize u 22 = v22
                  generalize u 23 = v23
                  generalize u 24 = v24
                  generalize u 25 = v25
                  generalize u 26 = v26
                  generalize u 27 = v27
                  generalize u 28 = v28
                  generalize u 29 = v29
                  generalize u 30 = v30
                  generalize u 31 = v31
                  generalize u 32 = v32
                  generalize u 33 = v33
                  generalize u 34 = v34
                  generalize u 35 = v35
                  generalize u 36 = v36
                  generalize u 37 = v37
                  generalize u 38 = v38
                  generalize u 39 = v39
                  generalize u 40 = v40
                  generalize u 41 = v41
                  generalize u 42 = v42
                  generalize u 43 = v43 at h ⊢
                  go_simp
                  go_step
                  go_meet
                  exact h.out
          case rest =>
          obtain ⟨rfl, bc⟩ := hcut
          have bx := hide (bx.out.trans (bc.mono bx.out.size))
          have WAS := hide (WAS.out.low bc)
          have BE := hide (BE.out.below bc BE.out.lt)
          have IE := hide (IE.out.low bc)
          have BG := hide (BG.out.below bc BG.out.lt)
          have BO := hide (BO.out.below bc BO.out.lt)
          have IG := hide (IG.out.low bc)
          have IO := hide (IO.out.low bc)
          have B22 := hide (B22.out.below bc B22.out.lt)
          have hsa := wrap_succ30 (c := k) HKN.out.2
          have HV := hide (show PG.RightG Gy ∧ Gy.rows ≤ 6 ∧ Gy.cols ≤ 10 from ⟨HRY.out.1, by rw [HRY.out.2.1]; exact HRY.out.2.2.2.1, by rw [HRY.out.2.2.1]; exact HRY.out.2.2.2.2.1⟩)
          have VG := hide (show GBox wc Gy gG from ⟨_, by rw [HRY.out.2.1, HRY.out.2.2.1]; exact BG.out, by rw [HRY.out.2.1, HRY.out.2.2.1]; exact IG.out⟩)
          have VO := hide (show GBox wc Gy gO from ⟨_, by rw [HRY.out.2.1, HRY.out.2.2.1]; exact BO.out, by rw [HRY.out.2.1, HRY.out.2.2.1]; exact IO.out⟩)
          clear bc
          go_wp2_with fail
          go_roundw
          case rel => exact ⟨k + 1, Gy, by go_num, HV, VG, VO, bx⟩
          case measure => exact meas30 HKN.out.1
        · have hnm := HN.out
          unfold maxLen at hnm
          by_cases h1 : k < n
          · have h2 : ¬ k < 30 := fun h => hlt ⟨h1, h⟩
            go_wp2_with fail
            go_meet
            exact bx.out
          · go_wp2_with fail
            go_meet
            exact bx.out
  case rest =>
  have bc := hcut
  have BB := hide (BB.out.trans (bc.mono BB.out.size))
  have SP := hide (SP.out.keep bc)
  clear bc hcut
  go_wp2_with (
    go_at_call 3
    go_must (refine (gridRuns_any _ SP.out).mono ?_)
    rintro e w3 ⟨rfl, b3⟩
    have b3 := hide b3)
  go_ret
  exact ⟨rfl, BB.out.trans (b3.out.mono BB.out.size)⟩
theorem gridPlays_any (z0 z1 a0 a1 a2 : Int) (A : Option Addr) (n cc : Nat) (w : World)
    (hz0 : (Lit.int .i64 z0).wf = true) (hz1 : (Lit.int .i64 z1).wf = true) (ha0 : (Lit.int .i64 a0).wf = true) (ha1 : (Lit.int .i64 a1).wf = true) (ha2 : (Lit.int .i64 a2).wf = true) (hQ : QArgs w A n) (hn : n ≤ maxLen) (hs : Spans w) :
    Calls Tryd.prog 4 #[.int .i64 z0, .int .i64 z1, .agg #[.int .i64 a0, .int .i64 a1, .int .i64 a2], .slice A n cc] w fun e w' => e = .returned (.bool true) ∧ Below w.heap.size w w' :=
  gridPlays_core z0 z1 a0 a1 a2 A n cc w (bounds_i64 hz0) (bounds_i64 hz1) (bounds_i64 ha0) (bounds_i64 ha1) (bounds_i64 ha2) hQ hn hs
end Go.Proofs.YtfeapcneebofjaaDoor
