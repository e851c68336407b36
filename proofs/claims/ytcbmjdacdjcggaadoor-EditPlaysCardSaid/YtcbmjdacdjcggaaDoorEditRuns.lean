/- EditRuns: chapter 8's runs, a closed sentence; its text of a grid. -/
import Derived.Test.YtcbmjdacdjcggaaDoorGridEdit
import Derived.Test.YtcbmjdacdjcggaaDoorGridTextsP
import Derived.Test.YtcbmjdacdjcggaaDoorGridShift
import Derived.Deep.DeepCutAuto
import Derived.Deep.CutBlock
import Derived.Deep.RegionHeld3
set_option maxRecDepth 100000
namespace Go.Proofs.YtcbmjdacdjcggaaDoor
open Go.RowKit
set_option linter.unusedVariables false
namespace PG
/-- letters from 'a' on, in a row; in a column -/
def abcd : Nat → Gr
  | 0 => newG 1 4 plain
  | k + 1 => putI (abcd k) 0 k (97 + k) plain
def col3 : Nat → Gr
  | 0 => newG 3 1 plain
  | k + 1 => putI (col3 k) k 0 (97 + k) plain
theorem abcd_all : ∀ k, k ≤ 4 → RightG (abcd k) ∧ (abcd k).rows = 1 ∧ (abcd k).cols = 4 ∧ RowOf ((abcd k).f 0) ((List.range k).map fun i : Nat => 97 + (i : Int)) ∧ ∀ j, k ≤ j → (abcd k).f 0 j = blank plain
  | 0, _ => ⟨right_newG plain_ok (by omega) (by omega) (by omega) (by omega), rfl, rfl, fun j x h => by simp at h, fun _ _ => rfl⟩
  | k + 1, h => by
    obtain ⟨h1, h2, h3, h4, h5⟩ := abcd_all k (by omega)
    have e : abcd (k + 1) = putG (abcd k) 0 k (97 + k) plain := putI_in rfl rfl
    have hl : ((List.range k).map fun i : Nat => 97 + (i : Int)).length = k := by simp
    have hp := put_letter (g := abcd k) (k := k) (s := (List.range k).map fun i : Nat => 97 + (i : Int)) (x := 97 + k) (by omega) (by rw [hl, h3]; omega) (by omega) (by omega) h4 (by rw [hl]; exact h5)
    rw [hl] at hp
    rw [e]
    refine ⟨right_putG h1 plain_ok _ _ _, (put_size ..).1.trans h2, (put_size ..).2.trans h3, ?_, fun j hj => hp.2 j (by simpa using hj)⟩
    rw [List.range_succ, List.map_append]
    exact hp.1
theorem abcd_row : RowOf ((abcd 4).f 0) [97, 98, 99, 100] := (abcd_all 4 (by omega)).2.2.2.1
theorem col3_all : ∀ k, k ≤ 3 → RightG (col3 k) ∧ (col3 k).rows = 3 ∧ (col3 k).cols = 1 ∧ (∀ i, i < k → (col3 k).f i 0 = (97 + (i : Int), 0, plain)) ∧ ∀ i, k ≤ i → i < 3 → (col3 k).f i 0 = blank plain
  | 0, _ => ⟨right_newG plain_ok (by omega) (by omega) (by omega) (by omega), rfl, rfl, fun i h => by omega, fun _ _ _ => rfl⟩
  | k + 1, h => by
    obtain ⟨h1, h2, h3, h4, h5⟩ := col3_all k (by omega)
    have e : col3 (k + 1) = putG (col3 k) k 0 (97 + k) plain := putI_in rfl rfl
    have hw := width_ascii (x := 97 + (k : Int)) (by omega) (by omega)
    have e2 : putG (col3 k) k 0 (97 + k) plain = ⟨3, 1, fun i j => if i = k then putRow ((col3 k).f k) 0 (97 + k) plain 1 j else (col3 k).f i j⟩ := by
      unfold putG
      rw [hw, if_pos ⟨by omega, by omega, by simp [h3]⟩, h2, h3]
      rfl
    refine ⟨e ▸ right_putG h1 plain_ok _ _ _, ?_, ?_, fun i hi => ?_, fun i hi hi3 => ?_⟩
    · rw [e, e2]
    · rw [e, e2]
    · rw [e, e2]
      show (if i = k then putRow _ _ _ _ _ _ else _) = _
      by_cases hik : i = k
      · subst hik
        rw [if_pos rfl]
        unfold putRow
        rw [if_pos rfl]
        rfl
      · rw [if_neg hik]
        exact h4 i (by omega)
    · rw [e, e2]
      show (if i = k then putRow _ _ _ _ _ _ else _) = _
      rw [if_neg (by omega)]
      exact h5 i (by omega) hi3
theorem text_of {g : Gr} {r : Nat} {s : List Int} (h : runes (g.f r) g.cols = s) (ha : ∀ x ∈ s, 0 ≤ x ∧ x < 128) : text (g.f r) g.cols = s := by
  unfold text
  rw [h, enc_ascii ha]
theorem run_ins : text ((shiftI (abcd 4) 0 1 1 plain).f 0) 4 = [97, 32, 98, 99] := by
  obtain ⟨h1, h2, h3, h4, _⟩ := abcd_all 4 (by omega)
  have e : shiftI (abcd 4) 0 1 1 plain = shiftG (abcd 4) 0 1 ((1 : Nat) : Int) plain := if_pos (by omega)
  have h : runes ((shiftG (abcd 4) 0 1 ((1 : Nat) : Int) plain).f 0) 4 = [97, 32, 98, 99] := insert_runes (g := abcd 4) (s := [97, 98, 99, 100]) (k := 1) (m := 1) (by omega) h3 abcd_row (by decide)
  rw [e]
  unfold text
  rw [h]
  exact enc_ascii (by decide)
theorem run_del : text ((shiftI (abcd 4) 0 1 (-2) plain).f 0) 4 = [97, 100, 32, 32] := by
  obtain ⟨h1, h2, h3, h4, _⟩ := abcd_all 4 (by omega)
  have e : shiftI (abcd 4) 0 1 (-2) plain = shiftG (abcd 4) 0 1 (-((2 : Nat) : Int)) plain := if_pos (by omega)
  have h : runes ((shiftG (abcd 4) 0 1 (-((2 : Nat) : Int)) plain).f 0) 4 = [97, 100, 32, 32] := delete_runes (g := abcd 4) (s := [97, 98, 99, 100]) (k := 1) (m := 2) (by omega) h3 abcd_row (by decide) (by decide)
  rw [e]
  unfold text
  rw [h]
  exact enc_ascii (by decide)
theorem run_up {i : Nat} (hi : i < 3) : text ((scrollI (col3 3) 0 2 1 plain).f i) 1 = if i = 0 then [98] else if i = 1 then [99] else [32] := by
  obtain ⟨h1, h2, h3, h4, _⟩ := col3_all 3 (by omega)
  have e : scrollI (col3 3) 0 2 1 plain = scrollG (col3 3) 0 ((col3 3).rows - 1) 1 plain := by
    unfold scrollI
    rw [if_pos (by omega), h2]
    rfl
  have hf := scroll_f (g := col3 3) (n := 1) (p := plain) (by omega) (i := i) (by omega) 0
  rw [e]
  unfold text
  have hr : runes ((scrollG (col3 3) 0 ((col3 3).rows - 1) 1 plain).f i) 1 = if i = 0 then [98] else if i = 1 then [99] else [32] := by
    unfold runes
    show ((List.filter _ [0]).map _) = _
    obtain rfl | rfl | rfl : i = 0 ∨ i = 1 ∨ i = 2 := by omega
    · rw [if_pos (by omega), show (((0 : Nat) : Int) + 1).toNat = 1 from rfl, h4 1 (by omega)] at hf
      simp [hf, kd, rn]
    · rw [if_pos (by omega), show (((1 : Nat) : Int) + 1).toNat = 2 from rfl, h4 2 (by omega)] at hf
      simp [hf, kd, rn]
    · rw [if_neg (by omega)] at hf
      simp [hf, kd, rn, blank]
  rw [hr]
  obtain rfl | rfl | rfl : i = 0 ∨ i = 1 ∨ i = 2 := by omega
  all_goals exact enc_ascii (by decide)
end PG
set_option maxHeartbeats 4000000 in
theorem text8_any (w : World) (hs : Spans w) : Calls Tryd.prog 14 #[.string { data := #[97, 98, 99, 100] }] w (GotG w (PG.abcd 4)) := by
  have HS := hide hs
  have PLF := hide (show ∀ w', Calls Tryd.prog 8 #[] w' fun e w'' => e = .returned (.agg #[.int .i64 (-1), .int .i64 (-1), .int .i64 0]) ∧ Below w'.heap.size w' w'' from fun w' => rplain_any w')
  clear hs
  go_enter Tryd.func14, Tryd.ntmps14
  go_upto_region 1 with fail
  have bX := Box.new w 27 #[.int .i64 0, .int .i64 0, .slice none 0 0]
  have bb : Below w.heap.size w (w.alloc (.cells #[.int .i64 0, .int .i64 0, .slice none 0 0] 27)) := (Below.refl _ _).alloc (Nat.le_refl _) _
  generalize w.alloc (.cells #[.int .i64 0, .int .i64 0, .slice none 0 0] 27) = w1 at bX bb ⊢
  obtain ⟨gX, hgX⟩ : ∃ g, w.heap.size = g := ⟨_, rfl⟩
  have BX := hide bX
  have BB := hide bb
  have SP := hide (HS.out.keep bb)
  have HGX := hide (Nat.le_of_eq hgX)
  rw [hgX] at BX ⊢
  clear bX bb hgX HS
  go_cut [3] (fun u wx => GVar w1.heap.size (PG.abcd 0) u wx ∧ Below w1.heap.size w1 wx)
  case first =>
    as_aux_lemma =>
      go_wp2_with (first
        | (go_at_call 8
           go_must (refine (PLF.out _).mono ?_)
           rintro e w2 ⟨rfl, b2⟩
           have b2 := hide b2)
        | (go_at_call 9
           go_must (refine (u_new 1 4 PG.plain _ (by omega) (by omega) (by omega) (by omega)).mono ?_)
           rintro e w3 ⟨v, rfl, ⟨s, rfl, ho⟩, b3⟩
           obtain ⟨sA, sc, rfl, _⟩ := own_form' ho
           have b3 := hide (b2.out.trans (b3.mono b2.out.size))
           have ho := hide ho
           unfold gv))
      go_meet
      exact ⟨⟨_, rfl, b3.out.size, _, Box.new _ _ _, _, rfl, own_low ho.out ((Below.refl _ _).alloc (Nat.le_refl _) _)⟩, b3.out.alloc (by have := b3.out.size; omega) _⟩
  case rest =>
  obtain ⟨⟨gT, rfl, hgT, hT⟩, bc⟩ := hcut
  have HT := hide hT
  have BC := hide bc
  have HXT := hide (show gX < gT from Nat.lt_of_lt_of_le BX.out.lt hgT)
  have HST := hide (show 0 < gT from Nat.lt_of_lt_of_le SP.out.lt hgT)
  have HGT := hide hgT
  clear hT bc hgT
  go_wp2_with fail
  go_loopw [11] (fun i wr => ∃ k : Nat, k ≤ 4 ∧ i = .int .i64 k ∧ Hid (GBox wr (PG.abcd k) gT) ∧ Hid (Below w1.heap.size w1 wr)) (fun i _ => 4 - (intOf i).toNat)
  case atStart => exact ⟨0, by omega, rfl, HT, BC⟩
  case round =>
    clear HT BC
    obtain ⟨k, hk4, rfl, HT, bx⟩ := hrel
    obtain ⟨hr, h1, h4, -, -⟩ := PG.abcd_all k hk4
    obtain ⟨AT, cT, hbt, -, -, -, hit⟩ := HT.out.open_ h1 h4
    have BT := hide (show Box wr gT 27 #[.int .i64 1, .int .i64 4, .slice AT 4 cT] from hbt)
    by_cases hlt : k < 4
    · have IT := hide (show IsG wr (PG.abcd k) (.agg #[.int .i64 1, .int .i64 4, .slice AT 4 cT]) from hit)
      have HR := hide hr
      have SPX := hide (SP.out.below bx.out SP.out.lt)
      have hns : some 0 ∉ [some gT] := by have := HST.out; simp; omega
      have HK := hide hlt
      obtain ⟨y, hy⟩ : ∃ y : Int, 97 + (k : Int) = y := ⟨_, rfl⟩
      have HY := hide hy
      have hyb : 97 ≤ y ∧ y ≤ 100 := by omega
      have HYB := hide hyb
      clear hr h1 h4 hbt hit HT hyb hy
      go_upto_region 5 with fail
      clear hlt

      refine wp_region_rj (n := 24) [some gT] (fun _ => #[.int .i64 1, .int .i64 4, .slice AT 4 cT]) [(0, 0, 0, 0), (0, 0, 0, 0), (0, 0, 0, 0), (0, 0, 0, 0), (0, 0, 0, 0), (0, 0, 0, 0), (0, 0, 0, 0), (1, 0, 0, 0), (4, 0, 7, 27)] (fun j => [(.agg #[.int .i64 1, .int .i64 4, .slice AT 4 cT]), (.int .i64 (k : Int)), (.string { data := #[97, 98, 99, 100] }), (.int .i64 (k : Int)), (.int .u8 y), (.int .i32 y), (.agg #[.int .i64 (-1), .int .i64 (-1), .int .i64 0]), undef, undef].getD j undef) (fun j => [PG.dflt, PG.dflt, PG.dflt, PG.dflt, PG.dflt, PG.dflt, PG.dflt, (PG.putI (PG.abcd k) 0 k y PG.plain), PG.dflt].getD j PG.dflt) (fun _ => gT) (by kernel_rfl) (by kernel_rfl) (by kernel_rfl) rfl (by kernel_rfl) (fun j hk => ⟨by simp, rfl, by have hj := only4 (k := 8) (by kernel_rfl) j hk; subst hj; exact BT.out⟩) (fun i j h h' e => absurd ((only4 (k := 8) (by kernel_rfl) i h).trans (only4 (k := 8) (by kernel_rfl) j h').symm) e) (fun hRS => cases9 ⟨?_, ?_, ?_, ?_, ?_, ?_, ?_, ?_, ?_⟩) ?_
      · intro L a w' hL hsame hsz hJ hdep hcl
        have e0 : a.eval (.tmp 3) = (.pointer (some ⟨gT, 0, none⟩)) := eval_base hsame (by kernel_rfl)
        have hb := hJ.old 8 rfl (late hcl hL (by kernel_rfl))
        have q0 : w'.cell? ⟨gT, 0, none⟩ = some (.int .i64 1) := hb.cell 0
        have q1 : w'.cell? ⟨gT, 1, none⟩ = some (.int .i64 4) := hb.cell 1
        have q2 : w'.cell? ⟨gT, 2, none⟩ = some (.slice AT 4 cT) := hb.cell 2
        refine Step.val _ rfl rfl (wanted_none rfl) (.agg #[.int .i64 1, .int .i64 4, .slice AT 4 cT]) w' (fun ρ hρ => ?_) (hJ.val hRS hcl hL rfl (Below.refl _ _) _ rfl)
        rw [hρ] at e0
        clear hb
        clear hJ hsame hdep hcl hρ hsz
        go_simp
      · intro L a w' hL hsame hsz hJ hdep hcl
        have e0 : a.eval (.tmp 4) = (.int .i64 (k : Int)) := eval_base hsame (by kernel_rfl)
        refine Step.val _ rfl rfl (wanted_none rfl) (.int .i64 (k : Int)) w' (fun ρ hρ => ?_) (hJ.val hRS hcl hL rfl (Below.refl _ _) _ rfl)
        rw [hρ] at e0
        clear hJ hsame hdep hcl hρ hsz
        go_simp
      · intro L a w' hL hsame hsz hJ hdep hcl
        have e0 : a.eval (.tmp 0) = (.string { data := #[97, 98, 99, 100] }) := eval_base hsame (by kernel_rfl)
        refine Step.val _ rfl rfl (wanted_none rfl) (.string { data := #[97, 98, 99, 100] }) w' (fun ρ hρ => ?_) (hJ.val hRS hcl hL rfl (Below.refl _ _) _ rfl)
        rw [hρ] at e0
        clear hJ hsame hdep hcl hρ hsz
        go_simp
      · intro L a w' hL hsame hsz hJ hdep hcl
        have e0 : a.eval (.tmp 4) = (.int .i64 (k : Int)) := eval_base hsame (by kernel_rfl)
        refine Step.val _ rfl rfl (wanted_none rfl) (.int .i64 (k : Int)) w' (fun ρ hρ => ?_) (hJ.val hRS hcl hL rfl (Below.refl _ _) _ rfl)
        rw [hρ] at e0
        clear hJ hsame hdep hcl hρ hsz
        go_simp
      · intro L a w' hL hsame hsz hJ hdep hcl
        have e0 : a.eval (.tmp 16) = (.string { data := #[97, 98, 99, 100] }) := eval_slot (j := 2) (by kernel_rfl) (hJ.valOf (by decide) (dep_of hdep 2 (by kernel_rfl)) rfl rfl)
        have e1 : a.eval (.tmp 17) = (.int .i64 (k : Int)) := eval_slot (j := 3) (by kernel_rfl) (hJ.valOf (by decide) (dep_of hdep 3 (by kernel_rfl)) rfl rfl)
        refine Step.val _ rfl rfl (wanted_none rfl) (.int .u8 y) w' (fun ρ hρ => ?_) (hJ.val hRS hcl hL rfl (Below.refl _ _) _ rfl)
        rw [hρ] at e0 e1
        clear hJ hsame hdep hcl hρ hsz
        have hk5 := HK.out
        have hy5 := HY.out
        obtain rfl | rfl | rfl | rfl : k = 0 ∨ k = 1 ∨ k = 2 ∨ k = 3 := by omega
        all_goals obtain rfl : y = _ := hy5.symm
        all_goals go_simp
        all_goals rfl
      · intro L a w' hL hsame hsz hJ hdep hcl
        have e0 : a.eval (.tmp 18) = (.int .u8 y) := eval_slot (j := 4) (by kernel_rfl) (hJ.valOf (by decide) (dep_of hdep 4 (by kernel_rfl)) rfl rfl)
        refine Step.val _ rfl rfl (wanted_none rfl) (.int .i32 y) w' (fun ρ hρ => ?_) (hJ.val hRS hcl hL rfl (Below.refl _ _) _ rfl)
        rw [hρ] at e0
        clear hJ hsame hdep hcl hρ hsz
        go_simp
        have := HYB.out
        exact IntWalk.i32_in _ (by omega)
      · intro L a w' hL hsame hsz hJ hdep hcl
        refine Step.call _ rfl rfl (wanted_none rfl) 8 #[] (fun ρ hρ => ?_) ?_
        · skip
          have ef : ρ (.func 8) = .func (.func 8) #[] #[] := (hρ _).symm
          clear hJ hsame hdep hcl hρ hsz
          go_simp
        · refine (PLF.out w').mono ?_
          rintro e w2 ⟨rfl, bb⟩
          exact ⟨_, rfl, hJ.val hRS hcl hL rfl bb _ rfl⟩
      · intro L a w' hL hsame hsz hJ hdep hcl
        have e0 : a.eval (.tmp 14) = (.agg #[.int .i64 1, .int .i64 4, .slice AT 4 cT]) := eval_slot (j := 0) (by kernel_rfl) (hJ.valOf (by decide) (dep_of hdep 0 (by kernel_rfl)) rfl rfl)
        have e2 : a.eval (.tmp 15) = (.int .i64 (k : Int)) := eval_slot (j := 1) (by kernel_rfl) (hJ.valOf (by decide) (dep_of hdep 1 (by kernel_rfl)) rfl rfl)
        have e3 : a.eval (.tmp 19) = (.int .i32 y) := eval_slot (j := 5) (by kernel_rfl) (hJ.valOf (by decide) (dep_of hdep 5 (by kernel_rfl)) rfl rfl)
        have e4 : a.eval (.tmp 20) = (.agg #[.int .i64 (-1), .int .i64 (-1), .int .i64 0]) := eval_slot (j := 6) (by kernel_rfl) (hJ.valOf (by decide) (dep_of hdep 6 (by kernel_rfl)) rfl rfl)
        refine Step.call _ rfl rfl (wanted_none rfl) 10 #[.agg #[.int .i64 1, .int .i64 4, .slice AT 4 cT], .int .i64 0, .int .i64 (k : Int), .int .i32 y, .agg #[.int .i64 (-1), .int .i64 (-1), .int .i64 0]] (fun ρ hρ => ?_) ?_
        · skip
          rw [hρ] at e0 e2 e3 e4
          have ec0 : ρ (.const (.int .i64 0)) = (.int .i64 0) := (hρ _).symm
          have ef : ρ (.func 10) = .func (.func 10) #[] #[] := (hρ _).symm
          clear hJ hsame hdep hcl hρ hsz
          go_simp
        · refine (u_put HR.out (IT.out.keptS (norow BT.out (by decide)) hJ.kept) 0 (k : Int) y PG.plain (by omega) (by have := HK.out; omega) (by have := HYB.out; omega) (by have := HYB.out; omega) (SPX.out.keptS hJ.kept hns)).mono ?_
          rintro e w2 ⟨v, rfl, hg, bb⟩
          exact ⟨v, rfl, hJ.grid hRS hcl hL rfl bb v hg⟩
      · intro L a w' hL hsame hsz hJ hdep hcl
        obtain ⟨sv, hsv, hso⟩ := hJ.gridOf (by decide) (dep_of hdep 7 (by kernel_rfl)) rfl
        obtain ⟨sA, sc, rfl, _⟩ := own_form' hso
        have es : a.eval (.tmp 21) = .agg #[.int .i64 ((PG.putI (PG.abcd k) 0 k y PG.plain)).rows, .int .i64 ((PG.putI (PG.abcd k) 0 k y PG.plain)).cols, .slice sA (((PG.putI (PG.abcd k) 0 k y PG.plain)).rows * ((PG.putI (PG.abcd k) 0 k y PG.plain)).cols) sc] := eval_slot (j := 7) (by kernel_rfl) hsv
        have hb : Box w' gT 27 #[.int .i64 1, .int .i64 4, .slice AT 4 cT] := hJ.old 8 rfl hL
        obtain ⟨m0, m1, m2, f0, f1, f2⟩ := Box.three (a := (.int .i64 1)) (b := (.int .i64 4)) (c := (.slice AT 4 cT)) hb
        have ea : a.eval (.tmp 3) = .pointer (some ⟨gT, 0, none⟩) := eval_base hsame (by kernel_rfl)
        refine Step.skip _ rfl (wanted_none rfl) (set3 w' gT (.int .i64 ((PG.putI (PG.abcd k) 0 k y PG.plain)).rows) (.int .i64 ((PG.putI (PG.abcd k) 0 k y PG.plain)).cols) (.slice sA (((PG.putI (PG.abcd k) 0 k y PG.plain)).rows * ((PG.putI (PG.abcd k) 0 k y PG.plain)).cols) sc)) (fun ρ hρ => ?_) (hJ.set hRS hcl hL rfl (dep_of hdep 7 (by kernel_rfl)) hsv)
        rw [hρ] at es ea
        clear hJ hsame hdep hcl hρ hsz hb hso hsv
        unfold set3
        go_simp
      · intro L a w' hsame hsz hJ hall
        obtain ⟨u, hu, ha⟩ := act_puts hsame
        have h : (GBox w' (PG.putI (PG.abcd k) 0 k y PG.plain) gT) ∧ Below gT wr w' := by
          (try simp only [hu])
          exact (And.intro (hJ.var4 hall 8 (by decide) rfl rfl (by decide) rfl) (hJ.kept.toBelow (Nat.le_of_lt BT.out.lt) (by simp)))
        have h := hide h
        clear hJ hall hsz hu hsame
        subst ha
        change Exit.inBlock _ _ Exit.normal (Act.put (Act.put (Act.put (Act.put (Act.put (Act.put (Act.put (Act.put (Act.put (putAll _ u 0 _) (some 14) (u 0)) (some 15) (u 1)) (some 16) (u 2)) (some 17) (u 3)) (some 18) (u 4)) (some 19) (u 5)) (some 20) (u 6)) (some 21) (u 7)) none (u 8)) _
        simp only [putAll]
        generalize u 0 = v0
        generalize u 1 = v1
        generalize u 2 = v2
        generalize u 3 = v3
        generalize u 4 = v4
        generalize u 5 = v5
        generalize u 6 = v6
        generalize u 7 = v7
        generalize u 8 = v8
        go_simp
        obtain ⟨hgx, bxx⟩ := h.out
        rw [← HY.out] at hgx
        have HT := hide (show GBox w' (PG.abcd (k + 1)) gT from hgx)
        have bx := hide (bx.out.trans (bxx.mono HGT.out))
        clear hgx bxx h
        (try simp only [Exit.then, Exit.inBlock])
        go_wp2_with fail
        go_roundw
        case rel => exact ⟨k + 1, by have := HK.out; omega, by go_num, HT, bx⟩
        case measure => exact meas_succ HK.out
    · obtain rfl : k = 4 := by omega
      obtain ⟨m0, m1, m2, -, -, -⟩ := Box.three (a := .int .i64 1) (b := .int .i64 4) (c := .slice AT 4 cT) BT.out
      have hx := BX.out.below bx.out BX.out.lt
      obtain ⟨q0, q1, q2, q3, q4, q5⟩ := hx.three
      have hst := hide (store_grid (B := w.heap.size) (R := 1) (K := 4) (s := .slice AT 4 cT) hx rfl h1 h4 hit HGX.out)
      have HI := hide (show IsG _ (PG.abcd 4) (gv 1 4 (.slice AT 4 cT)) from IsG.kept (show IsG wr (PG.abcd 4) (gv 1 4 (.slice AT 4 cT)) from hit) hx (by decide) (set3_kept wr gX (.int .i64 1) (.int .i64 4) (.slice AT 4 cT)))
      have HZ := hide ((BB.out.trans (bx.out.mono BB.out.size)).trans hst.out.2)
      have X := hx.set3 (.int .i64 1) (.int .i64 4) (.slice AT 4 cT)
      obtain ⟨j0, j1, j2, _⟩ := X.three
      clear hit hr h1 h4 hx X hbt HT hlt hk4
      go_wp2_with fail
      refine bodyPost_ret (v := .agg #[.int .i64 1, .int .i64 4, .slice AT 4 cT]) (by simp [results, Tryd.results14, go_sem, j0, j1, j2]) rfl ⟨_, rfl, HI.out, HZ.out⟩

set_option maxHeartbeats 8000000 in
theorem editRuns_any (w : World) (hs : Spans w) : Calls Tryd.prog 3 #[] w fun e w' => e = .returned (.bool true) ∧ Below w.heap.size w w' := by
  have SP := hide hs
  have PLF := hide (show ∀ w', Calls Tryd.prog 8 #[] w' fun e w'' => e = .returned (.agg #[.int .i64 (-1), .int .i64 (-1), .int .i64 0]) ∧ Below w'.heap.size w' w'' from fun w' => rplain_any w')
  have BB := hide (Below.refl w.heap.size w)
  clear hs
  go_enter Tryd.func3, Tryd.ntmps3
  go_upto_region 1 with fail
  go_cut [1] (fun u wx => PBox PG.plain u wx ∧ Below w.heap.size w wx)
  case first =>
    as_aux_lemma =>
      go_wp2_with (
        go_at_call 8
        go_must (refine (PLF.out _).mono ?_)
        rintro e w2 ⟨rfl, b2⟩
        have b2 := hide b2)
      go_meet
      exact ⟨⟨_, rfl, Box.new _ _ _⟩, b2.out.alloc b2.out.size _⟩
  case rest =>
  obtain ⟨⟨gP, rfl, hP⟩, bc⟩ := hcut
  have BB := hide (BB.out.trans (bc.mono BB.out.size))
  have SP := hide (SP.out.keep bc)
  have BP := hide (show Box wc gP 23 #[.int .i64 (-1), .int .i64 (-1), .int .i64 0] from hP)
  clear bc hP
  go_upto_region 2 with fail
  go_cut [2] (fun u wx => GVar wc.heap.size (PG.col3 0) u wx ∧ Below wc.heap.size wc wx)
  case first =>
    as_aux_lemma =>
      obtain ⟨m0, m1, m2, -, -, -⟩ := BP.out.three
      go_wp2_with (
        go_at_call 9
        go_must (refine (u_new 3 1 PG.plain _ (by omega) (by omega) (by omega) (by omega)).mono ?_)
        rintro e w3 ⟨v, rfl, ⟨s, rfl, ho⟩, b3⟩
        obtain ⟨sA, sc, rfl, _⟩ := own_form' ho
        have b3 := hide b3
        have ho := hide ho
        clear m0 m1 m2
        unfold gv)
      go_meet
      exact ⟨⟨_, rfl, b3.out.size, _, Box.new _ _ _, _, rfl, own_low ho.out ((Below.refl _ _).alloc (Nat.le_refl _) _)⟩, b3.out.alloc (by have := b3.out.size; omega) _⟩
  case rest =>
  obtain ⟨⟨gT, rfl, hgT, hT⟩, bc⟩ := hcut
  have HT := hide hT
  have BC := hide bc
  have HGT := hide hgT
  clear hT bc hgT
  rename World => w2
  go_upto_block 0 with fail
  go_cut [8] (fun _ wx => GBox wx (PG.col3 3) gT ∧ Below wc.heap.size wc wx)
  case first =>
    as_aux_lemma =>
      go_wp2_with fail
      go_loopw [8] (fun i wr => ∃ k : Nat, k ≤ 3 ∧ i = .int .i64 k ∧ Hid (GBox wr (PG.col3 k) gT) ∧ Hid (Below wc.heap.size wc wr)) (fun i _ => 3 - (intOf i).toNat)
      case atStart => exact ⟨0, by omega, rfl, HT, BC⟩
      case round =>
        clear HT BC
        obtain ⟨k, hk3, rfl, HT, bx⟩ := hrel
        obtain ⟨hr, h1, h4, -, -⟩ := PG.col3_all k hk3
        obtain ⟨AT, cT, hbt, -, -, -, hit⟩ := HT.out.open_ h1 h4
        by_cases hlt : k < 3
        · have BT := hide (show Box wr gT 27 #[.int .i64 3, .int .i64 1, .slice AT 3 cT] from hbt)
          have PUT := hide (u_put hr hit k 0 (97 + k) PG.plain (by omega) (by omega) (by omega) (by omega) (SP.out.below bx.out SP.out.lt))
          obtain ⟨m0, m1, m2, -, -, -⟩ := BT.out.three
          obtain ⟨q0, q1, q2, -, -, -⟩ := (BP.out.below bx.out BP.out.lt).three
          have HK := hide hlt
          clear hr h1 h4 hbt hit HT
          go_wp2_with (
            go_at_call 10
            go_must (refine PUT.out.mono ?_)
            rintro e w4 ⟨v, rfl, ⟨s, rfl, ho⟩, b4⟩
            obtain ⟨sA, sc, rfl, _⟩ := own_form' ho
            have hst := hide (store_grid (B := wc.heap.size) (BT.out.below b4 BT.out.lt) rfl rfl rfl ⟨_, rfl, ho⟩ HGT.out)
            have hb4 := BT.out.below b4 BT.out.lt
            clear m0 m1 m2 q0 q1 q2
            obtain ⟨m0, m1, m2, f0, f1, f2⟩ := hb4.three
            have bx := hide (bx.out.trans (b4.mono bx.out.size))
            unfold gv
            clear hb4 b4)
          go_roundw
          case rel => exact ⟨k + 1, by have := HK.out; omega, by go_num, hide hst.out.1, hide (bx.out.trans hst.out.2)⟩
          case measure => exact meas_succ HK.out
        · obtain rfl : k = 3 := by omega
          go_wp2_with fail
          go_meet
          exact ⟨HT.out, bx.out⟩
  case rest =>
  obtain ⟨hT, bc⟩ := hcut
  clear HT BC HGT
  have BB := hide (BB.out.trans (bc.mono BB.out.size))
  have SP := hide (SP.out.keep bc)
  have BP := hide (BP.out.below bc BP.out.lt)
  obtain ⟨hr, h1, h4, -, -⟩ := PG.col3_all 3 (by omega)
  obtain ⟨AT, cT, hbt, -, -, -, hit⟩ := hT.open_ h1 h4
  have BT := hide (show Box wc gT 27 #[.int .i64 3, .int .i64 1, .slice AT 3 cT] from hbt)
  have IT := hide (show IsG wc (PG.col3 3) (.agg #[.int .i64 3, .int .i64 1, .slice AT 3 cT]) from hit)
  have HR := hide hr
  have h1 := hide h1
  have h4 := hide h4
  clear hbt hit hT bc hr
  go_upto_region 8 with fail
  go_cut [4] (fun u wx => GVar wc.heap.size (PG.scrollI (PG.col3 3) 0 2 1 PG.plain) u wx ∧ Below wc.heap.size wc wx)
  case first =>
    as_aux_lemma =>
      obtain ⟨m0, m1, m2, -, -, -⟩ := BT.out.three
      obtain ⟨q0, q1, q2, -, -, -⟩ := BP.out.three
      have UP := hide (u_up HR.out IT.out 0 2 1 PG.plain PG.plain_ok (by omega) (by omega) (by omega))
      go_wp2_with (
        go_at_call 11
        go_must (refine UP.out.mono ?_)
        rintro e w3 ⟨v, rfl, ⟨s, rfl, ho⟩, b3⟩
        obtain ⟨sA, sc, rfl, _⟩ := own_form' ho
        have b3 := hide b3
        have ho := hide ho
        clear m0 m1 m2 q0 q1 q2
        unfold gv)
      go_meet
      exact ⟨⟨_, rfl, b3.out.size, _, Box.new _ _ _, _, rfl, own_low ho.out ((Below.refl _ _).alloc (Nat.le_refl _) _)⟩, b3.out.alloc (by have := b3.out.size; omega) _⟩
  case rest =>
  obtain ⟨⟨gU, rfl, -, hU⟩, bc⟩ := hcut
  have BB := hide (BB.out.trans (bc.mono BB.out.size))
  have SP := hide (SP.out.keep bc)
  have BP := hide (BP.out.below bc BP.out.lt)
  have BT := hide (BT.out.below bc BT.out.lt)
  have IT := hide (IT.out.low bc)
  have hus : (PG.scrollI (PG.col3 3) 0 2 1 PG.plain).rows = 3 ∧ (PG.scrollI (PG.col3 3) 0 2 1 PG.plain).cols = 1 := ⟨(PG.scrollI_size ..).1.trans h1.out, (PG.scrollI_size ..).2.trans h4.out⟩
  have hur : PG.RightG (PG.scrollI (PG.col3 3) 0 2 1 PG.plain) := PG.right_scrollI HR.out PG.plain_ok _ _ _
  obtain ⟨AU, cU, hbu, -, -, -, hiu⟩ := hU.open_ hus.1 hus.2
  have BU := hide (show Box wc gU 27 #[.int .i64 3, .int .i64 1, .slice AU 3 cU] from hbu)
  have IU := hide (show IsG wc (PG.scrollI (PG.col3 3) 0 2 1 PG.plain) (.agg #[.int .i64 3, .int .i64 1, .slice AU 3 cU]) from hiu)
  have TX0 := hide (show ∀ (w' : World) (v : Value), IsG w' (PG.scrollI (PG.col3 3) 0 2 1 PG.plain) v → Calls Tryd.prog 12 #[v, .int .i64 0] w' fun e w'' => e = .returned (.string { data := #[98] }) ∧ Below w'.heap.size w' w'' from fun w' v h => by
    have := u_text hur h 0 (by rw [hus.1]; decide)
    rw [hus.2, PG.run_up (i := 0) (by omega)] at this
    exact this)
  have TX1 := hide (show ∀ (w' : World) (v : Value), IsG w' (PG.scrollI (PG.col3 3) 0 2 1 PG.plain) v → Calls Tryd.prog 12 #[v, .int .i64 1] w' fun e w'' => e = .returned (.string { data := #[99] }) ∧ Below w'.heap.size w' w'' from fun w' v h => by
    have := u_text hur h 1 (by rw [hus.1]; decide)
    rw [hus.2, PG.run_up (i := 1) (by omega)] at this
    exact this)
  have TX2 := hide (show ∀ (w' : World) (v : Value), IsG w' (PG.scrollI (PG.col3 3) 0 2 1 PG.plain) v → Calls Tryd.prog 12 #[v, .int .i64 2] w' fun e w'' => e = .returned (.string { data := #[32] }) ∧ Below w'.heap.size w' w'' from fun w' v h => by
    have := u_text hur h 2 (by rw [hus.1]; decide)
    rw [hus.2, PG.run_up (i := 2) (by omega)] at this
    exact this)
  have TXI := hide (show ∀ (w' : World) (v : Value), IsG w' (PG.shiftI (PG.abcd 4) 0 1 1 PG.plain) v → Calls Tryd.prog 12 #[v, .int .i64 0] w' fun e w'' => e = .returned (.string { data := #[97, 32, 98, 99] }) ∧ Below w'.heap.size w' w'' from fun w' v h => by
    obtain ⟨a1, a2, a3, -⟩ := PG.abcd_all 4 (by omega)
    have := u_text (PG.right_shiftI a1 PG.plain_ok _ _ _) h 0 (by rw [(PG.shiftI_size ..).1, a2]; decide)
    rw [(PG.shiftI_size ..).2, a3, PG.run_ins] at this
    exact this)
  have TXD := hide (show ∀ (w' : World) (v : Value), IsG w' (PG.shiftI (PG.abcd 4) 0 1 (-2) PG.plain) v → Calls Tryd.prog 12 #[v, .int .i64 0] w' fun e w'' => e = .returned (.string { data := #[97, 100, 32, 32] }) ∧ Below w'.heap.size w' w'' from fun w' v h => by
    obtain ⟨a1, a2, a3, -⟩ := PG.abcd_all 4 (by omega)
    have := u_text (PG.right_shiftI a1 PG.plain_ok _ _ _) h 0 (by rw [(PG.shiftI_size ..).1, a2]; decide)
    rw [(PG.shiftI_size ..).2, a3, PG.run_del] at this
    exact this)
  have HA := hide (PG.abcd_all 4 (by omega)).1
  clear bc hU hus hur hbu hiu h1 h4
  go_upto_region 9 with fail
  go_cut [0] (fun u0 wx => (u0 = .bool true) ∧ Below wc.heap.size wc wx)
  case first =>
    as_aux_lemma =>
      refine wp_region_rj (n := 49) [] (fun _ => #[]) [(1, 0, 0, 0), (0, 0, 0, 0), (1, 0, 0, 0), (0, 0, 0, 0), (0, 0, 0, 0), (0, 0, 0, 0), (1, 0, 0, 0), (0, 0, 0, 0), (1, 0, 0, 0), (0, 0, 0, 0), (0, 0, 0, 0), (0, 0, 0, 0), (0, 0, 0, 0), (0, 0, 0, 0), (0, 0, 0, 0), (0, 0, 0, 0), (0, 0, 0, 0), (0, 0, 0, 0), (0, 0, 0, 0), (0, 0, 0, 0), (0, 0, 0, 0), (0, 0, 0, 0), (0, 0, 0, 0), (0, 0, 0, 0), (0, 0, 0, 0), (0, 0, 0, 0), (0, 0, 0, 0), (0, 0, 0, 0)] (fun j => [undef, (.agg #[.int .i64 (-1), .int .i64 (-1), .int .i64 0]), undef, (.string { data := #[97, 32, 98, 99] }), (.bool true), (.bool true), undef, (.agg #[.int .i64 (-1), .int .i64 (-1), .int .i64 0]), undef, (.string { data := #[97, 100, 32, 32] }), (.bool true), (.bool true), (.bool true), (.agg #[.int .i64 3, .int .i64 1, .slice AU 3 cU]), (.string { data := #[98] }), (.bool true), (.bool true), (.bool true), (.agg #[.int .i64 3, .int .i64 1, .slice AU 3 cU]), (.string { data := #[99] }), (.bool true), (.bool true), (.bool true), (.agg #[.int .i64 3, .int .i64 1, .slice AU 3 cU]), (.string { data := #[32] }), (.bool true), (.bool true), (.bool true)].getD j undef) (fun j => [(PG.abcd 4), PG.dflt, (PG.shiftI (PG.abcd 4) 0 1 1 PG.plain), PG.dflt, PG.dflt, PG.dflt, (PG.abcd 4), PG.dflt, (PG.shiftI (PG.abcd 4) 0 1 (-2) PG.plain), PG.dflt, PG.dflt, PG.dflt, PG.dflt, PG.dflt, PG.dflt, PG.dflt, PG.dflt, PG.dflt, PG.dflt, PG.dflt, PG.dflt, PG.dflt, PG.dflt, PG.dflt, PG.dflt, PG.dflt, PG.dflt, PG.dflt].getD j PG.dflt) (fun _ => 0) (by kernel_rfl) (by kernel_rfl) (by kernel_rfl) rfl (by kernel_rfl) (no4 rfl) (fun i j h => by revert h; exact no4 (p := fun _ => _) rfl i) (fun hRS => cases28 ⟨?_, ?_, ?_, ?_, ?_, ?_, ?_, ?_, ?_, ?_, ?_, ?_, ?_, ?_, ?_, ?_, ?_, ?_, ?_, ?_, ?_, ?_, ?_, ?_, ?_, ?_, ?_, ?_⟩) ?_
      · intro L a w' hL hsame hsz hJ hdep hcl
        refine Step.call _ rfl rfl (wanted_none rfl) 14 #[.string { data := #[97, 98, 99, 100] }] (fun ρ hρ => ?_) ?_
        · skip
          have ec0 : ρ (.const (.string { data := #[97, 98, 99, 100] })) = (.string { data := #[97, 98, 99, 100] }) := (hρ _).symm
          have ef : ρ (.func 14) = .func (.func 14) #[] #[] := (hρ _).symm
          clear hJ hsame hdep hcl hρ hsz
          go_simp
        · refine (text8_any w' (SP.out.keptS hJ.kept (by simp))).mono ?_
          rintro e w2 ⟨v, rfl, hg, bb⟩
          exact ⟨v, rfl, hJ.grid hRS hcl hL rfl bb v hg⟩
      · intro L a w' hL hsame hsz hJ hdep hcl
        have e0 : a.eval (.tmp 1) = (.pointer (some ⟨gP, 0, none⟩)) := eval_base hsame (by kernel_rfl)
        have hb := hJ.keptBox BP.out (by simp)
        have q0 : w'.cell? ⟨gP, 0, none⟩ = some (.int .i64 (-1)) := hb.cell 0
        have q1 : w'.cell? ⟨gP, 1, none⟩ = some (.int .i64 (-1)) := hb.cell 1
        have q2 : w'.cell? ⟨gP, 2, none⟩ = some (.int .i64 0) := hb.cell 2
        refine Step.val _ rfl rfl (wanted_none rfl) (.agg #[.int .i64 (-1), .int .i64 (-1), .int .i64 0]) w' (fun ρ hρ => ?_) (hJ.val hRS hcl hL rfl (Below.refl _ _) _ rfl)
        rw [hρ] at e0
        clear hb
        clear hJ hsame hdep hcl hρ hsz
        go_simp
      · intro L a w' hL hsame hsz hJ hdep hcl
        obtain ⟨v0, hv0, hG0⟩ := hJ.gridAt (j := 0) (by decide) (dep_of hdep 0 (by kernel_rfl)) rfl
        have hG0 : IsG w' (PG.abcd 4) v0 := hG0
        have e0 : a.eval (.tmp 22) = v0 := eval_slot (j := 0) (by kernel_rfl) hv0
        have e4 : a.eval (.tmp 23) = (.agg #[.int .i64 (-1), .int .i64 (-1), .int .i64 0]) := eval_slot (j := 1) (by kernel_rfl) (hJ.valOf (by decide) (dep_of hdep 1 (by kernel_rfl)) rfl rfl)
        refine Step.call _ rfl rfl (wanted_none rfl) 13 #[v0, .int .i64 0, .int .i64 1, .int .i64 1, .agg #[.int .i64 (-1), .int .i64 (-1), .int .i64 0]] (fun ρ hρ => ?_) ?_
        · skip
          rw [hρ] at e0 e4
          have ec0 : ρ (.const (.int .i64 0)) = (.int .i64 0) := (hρ _).symm
          have ec1 : ρ (.const (.int .i64 1)) = (.int .i64 1) := (hρ _).symm
          have ef : ρ (.func 13) = .func (.func 13) #[] #[] := (hρ _).symm
          clear hJ hsame hdep hcl hρ hsz
          go_simp
        · refine (u_insert HA.out hG0 0 1 1 PG.plain PG.plain_ok (by omega) (by omega) (by omega)).mono ?_
          rintro e w2 ⟨v, rfl, hg, bb⟩
          exact ⟨v, rfl, hJ.grid hRS hcl hL rfl bb v hg⟩
      · intro L a w' hL hsame hsz hJ hdep hcl
        obtain ⟨v2, hv2, hG2⟩ := hJ.gridAt (j := 2) (by decide) (dep_of hdep 2 (by kernel_rfl)) rfl
        have hG2 : IsG w' (PG.shiftI (PG.abcd 4) 0 1 1 PG.plain) v2 := hG2
        have e0 : a.eval (.tmp 24) = v2 := eval_slot (j := 2) (by kernel_rfl) hv2
        refine Step.call _ rfl rfl (wanted_none rfl) 12 #[v2, .int .i64 0] (fun ρ hρ => ?_) ?_
        · skip
          rw [hρ] at e0
          have ec0 : ρ (.const (.int .i64 0)) = (.int .i64 0) := (hρ _).symm
          have ef : ρ (.func 12) = .func (.func 12) #[] #[] := (hρ _).symm
          clear hJ hsame hdep hcl hρ hsz
          go_simp
        · refine (TXI.out w' _ hG2).mono ?_
          rintro e w2 ⟨rfl, bb⟩
          exact ⟨_, rfl, hJ.val hRS hcl hL rfl bb _ rfl⟩
      · intro L a w' hL hsame hsz hJ hdep hcl
        have e0 : a.eval (.tmp 25) = (.string { data := #[97, 32, 98, 99] }) := eval_slot (j := 3) (by kernel_rfl) (hJ.valOf (by decide) (dep_of hdep 3 (by kernel_rfl)) rfl rfl)
        refine Step.val _ rfl rfl (wanted_none rfl) (.bool true) w' (fun ρ hρ => ?_) (hJ.val hRS hcl hL rfl (Below.refl _ _) _ rfl)
        rw [hρ] at e0
        have ec0 : ρ (.const (.string { data := #[97, 32, 98, 99] })) = (.string { data := #[97, 32, 98, 99] }) := (hρ _).symm
        clear hJ hsame hdep hcl hρ hsz
        go_simp
      · intro L a w' hL hsame hsz hJ hdep hcl
        have e0 : a.eval (.tmp 26) = (.bool true) := eval_slot (j := 4) (by kernel_rfl) (hJ.valOf (by decide) (dep_of hdep 4 (by kernel_rfl)) rfl rfl)
        refine Step.val _ rfl rfl (wanted_none rfl) (.bool true) w' (fun ρ hρ => ?_) (hJ.val hRS hcl hL rfl (Below.refl _ _) _ rfl)
        rw [hρ] at e0
        clear hJ hsame hdep hcl hρ hsz
        go_simp
      · intro L a w' hL hsame hsz hJ hdep hcl
        have gd : valOf _ 5 a = .bool true := hJ.valOf (by decide) (dep_of hdep 5 (by kernel_rfl)) rfl rfl
        refine Step.call _ rfl rfl (wanted_some (g := 5) (b := true) rfl gd) 14 #[.string { data := #[97, 98, 99, 100] }] (fun ρ hρ => ?_) ?_
        · skip
          have ec0 : ρ (.const (.string { data := #[97, 98, 99, 100] })) = (.string { data := #[97, 98, 99, 100] }) := (hρ _).symm
          have ef : ρ (.func 14) = .func (.func 14) #[] #[] := (hρ _).symm
          clear hJ hsame hdep hcl hρ hsz gd
          go_simp
        · refine (text8_any w' (SP.out.keptS hJ.kept (by simp))).mono ?_
          rintro e w2 ⟨v, rfl, hg, bb⟩
          exact ⟨v, rfl, hJ.grid hRS hcl hL rfl bb v hg⟩
      · intro L a w' hL hsame hsz hJ hdep hcl
        have gd : valOf _ 5 a = .bool true := hJ.valOf (by decide) (dep_of hdep 5 (by kernel_rfl)) rfl rfl
        have e0 : a.eval (.tmp 1) = (.pointer (some ⟨gP, 0, none⟩)) := eval_base hsame (by kernel_rfl)
        have hb := hJ.keptBox BP.out (by simp)
        have q0 : w'.cell? ⟨gP, 0, none⟩ = some (.int .i64 (-1)) := hb.cell 0
        have q1 : w'.cell? ⟨gP, 1, none⟩ = some (.int .i64 (-1)) := hb.cell 1
        have q2 : w'.cell? ⟨gP, 2, none⟩ = some (.int .i64 0) := hb.cell 2
        refine Step.val _ rfl rfl (wanted_some (g := 5) (b := true) rfl gd) (.agg #[.int .i64 (-1), .int .i64 (-1), .int .i64 0]) w' (fun ρ hρ => ?_) (hJ.val hRS hcl hL rfl (Below.refl _ _) _ rfl)
        rw [hρ] at e0
        clear hb
        clear hJ hsame hdep hcl hρ hsz gd
        go_simp
      · intro L a w' hL hsame hsz hJ hdep hcl
        have gd : valOf _ 5 a = .bool true := hJ.valOf (by decide) (dep_of hdep 5 (by kernel_rfl)) rfl rfl
        obtain ⟨v6, hv6, hG6⟩ := hJ.gridAt (j := 6) (by decide) (dep_of hdep 6 (by kernel_rfl)) rfl
        have hG6 : IsG w' (PG.abcd 4) v6 := hG6
        have e0 : a.eval (.tmp 28) = v6 := eval_slot (j := 6) (by kernel_rfl) hv6
        have e4 : a.eval (.tmp 29) = (.agg #[.int .i64 (-1), .int .i64 (-1), .int .i64 0]) := eval_slot (j := 7) (by kernel_rfl) (hJ.valOf (by decide) (dep_of hdep 7 (by kernel_rfl)) rfl rfl)
        refine Step.call _ rfl rfl (wanted_some (g := 5) (b := true) rfl gd) 15 #[v6, .int .i64 0, .int .i64 1, .int .i64 2, .agg #[.int .i64 (-1), .int .i64 (-1), .int .i64 0]] (fun ρ hρ => ?_) ?_
        · skip
          rw [hρ] at e0 e4
          have ec0 : ρ (.const (.int .i64 0)) = (.int .i64 0) := (hρ _).symm
          have ec1 : ρ (.const (.int .i64 1)) = (.int .i64 1) := (hρ _).symm
          have ec2 : ρ (.const (.int .i64 2)) = (.int .i64 2) := (hρ _).symm
          have ef : ρ (.func 15) = .func (.func 15) #[] #[] := (hρ _).symm
          clear hJ hsame hdep hcl hρ hsz gd
          go_simp
        · refine (u_delete HA.out hG6 0 1 2 PG.plain PG.plain_ok (by omega) (by omega) (by omega)).mono ?_
          rintro e w2 ⟨v, rfl, hg, bb⟩
          exact ⟨v, rfl, hJ.grid hRS hcl hL rfl bb v hg⟩
      · intro L a w' hL hsame hsz hJ hdep hcl
        have gd : valOf _ 5 a = .bool true := hJ.valOf (by decide) (dep_of hdep 5 (by kernel_rfl)) rfl rfl
        obtain ⟨v8, hv8, hG8⟩ := hJ.gridAt (j := 8) (by decide) (dep_of hdep 8 (by kernel_rfl)) rfl
        have hG8 : IsG w' (PG.shiftI (PG.abcd 4) 0 1 (-2) PG.plain) v8 := hG8
        have e0 : a.eval (.tmp 30) = v8 := eval_slot (j := 8) (by kernel_rfl) hv8
        refine Step.call _ rfl rfl (wanted_some (g := 5) (b := true) rfl gd) 12 #[v8, .int .i64 0] (fun ρ hρ => ?_) ?_
        · skip
          rw [hρ] at e0
          have ec0 : ρ (.const (.int .i64 0)) = (.int .i64 0) := (hρ _).symm
          have ef : ρ (.func 12) = .func (.func 12) #[] #[] := (hρ _).symm
          clear hJ hsame hdep hcl hρ hsz gd
          go_simp
        · refine (TXD.out w' _ hG8).mono ?_
          rintro e w2 ⟨rfl, bb⟩
          exact ⟨_, rfl, hJ.val hRS hcl hL rfl bb _ rfl⟩
      · intro L a w' hL hsame hsz hJ hdep hcl
        have gd : valOf _ 5 a = .bool true := hJ.valOf (by decide) (dep_of hdep 5 (by kernel_rfl)) rfl rfl
        have e0 : a.eval (.tmp 31) = (.string { data := #[97, 100, 32, 32] }) := eval_slot (j := 9) (by kernel_rfl) (hJ.valOf (by decide) (dep_of hdep 9 (by kernel_rfl)) rfl rfl)
        refine Step.val _ rfl rfl (wanted_some (g := 5) (b := true) rfl gd) (.bool true) w' (fun ρ hρ => ?_) (hJ.val hRS hcl hL rfl (Below.refl _ _) _ rfl)
        rw [hρ] at e0
        have ec0 : ρ (.const (.string { data := #[97, 100, 32, 32] })) = (.string { data := #[97, 100, 32, 32] }) := (hρ _).symm
        clear hJ hsame hdep hcl hρ hsz gd
        go_simp
      · intro L a w' hL hsame hsz hJ hdep hcl
        have e0 : a.eval (.tmp 27) = (.bool true) := eval_slot (j := 5) (by kernel_rfl) (hJ.valOf (by decide) (dep_of hdep 5 (by kernel_rfl)) rfl rfl)
        have e1 : a.eval (.tmp 32) = (.bool true) := eval_slot (j := 10) (by kernel_rfl) (hJ.valOf (by decide) (dep_of hdep 10 (by kernel_rfl)) rfl rfl)
        refine Step.val _ rfl rfl (wanted_none rfl) (.bool true) w' (fun ρ hρ => ?_) (hJ.val hRS hcl hL rfl (Below.refl _ _) _ rfl)
        rw [hρ] at e0 e1
        have ec0 : ρ (.const (.bool false)) = (.bool false) := (hρ _).symm
        clear hJ hsame hdep hcl hρ hsz
        go_simp
      · intro L a w' hL hsame hsz hJ hdep hcl
        have e0 : a.eval (.tmp 33) = (.bool true) := eval_slot (j := 11) (by kernel_rfl) (hJ.valOf (by decide) (dep_of hdep 11 (by kernel_rfl)) rfl rfl)
        refine Step.val _ rfl rfl (wanted_none rfl) (.bool true) w' (fun ρ hρ => ?_) (hJ.val hRS hcl hL rfl (Below.refl _ _) _ rfl)
        rw [hρ] at e0
        clear hJ hsame hdep hcl hρ hsz
        go_simp
      · intro L a w' hL hsame hsz hJ hdep hcl
        have gd : valOf _ 12 a = .bool true := hJ.valOf (by decide) (dep_of hdep 12 (by kernel_rfl)) rfl rfl
        have e0 : a.eval (.tmp 4) = (.pointer (some ⟨gU, 0, none⟩)) := eval_base hsame (by kernel_rfl)
        have hb := hJ.keptBox BU.out (by simp)
        have q0 : w'.cell? ⟨gU, 0, none⟩ = some (.int .i64 3) := hb.cell 0
        have q1 : w'.cell? ⟨gU, 1, none⟩ = some (.int .i64 1) := hb.cell 1
        have q2 : w'.cell? ⟨gU, 2, none⟩ = some (.slice AU 3 cU) := hb.cell 2
        refine Step.val _ rfl rfl (wanted_some (g := 12) (b := true) rfl gd) (.agg #[.int .i64 3, .int .i64 1, .slice AU 3 cU]) w' (fun ρ hρ => ?_) (hJ.val hRS hcl hL rfl (Below.refl _ _) _ rfl)
        rw [hρ] at e0
        clear hb
        clear hJ hsame hdep hcl hρ hsz gd
        go_simp
      · intro L a w' hL hsame hsz hJ hdep hcl
        have gd : valOf _ 12 a = .bool true := hJ.valOf (by decide) (dep_of hdep 12 (by kernel_rfl)) rfl rfl
        have e0 : a.eval (.tmp 35) = (.agg #[.int .i64 3, .int .i64 1, .slice AU 3 cU]) := eval_slot (j := 13) (by kernel_rfl) (hJ.valOf (by decide) (dep_of hdep 13 (by kernel_rfl)) rfl rfl)
        refine Step.call _ rfl rfl (wanted_some (g := 12) (b := true) rfl gd) 12 #[.agg #[.int .i64 3, .int .i64 1, .slice AU 3 cU], .int .i64 0] (fun ρ hρ => ?_) ?_
        · skip
          rw [hρ] at e0
          have ec0 : ρ (.const (.int .i64 0)) = (.int .i64 0) := (hρ _).symm
          have ef : ρ (.func 12) = .func (.func 12) #[] #[] := (hρ _).symm
          clear hJ hsame hdep hcl hρ hsz gd
          go_simp
        · refine (TX0.out w' _ (IU.out.low (hJ.kept.toBelow (Nat.le_refl _) (by simp)))).mono ?_
          rintro e w2 ⟨rfl, bb⟩
          exact ⟨_, rfl, hJ.val hRS hcl hL rfl bb _ rfl⟩
      · intro L a w' hL hsame hsz hJ hdep hcl
        have gd : valOf _ 12 a = .bool true := hJ.valOf (by decide) (dep_of hdep 12 (by kernel_rfl)) rfl rfl
        have e0 : a.eval (.tmp 36) = (.string { data := #[98] }) := eval_slot (j := 14) (by kernel_rfl) (hJ.valOf (by decide) (dep_of hdep 14 (by kernel_rfl)) rfl rfl)
        refine Step.val _ rfl rfl (wanted_some (g := 12) (b := true) rfl gd) (.bool true) w' (fun ρ hρ => ?_) (hJ.val hRS hcl hL rfl (Below.refl _ _) _ rfl)
        rw [hρ] at e0
        have ec0 : ρ (.const (.string { data := #[98] })) = (.string { data := #[98] }) := (hρ _).symm
        clear hJ hsame hdep hcl hρ hsz gd
        go_simp
      · intro L a w' hL hsame hsz hJ hdep hcl
        have e0 : a.eval (.tmp 34) = (.bool true) := eval_slot (j := 12) (by kernel_rfl) (hJ.valOf (by decide) (dep_of hdep 12 (by kernel_rfl)) rfl rfl)
        have e1 : a.eval (.tmp 37) = (.bool true) := eval_slot (j := 15) (by kernel_rfl) (hJ.valOf (by decide) (dep_of hdep 15 (by kernel_rfl)) rfl rfl)
        refine Step.val _ rfl rfl (wanted_none rfl) (.bool true) w' (fun ρ hρ => ?_) (hJ.val hRS hcl hL rfl (Below.refl _ _) _ rfl)
        rw [hρ] at e0 e1
        have ec0 : ρ (.const (.bool false)) = (.bool false) := (hρ _).symm
        clear hJ hsame hdep hcl hρ hsz
        go_simp
      · intro L a w' hL hsame hsz hJ hdep hcl
        have e0 : a.eval (.tmp 38) = (.bool true) := eval_slot (j := 16) (by kernel_rfl) (hJ.valOf (by decide) (dep_of hdep 16 (by kernel_rfl)) rfl rfl)
        refine Step.val _ rfl rfl (wanted_none rfl) (.bool true) w' (fun ρ hρ => ?_) (hJ.val hRS hcl hL rfl (Below.refl _ _) _ rfl)
        rw [hρ] at e0
        clear hJ hsame hdep hcl hρ hsz
        go_simp
      · intro L a w' hL hsame hsz hJ hdep hcl
        have gd : valOf _ 17 a = .bool true := hJ.valOf (by decide) (dep_of hdep 17 (by kernel_rfl)) rfl rfl
        have e0 : a.eval (.tmp 4) = (.pointer (some ⟨gU, 0, none⟩)) := eval_base hsame (by kernel_rfl)
        have hb := hJ.keptBox BU.out (by simp)
        have q0 : w'.cell? ⟨gU, 0, none⟩ = some (.int .i64 3) := hb.cell 0
        have q1 : w'.cell? ⟨gU, 1, none⟩ = some (.int .i64 1) := hb.cell 1
        have q2 : w'.cell? ⟨gU, 2, none⟩ = some (.slice AU 3 cU) := hb.cell 2
        refine Step.val _ rfl rfl (wanted_some (g := 17) (b := true) rfl gd) (.agg #[.int .i64 3, .int .i64 1, .slice AU 3 cU]) w' (fun ρ hρ => ?_) (hJ.val hRS hcl hL rfl (Below.refl _ _) _ rfl)
        rw [hρ] at e0
        clear hb
        clear hJ hsame hdep hcl hρ hsz gd
        go_simp
      · intro L a w' hL hsame hsz hJ hdep hcl
        have gd : valOf _ 17 a = .bool true := hJ.valOf (by decide) (dep_of hdep 17 (by kernel_rfl)) rfl rfl
        have e0 : a.eval (.tmp 40) = (.agg #[.int .i64 3, .int .i64 1, .slice AU 3 cU]) := eval_slot (j := 18) (by kernel_rfl) (hJ.valOf (by decide) (dep_of hdep 18 (by kernel_rfl)) rfl rfl)
        refine Step.call _ rfl rfl (wanted_some (g := 17) (b := true) rfl gd) 12 #[.agg #[.int .i64 3, .int .i64 1, .slice AU 3 cU], .int .i64 1] (fun ρ hρ => ?_) ?_
        · skip
          rw [hρ] at e0
          have ec0 : ρ (.const (.int .i64 1)) = (.int .i64 1) := (hρ _).symm
          have ef : ρ (.func 12) = .func (.func 12) #[] #[] := (hρ _).symm
          clear hJ hsame hdep hcl hρ hsz gd
          go_simp
        · refine (TX1.out w' _ (IU.out.low (hJ.kept.toBelow (Nat.le_refl _) (by simp)))).mono ?_
          rintro e w2 ⟨rfl, bb⟩
          exact ⟨_, rfl, hJ.val hRS hcl hL rfl bb _ rfl⟩
      · intro L a w' hL hsame hsz hJ hdep hcl
        have gd : valOf _ 17 a = .bool true := hJ.valOf (by decide) (dep_of hdep 17 (by kernel_rfl)) rfl rfl
        have e0 : a.eval (.tmp 41) = (.string { data := #[99] }) := eval_slot (j := 19) (by kernel_rfl) (hJ.valOf (by decide) (dep_of hdep 19 (by kernel_rfl)) rfl rfl)
        refine Step.val _ rfl rfl (wanted_some (g := 17) (b := true) rfl gd) (.bool true) w' (fun ρ hρ => ?_) (hJ.val hRS hcl hL rfl (Below.refl _ _) _ rfl)
        rw [hρ] at e0
        have ec0 : ρ (.const (.string { data := #[99] })) = (.string { data := #[99] }) := (hρ _).symm
        clear hJ hsame hdep hcl hρ hsz gd
        go_simp
      · intro L a w' hL hsame hsz hJ hdep hcl
        have e0 : a.eval (.tmp 39) = (.bool true) := eval_slot (j := 17) (by kernel_rfl) (hJ.valOf (by decide) (dep_of hdep 17 (by kernel_rfl)) rfl rfl)
        have e1 : a.eval (.tmp 42) = (.bool true) := eval_slot (j := 20) (by kernel_rfl) (hJ.valOf (by decide) (dep_of hdep 20 (by kernel_rfl)) rfl rfl)
        refine Step.val _ rfl rfl (wanted_none rfl) (.bool true) w' (fun ρ hρ => ?_) (hJ.val hRS hcl hL rfl (Below.refl _ _) _ rfl)
        rw [hρ] at e0 e1
        have ec0 : ρ (.const (.bool false)) = (.bool false) := (hρ _).symm
        clear hJ hsame hdep hcl hρ hsz
        go_simp
      · intro L a w' hL hsame hsz hJ hdep hcl
        have e0 : a.eval (.tmp 43) = (.bool true) := eval_slot (j := 21) (by kernel_rfl) (hJ.valOf (by decide) (dep_of hdep 21 (by kernel_rfl)) rfl rfl)
        refine Step.val _ rfl rfl (wanted_none rfl) (.bool true) w' (fun ρ hρ => ?_) (hJ.val hRS hcl hL rfl (Below.refl _ _) _ rfl)
        rw [hρ] at e0
        clear hJ hsame hdep hcl hρ hsz
        go_simp
      · intro L a w' hL hsame hsz hJ hdep hcl
        have gd : valOf _ 22 a = .bool true := hJ.valOf (by decide) (dep_of hdep 22 (by kernel_rfl)) rfl rfl
        have e0 : a.eval (.tmp 4) = (.pointer (some ⟨gU, 0, none⟩)) := eval_base hsame (by kernel_rfl)
        have hb := hJ.keptBox BU.out (by simp)
        have q0 : w'.cell? ⟨gU, 0, none⟩ = some (.int .i64 3) := hb.cell 0
        have q1 : w'.cell? ⟨gU, 1, none⟩ = some (.int .i64 1) := hb.cell 1
        have q2 : w'.cell? ⟨gU, 2, none⟩ = some (.slice AU 3 cU) := hb.cell 2
        refine Step.val _ rfl rfl (wanted_some (g := 22) (b := true) rfl gd) (.agg #[.int .i64 3, .int .i64 1, .slice AU 3 cU]) w' (fun ρ hρ => ?_) (hJ.val hRS hcl hL rfl (Below.refl _ _) _ rfl)
        rw [hρ] at e0
        clear hb
        clear hJ hsame hdep hcl hρ hsz gd
        go_simp
      · intro L a w' hL hsame hsz hJ hdep hcl
        have gd : valOf _ 22 a = .bool true := hJ.valOf (by decide) (dep_of hdep 22 (by kernel_rfl)) rfl rfl
        have e0 : a.eval (.tmp 45) = (.agg #[.int .i64 3, .int .i64 1, .slice AU 3 cU]) := eval_slot (j := 23) (by kernel_rfl) (hJ.valOf (by decide) (dep_of hdep 23 (by kernel_rfl)) rfl rfl)
        refine Step.call _ rfl rfl (wanted_some (g := 22) (b := true) rfl gd) 12 #[.agg #[.int .i64 3, .int .i64 1, .slice AU 3 cU], .int .i64 2] (fun ρ hρ => ?_) ?_
        · skip
          rw [hρ] at e0
          have ec0 : ρ (.const (.int .i64 2)) = (.int .i64 2) := (hρ _).symm
          have ef : ρ (.func 12) = .func (.func 12) #[] #[] := (hρ _).symm
          clear hJ hsame hdep hcl hρ hsz gd
          go_simp
        · refine (TX2.out w' _ (IU.out.low (hJ.kept.toBelow (Nat.le_refl _) (by simp)))).mono ?_
          rintro e w2 ⟨rfl, bb⟩
          exact ⟨_, rfl, hJ.val hRS hcl hL rfl bb _ rfl⟩
      · intro L a w' hL hsame hsz hJ hdep hcl
        have gd : valOf _ 22 a = .bool true := hJ.valOf (by decide) (dep_of hdep 22 (by kernel_rfl)) rfl rfl
        have e0 : a.eval (.tmp 46) = (.string { data := #[32] }) := eval_slot (j := 24) (by kernel_rfl) (hJ.valOf (by decide) (dep_of hdep 24 (by kernel_rfl)) rfl rfl)
        refine Step.val _ rfl rfl (wanted_some (g := 22) (b := true) rfl gd) (.bool true) w' (fun ρ hρ => ?_) (hJ.val hRS hcl hL rfl (Below.refl _ _) _ rfl)
        rw [hρ] at e0
        have ec0 : ρ (.const (.string { data := #[32] })) = (.string { data := #[32] }) := (hρ _).symm
        clear hJ hsame hdep hcl hρ hsz gd
        go_simp
      · intro L a w' hL hsame hsz hJ hdep hcl
        have e0 : a.eval (.tmp 44) = (.bool true) := eval_slot (j := 22) (by kernel_rfl) (hJ.valOf (by decide) (dep_of hdep 22 (by kernel_rfl)) rfl rfl)
        have e1 : a.eval (.tmp 47) = (.bool true) := eval_slot (j := 25) (by kernel_rfl) (hJ.valOf (by decide) (dep_of hdep 25 (by kernel_rfl)) rfl rfl)
        refine Step.val _ rfl rfl (wanted_none rfl) (.bool true) w' (fun ρ hρ => ?_) (hJ.val hRS hcl hL rfl (Below.refl _ _) _ rfl)
        rw [hρ] at e0 e1
        have ec0 : ρ (.const (.bool false)) = (.bool false) := (hρ _).symm
        clear hJ hsame hdep hcl hρ hsz
        go_simp
      · intro L a w' hL hsame hsz hJ hdep hcl
        have e0 : a.eval (.tmp 48) = (.bool true) := eval_slot (j := 26) (by kernel_rfl) (hJ.valOf (by decide) (dep_of hdep 26 (by kernel_rfl)) rfl rfl)
        refine Step.val _ rfl rfl (wanted_none rfl) (.bool true) w' (fun ρ hρ => ?_) (hJ.val hRS hcl hL rfl (Below.refl _ _) _ rfl)
        rw [hρ] at e0
        clear hJ hsame hdep hcl hρ hsz
        go_simp
      · intro L a w' hsame hsz hJ hall
        obtain ⟨u, hu, ha⟩ := act_puts hsame
        have h : (u 27 = .bool true) ∧ Below wc.heap.size wc w' := by
          (try simp only [hu])
          exact (And.intro (hJ.valOf (j := 27) (by decide) (hall 27 (by decide)) rfl rfl) (hJ.kept.toBelow (Nat.le_refl _) (by simp)))
        have h := hide h
        clear hJ hall hsz hu hsame
        subst ha
        change Exit.then _ _ Exit.normal (Act.put (Act.put (Act.put (Act.put (Act.put (Act.put (Act.put (Act.put (Act.put (Act.put (Act.put (Act.put (Act.put (Act.put (Act.put (Act.put (Act.put (Act.put (Act.put (Act.put (Act.put (Act.put (Act.put (Act.put (Act.put (Act.put (Act.put (Act.put (putAll _ u 0 _) (some 22) (u 0)) (some 23) (u 1)) (some 24) (u 2)) (some 25) (u 3)) (some 26) (u 4)) (some 27) (u 5)) (some 28) (u 6)) (some 29) (u 7)) (some 30) (u 8)) (some 31) (u 9)) (some 32) (u 10)) (some 33) (u 11)) (some 34) (u 12)) (some 35) (u 13)) (some 36) (u 14)) (some 37) (u 15)) (some 38) (u 16)) (some 39) (u 17)) (some 40) (u 18)) (some 41) (u 19)) (some 42) (u 20)) (some 43) (u 21)) (some 44) (u 22)) (some 45) (u 23)) (some 46) (u 24)) (some 47) (u 25)) (some 48) (u 26)) (some 0) (u 27)) _
        simp only [putAll]
        generalize u 0 = v0
        generalize u 1 = v1
        generalize u 2 = v2
        generalize u 3 = v3
        generalize u 4 = v4
        generalize u 5 = v5
        generalize u 6 = v6
        generalize u 7 = v7
        generalize u 8 = v8
        generalize u 9 = v9
        generalize u 10 = v10
        generalize u 11 = v11
        generalize u 12 = v12
        generalize u 13 = v13
        generalize u 14 = v14
        generalize u 15 = v15
        generalize u 16 = v16
        generalize u 17 = v17
        generalize u 18 = v18
        generalize u 19 = v19
        generalize u 20 = v20
        generalize u 21 = v21
        generalize u 22 = v22
        generalize u 23 = v23
        generalize u 24 = v24
        generalize u 25 = v25
        generalize u 26 = v26
        generalize u 27 = v27 at h ⊢
        go_simp
        go_step
        go_meet
        exact h.out
  case rest =>
  obtain ⟨rfl, bc⟩ := hcut
  have BB := hide (BB.out.trans (bc.mono BB.out.size))
  have SP := hide (SP.out.keep bc)
  have BP := hide (BP.out.below bc BP.out.lt)
  have BT := hide (BT.out.below bc BT.out.lt)
  have IT := hide (IT.out.low bc)
  have BU := hide (BU.out.below bc BU.out.lt)
  have IU := hide (IU.out.low bc)
  go_wp2_with fail
  go_ret
  exact ⟨rfl, BB.out⟩
end Go.Proofs.YtcbmjdacdjcggaaDoor
