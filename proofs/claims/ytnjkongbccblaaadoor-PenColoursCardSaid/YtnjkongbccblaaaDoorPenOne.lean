/- The contracts of the landed pen's applyOne, and of told in one. (The regions are written by tools/genpenone.py.) -/
import Derived.Test.YtnjkongbccblaaaDoorRefApply10
import Derived.Test.YtnjkongbccblaaaDoorPenTold
import Derived.Deep.DeepCutAuto
set_option maxRecDepth 100000
namespace Go.Proofs.YtnjkongbccblaaaDoor
open Go.RowKit
set_option linter.unusedVariables false
theorem told_is (c : Int) (A : Option Addr) (n cp B : Nat) (l : List Int) (w : World) (z : Int) (hz : (PS.wide l).1.getD c = z) (hA : Seen w B A n (j64s l)) (hn : n ≤ 1048576) (hnc : n ≤ cp) (hl : ∀ x ∈ l, -1 ≤ x ∧ x ≤ 9223372036854775807) :
    Calls Tryd.prog 20 #[.int .i64 c, .slice A n cp] w (ToldP z A n cp B l w) := by
  have hlen : l.length = n := by have := hA.1; simpa [j64s] using this
  by_cases h2 : n < 2
  · rw [wide_short (by omega)] at hz
    have hz' : c = z := hz
    subst hz'
    exact told_short c A n cp B l w hA h2 hlen
  have cellAt : ∀ k, k < n → ∃ ad x, A = some ad ∧ l[k]? = some x ∧ w.cell? (ad.add k) = some (.int .i64 x) ∧ -1 ≤ x ∧ x ≤ 9223372036854775807 := by
    intro k hk
    obtain ⟨ad, u, h1, _, h3, h4⟩ := hA.at_ hk
    unfold j64s at h3
    rw [List.getElem?_map] at h3
    obtain ⟨x, hx, rfl⟩ := Option.map_eq_some_iff.1 h3
    obtain ⟨y0, y1⟩ := hl x (List.mem_of_getElem? hx)
    exact ⟨ad, x, h1, hx, h4, y0, y1⟩
  obtain ⟨ad, x0, rfl, hx0, c0, _, _⟩ := cellAt 0 (by omega)
  have c0' : w.cell? ad = some (.int .i64 x0) := c0
  have cellIn : ∀ k, k < n → k ≠ 0 → ∃ x, l[k]? = some x ∧ w.cell? ⟨ad.block, ad.off + k, none⟩ = some (.int .i64 x) ∧ -1 ≤ x ∧ x ≤ 9223372036854775807 := by
    intro k hk h0
    obtain ⟨ad', x, h1, hx, h4, y0, y1⟩ := cellAt k hk
    cases h1
    rw [add_two ad h0] at h4
    exact ⟨x, hx, h4, y0, y1⟩
  obtain ⟨x1, hx1, c1, a1, b1⟩ := cellIn 1 (by omega) (by decide)
  by_cases h5 : x0 = 5
  · subst h5
    have ha := argAt_of hx1
    have hw : PS.wide l = (if PS.pos x1 ≤ 255 then some ((PS.pos x1 : Nat) : Int) else none, 2) := by
      by_cases hb : PS.pos x1 ≤ 255
      · rw [if_pos hb]
        exact wide_small5 (by omega) hx0 ha (by omega)
      · rw [if_neg hb]
        exact wide_big5 (by omega) hx0 ha (by omega)
    rw [hw] at hz
    refine told_five c ad n cp B _ l x1 w z hA (by omega) hn hnc (by rw [hw]) c0' c1 a1 rfl b1 ?_
    rw [← hz]
    by_cases hb : PS.pos x1 ≤ 255
    · rw [if_pos hb, if_pos hb]
      rfl
    · rw [if_neg hb, if_neg hb]
      rfl
  by_cases h4 : 4 ≤ n ∧ x0 = 2
  · obtain ⟨h4, rfl⟩ := h4
    obtain ⟨x2, hx2, c2, a2, b2⟩ := cellIn 2 (by omega) (by decide)
    obtain ⟨x3, hx3, c3, a3, b3⟩ := cellIn 3 (by omega) (by decide)
    have hw := wide_two (by omega) hx0 (argAt_of hx1) (argAt_of hx2) (argAt_of hx3)
    have hw2 : (PS.wide l).2 = 4 := by rw [hw]
    rw [hw] at hz
    by_cases k1 : PS.pos x1 ≤ 255
    · by_cases k2 : PS.pos x2 ≤ 255
      · by_cases k3 : PS.pos x3 ≤ 255
        · rw [if_pos (by omega)] at hz
          have hz' : 16777216 + ((PS.pos x1 : Nat) : Int) * 65536 + ((PS.pos x2 : Nat) : Int) * 256 + ((PS.pos x3 : Nat) : Int) = z := hz
          subst hz'
          exact told_twod c ad n cp B _ _ _ l x1 x2 x3 w hA h4 hn hnc hw2 c0' c1 c2 c3 a1 rfl b1 a2 rfl b2 a3 rfl b3 k1 k2 k3
        · rw [if_neg (by omega)] at hz
          have hz' : c = z := hz
          subst hz'
          exact told_twoc c ad n cp B _ _ _ l x1 x2 x3 w hA h4 hn hnc hw2 c0' c1 c2 c3 a1 rfl b1 a2 rfl b2 a3 rfl b3 k1 k2 k3
      · rw [if_neg (by omega)] at hz
        have hz' : c = z := hz
        subst hz'
        exact told_twob c ad n cp B _ _ _ l x1 x2 x3 w hA h4 hn hnc hw2 c0' c1 c2 c3 a1 rfl b1 a2 rfl b2 a3 rfl b3 k1 k2
    · rw [if_neg (by omega)] at hz
      have hz' : c = z := hz
      subst hz'
      exact told_twoa c ad n cp B _ _ _ l x1 x2 x3 w hA h4 hn hnc hw2 c0' c1 c2 c3 a1 rfl b1 a2 rfl b2 a3 rfl b3 k1
  · have hw := wide_other (by omega) hx0 h5 (by omega)
    rw [hw] at hz
    have hz' : c = z := hz
    subst hz'
    refine told_other c ad n cp B l x0 w (by omega) (by rw [hw]) c0' (by simpa using h5) ?_
    by_cases h : n ≤ 3
    · exact .inl h
    · exact .inr ⟨by omega, by simp; omega⟩
theorem pplain10 (w : World) : Calls Tryd.prog 18 #[] w fun e w' => e = .returned (.agg #[.int .i64 (-1), .int .i64 (-1), .int .i64 0]) ∧ Below w.heap.size w w' := by
  go_enter Tryd.func18, Tryd.ntmps18
  go_wp2
  exact bodyPost_ret (v := .agg #[.int .i64 (-1), .int .i64 (-1), .int .i64 0]) (by simp [results, Tryd.results18, go_sem]) rfl ⟨rfl, (Below.refl _ _).alloc (Nat.le_refl _) _⟩
theorem pl_0 (p : PS.Pn) : PS.one p 0 = ⟨-1, -1, 0⟩ := rfl
theorem pl_flag (p : PS.Pn) {n : Nat} (h0 : n ≠ 0) (h : n ≤ 9) : PS.one p n = ⟨p.fo, p.ba, p.fl ||| PS.flagOf n⟩ := by
  unfold PS.one
  rw [if_neg h0, if_pos h]
theorem pl_away (p : PS.Pn) {n : Nat} (h0 : 22 ≤ n) (h : n ≤ 29) : PS.one p n = ⟨p.fo, p.ba, p.fl &&& (255 - tak n)⟩ := by
  unfold PS.one tak
  rw [if_neg (by omega), if_neg (by omega)]
  by_cases e : n = 22
  · rw [if_pos e, if_pos e]
  · rw [if_neg e, if_neg e, if_pos (by omega)]
theorem pl_colour (p : PS.Pn) {n : Nat} (h : (10 ≤ n ∧ n ≤ 21) ∨ 30 ≤ n) : PS.one p n = ⟨colI p.fo n 30, colI p.ba n 40, p.fl⟩ := by
  unfold PS.one colI
  rw [if_neg (by omega), if_neg (by omega), if_neg (by omega), if_neg (by omega)]
  repeat' split
  all_goals first | (exfalso; omega) | rfl | (congr 1 <;> omega)
set_option maxHeartbeats 4000000 in
theorem applyOne_plain (p : PS.Pn) (w : World) : Calls Tryd.prog 21 #[penV p, .int .i64 0] w fun e w' => e = .returned (penV (PS.one p 0)) ∧ Below w.heap.size w w' := by
  rw [pl_0]
  obtain ⟨fo, ba, fl⟩ := p
  simp only [penV]
  go_enter Tryd.func21, Tryd.ntmps21
  go_wp2_with fail
  refine (pplain10 _).mono ?_
  rintro e w1 ⟨rfl, bb⟩
  have bx := ((Box.new (w.alloc (.cells #[.int .i64 fo, .int .i64 ba, .int .i64 (fl : Nat)] 23)) 23 #[.int .i64 0, .int .i64 0, .int .i64 0]).below bb (by simp))
  have b0 : Below w.heap.size w w1 := (((Below.refl _ w).alloc (Nat.le_refl _) (.cells #[.int .i64 fo, .int .i64 ba, .int .i64 (fl : Nat)] 23)).alloc (by simp) (.cells #[.int .i64 0, .int .i64 0, .int .i64 0] 23)).trans (bb.mono (by simp; omega))
  rw [World.size_alloc] at bx
  obtain ⟨k0, k1, k2, k3, k4, k5⟩ := bx.three
  clear bb
  go_wp2_with fail
  refine bodyPost_ret (v := .agg #[.int .i64 (-1), .int .i64 (-1), .int .i64 0]) (by simp [results, Tryd.results21, go_sem, k0, k1, k2]) rfl ⟨rfl, ?_⟩
  repeat (first | exact b0 | refine Below.setCell ?_ (by first | omega | (simp; done) | (simp; omega)) _)
set_option maxHeartbeats 4000000 in
theorem applyOne_flag (fo ba : Int) (fl n : Nat) (w : World) (hp : fl < 256) (h0 : n ≠ 0) (h9 : n ≤ 9) (hF : FlagT w) : Calls Tryd.prog 21 #[.agg #[.int .i64 fo, .int .i64 ba, .int .i64 (fl : Nat)], .int .i64 (n : Nat)] w fun e w' => e = .returned (.agg #[.int .i64 fo, .int .i64 ba, .int .i64 ((fl ||| PS.flagOf n : Nat) : Int)]) ∧ Below w.heap.size w w' := by
  have hfl := PS.flag_lt n
  have hq : ((n : Int) == 0) = false := by simp; omega
  have BX0 := ((Box.new w 23 #[.int .i64 fo, .int .i64 ba, .int .i64 (fl : Nat)]).alloc (.cells #[.int .i64 0, .int .i64 0, .int .i64 0] 23))
  have BZ0 := by have h := Box.new (w.alloc (.cells #[.int .i64 fo, .int .i64 ba, .int .i64 (fl : Nat)] 23)) 23 #[.int .i64 0, .int .i64 0, .int .i64 0]; rw [World.size_alloc] at h; exact h
  have B0 := (((Below.refl _ w).alloc (Nat.le_refl _) (.cells #[.int .i64 fo, .int .i64 ba, .int .i64 (fl : Nat)] 23)).alloc (by simp) (.cells #[.int .i64 0, .int .i64 0, .int .i64 0] 23))
  have hT0 := flags_at (hF.keep B0) n (by omega)
  have hTN := hide hF.lt
  have W : Hid (∀ (fv : Nat), fv < 256 → ∀ g w', Box w' g 3 #[.int .i64 (fv : Nat)] → Calls Tryd.prog 26 #[.agg #[.int .i64 fo, .int .i64 ba, .int .i64 (fl : Nat)], .slice (some ⟨g, 0, none⟩) 1 1] w' fun e w2 => e = .returned (.agg #[.int .i64 fo, .int .i64 ba, .int .i64 ((fl ||| fv : Nat) : Int)]) ∧ Below w'.heap.size w' w2) := hide fun fv hfv g w' hb => by
    have h := with_any fo ba (fl : Nat) (some ⟨g, 0, none⟩) 1 1 [(fv : Int)] w' (Seen.of_box hb rfl rfl hb.lt) (by omega)
    have e : C.ors (fl : Nat) [(fv : Int)] = ((fl ||| fv : Nat) : Int) := i64_or_small hp hfv
    rw [e] at h
    exact h
  have W := hide (W.out _ hfl)
  generalize hv : PS.flagOf n = fv at hT0 hfl W ⊢
  have HT := hide hT0
  clear hv hT0
  have HP := hide BX0
  have HZ := hide BZ0
  have BW := hide B0
  have hwa : w.heap.size ≤ (((w.alloc (.cells #[.int .i64 fo, .int .i64 ba, .int .i64 (fl : Nat)] 23)).alloc (.cells #[.int .i64 0, .int .i64 0, .int .i64 0] 23))).heap.size := B0.size
  clear BX0 BZ0 B0
  go_enter Tryd.func21, Tryd.ntmps21
  go_upto_region 4 with fail
  generalize (w.alloc (.cells #[.int .i64 fo, .int .i64 ba, .int .i64 (fl : Nat)] 23)).alloc (.cells #[.int .i64 0, .int .i64 0, .int .i64 0] 23) = wa at HP HZ BW HT hwa ⊢
  have HN := hide hwa
  clear hwa
  go_cut [] from 9 to 21 (fun wx => Box wx (w.heap.size + 1) 23 #[.int .i64 fo, .int .i64 ba, .int .i64 ((fl ||| fv : Nat) : Int)] ∧ Below w.heap.size w wx)
  case first =>
    refine wp_region_gj (n := 47) [some (w.heap.size + 1)] (fun _ => #[.int .i64 0, .int .i64 0, .int .i64 0]) [(0, 0, 0, 0, 0), (0, 0, 0, 0, 0), (0, 0, 0, 0, 0), (0, 0, 0, 0, 0), (1, 0, 0, 0, 0), (0, 0, 0, 0, 0), (4, 0, 5, 23, 3)] (fun j => [(.agg #[.int .i64 fo, .int .i64 ba, .int .i64 (fl : Nat)]), (.int .i64 (n : Nat)), (.pointer (some ⟨0, n, none⟩)), (.int .i64 (fv : Nat)), undef, (.agg #[.int .i64 fo, .int .i64 ba, .int .i64 ((fl ||| fv : Nat) : Int)]), undef].getD j undef) [none, none, none, none, some (NewS 3 1 #[.int .i64 (fv : Nat)])] (fun _ => (w.heap.size + 1)) (by kernel_rfl) (by kernel_rfl) (by kernel_rfl) rfl (by kernel_rfl) (gonly4 (k := 6) rfl ⟨by simp, rfl, HZ.out⟩) (gonly44 (k := 6) rfl) (AllG.none_ (AllG.none_ (AllG.none_ (AllG.none_ (AllG.some_ (NewS.stays (by kernel_rfl)) (AllG.nil _)))))) (fun hGS => cases7 ⟨?_, ?_, ?_, ?_, ?_, ?_, ?_⟩) ?_
    · intro L a w' hL hsame hsz hJ hdep hcl
      have hb := hJ.kept.toBelow (B := w.heap.size) HN.out (fun k hk => by simp at hk; omega)
      have e0 : a.eval (.tmp 2) = (.pointer (some ⟨w.heap.size, 0, none⟩)) := eval_base hsame (by kernel_rfl)
      have hx := hJ.keptBox (HP.out) (by simp; try omega)
      have q0 : w'.cell? ⟨w.heap.size, 0, none⟩ = some (.int .i64 fo) := hx.cell 0
      have q1 : w'.cell? ⟨w.heap.size, 1, none⟩ = some (.int .i64 ba) := hx.cell 1
      have q2 : w'.cell? ⟨w.heap.size, 2, none⟩ = some (.int .i64 (fl : Nat)) := hx.cell 2
      refine Step.val _ rfl rfl (wanted_none rfl) (.agg #[.int .i64 fo, .int .i64 ba, .int .i64 (fl : Nat)]) w' (fun ρ hρ => ?_) (hJ.val hGS hcl hL rfl (Below.refl _ _) _ rfl)
      clear hx
      rw [hρ] at e0
      clear hJ hsame hdep hcl hρ hsz hb
      go_simp
    · intro L a w' hL hsame hsz hJ hdep hcl
      have hb := hJ.kept.toBelow (B := w.heap.size) HN.out (fun k hk => by simp at hk; omega)
      have e0 : a.eval (.tmp 1) = (.int .i64 (n : Nat)) := eval_base hsame (by kernel_rfl)
      refine Step.val _ rfl rfl (wanted_none rfl) (.int .i64 (n : Nat)) w' (fun ρ hρ => ?_) (hJ.val hGS hcl hL rfl (Below.refl _ _) _ rfl)
      rw [hρ] at e0
      clear hJ hsame hdep hcl hρ hsz hb
      go_simp
    · intro L a w' hL hsame hsz hJ hdep hcl
      have hb := hJ.kept.toBelow (B := w.heap.size) HN.out (fun k hk => by simp at hk; omega)
      have e0 : a.eval (.tmp 17) = (.int .i64 (n : Nat)) := eval_slot (j := 1) (by kernel_rfl) (hJ.valOf (by decide) (dep_of hdep 1 (by kernel_rfl)) rfl rfl)
      refine Step.val _ rfl rfl (wanted_none rfl) (.pointer (some ⟨0, n, none⟩)) w' (fun ρ hρ => ?_) (hJ.val hGS hcl hL rfl (Below.refl _ _) _ rfl)
      rw [hρ] at e0
      have eg : ρ (.global 0) = .pointer (some ⟨0, 0, none⟩) := (hρ _).symm
      clear hJ hsame hdep hcl hρ hsz hb
      go_simp
      try (intro h; omega)
      try omega
    · intro L a w' hL hsame hsz hJ hdep hcl
      have hb := hJ.kept.toBelow (B := w.heap.size) HN.out (fun k hk => by simp at hk; omega)
      have e0 : a.eval (.tmp 18) = (.pointer (some ⟨0, n, none⟩)) := eval_slot (j := 2) (by kernel_rfl) (hJ.valOf (by decide) (dep_of hdep 2 (by kernel_rfl)) rfl rfl)
      refine Step.val _ rfl rfl (wanted_none rfl) (.int .i64 (fv : Nat)) w' (fun ρ hρ => ?_) (hJ.val hGS hcl hL rfl (Below.refl _ _) _ rfl)
      rw [hρ] at e0
      have hc0 := (hb.cell (p := ⟨0, n, none⟩) hTN.out).trans HT.out
      clear hJ hsame hdep hcl hρ hsz hb
      go_simp
    · intro L a w' hL hsame hsz hJ hdep hcl
      have hb := hJ.kept.toBelow (B := w.heap.size) HN.out (fun k hk => by simp at hk; omega)
      have e0 : a.eval (.tmp 19) = (.int .i64 (fv : Nat)) := eval_slot (j := 3) (by kernel_rfl) (hJ.valOf (by decide) (dep_of hdep 3 (by kernel_rfl)) rfl rfl)
      refine Step.val _ rfl rfl (wanted_none rfl) (.slice (some ⟨w'.heap.size, 0, none⟩) 1 1) (w'.alloc (.cells #[.int .i64 (fv : Nat)] 3)) (fun ρ hρ => ?_) (hJ.pred hGS hcl hL rfl ((Below.refl _ _).alloc (Nat.le_refl _) _) _ (⟨_, rfl, Box.new w' _ _⟩))
      rw [hρ] at e0
      clear hJ hsame hdep hcl hρ hsz hb
      go_simp
    · intro L a w' hL hsame hsz hJ hdep hcl
      have hb := hJ.kept.toBelow (B := w.heap.size) HN.out (fun k hk => by simp at hk; omega)
      have e0 : a.eval (.tmp 16) = (.agg #[.int .i64 fo, .int .i64 ba, .int .i64 (fl : Nat)]) := eval_slot (j := 0) (by kernel_rfl) (hJ.valOf (by decide) (dep_of hdep 0 (by kernel_rfl)) rfl rfl)
      obtain ⟨g4, hv4, hs4⟩ := (show (NewS 3 1 #[.int .i64 (fv : Nat)]) (valOf _ 4 a) w' from hJ.predOf (by decide) (dep_of hdep 4 (by kernel_rfl)) rfl)
      have e1 : a.eval (.tmp 20) = .slice (some ⟨g4, 0, none⟩) 1 1 := eval_slot (j := 4) (by kernel_rfl) hv4
      refine Step.call _ rfl rfl (wanted_none rfl) 26 #[.agg #[.int .i64 fo, .int .i64 ba, .int .i64 (fl : Nat)], .slice (some ⟨g4, 0, none⟩) 1 1] (fun ρ hρ => ?_) ?_
      · skip
        rw [hρ] at e0 e1
        have ef : ρ (.func 26) = .func (.func 26) #[] #[] := (hρ _).symm
        clear hJ hsame hdep hcl hρ hsz hb
        go_simp
      · refine (W.out g4 _ hs4).mono ?_
        rintro e w2 ⟨rfl, bb⟩
        exact ⟨_, rfl, hJ.val hGS hcl hL rfl bb _ rfl⟩
    · intro L a w' hL hsame hsz hJ hdep hcl
      have hb := hJ.kept.toBelow (B := w.heap.size) HN.out (fun k hk => by simp at hk; omega)
      have hsv := hJ.valOf (j := 5) (by decide) (dep_of hdep 5 (by kernel_rfl)) rfl rfl
      have es : a.eval (.tmp 21) = (.agg #[.int .i64 fo, .int .i64 ba, .int .i64 ((fl ||| fv : Nat) : Int)]) := eval_slot (j := 5) (by kernel_rfl) hsv
      have hx : Box w' (w.heap.size + 1) 23 #[.int .i64 0, .int .i64 0, .int .i64 0] := hJ.old 6 rfl hL
      have hs : (#[.int .i64 0, .int .i64 0, .int .i64 0] : Array Value).size = 3 := rfl
      have ea : a.eval (.tmp 4) = .pointer (some ⟨(w.heap.size + 1), 0, none⟩) := eval_base hsame (by kernel_rfl)
      obtain ⟨m0, hm0⟩ : ∃ m, w'.cell? ⟨(w.heap.size + 1), 0, none⟩ = some m := ⟨_, (hx.cell 0).trans (Array.getElem?_eq_getElem (by rw [hs]; decide))⟩
      have hf0 := hx.frozen 0
      obtain ⟨m1, hm1⟩ : ∃ m, w'.cell? ⟨(w.heap.size + 1), 1, none⟩ = some m := ⟨_, (hx.cell 1).trans (Array.getElem?_eq_getElem (by rw [hs]; decide))⟩
      have hf1 := hx.frozen 1
      obtain ⟨m2, hm2⟩ : ∃ m, w'.cell? ⟨(w.heap.size + 1), 2, none⟩ = some m := ⟨_, (hx.cell 2).trans (Array.getElem?_eq_getElem (by rw [hs]; decide))⟩
      have hf2 := hx.frozen 2
      refine Step.skip _ rfl (wanted_none rfl) (setL w' (w.heap.size + 1) 0 [.int .i64 fo, .int .i64 ba, .int .i64 ((fl ||| fv : Nat) : Int)]) (fun ρ hρ => ?_) (hJ.set hGS hcl hL rfl (dep_of hdep 5 (by kernel_rfl)) rfl hsv)
      rw [hρ] at es ea
      clear hJ hsame hdep hcl hρ hsz hb hsv hx hs
      simp only [setL]
      go_simp
    · intro u w' hF
      change Exit.then _ _ Exit.normal (Act.put (Act.put (Act.put (Act.put (Act.put (Act.put (Act.put (putAll _ u 0 _) (some 16) (u 0)) (some 17) (u 1)) (some 18) (u 2)) (some 19) (u 3)) (some 20) (u 4)) (some 21) (u 5)) none (u 6)) _
      simp only [putAll]
      have hx := hF.fin4 (j := 6) (v := 5) (by decide) rfl rfl (by decide) rfl (cs := #[.int .i64 fo, .int .i64 ba, .int .i64 ((fl ||| fv : Nat) : Int)]) rfl
      have hk := hF.kept.toBelow (B := w.heap.size) HN.out (fun k hk => by simp at hk; omega)
      clear hF
      generalize u 0 = z0
      generalize u 1 = z1
      generalize u 2 = z2
      generalize u 3 = z3
      generalize u 4 = z4
      generalize u 5 = z5
      generalize u 6 = z6
      go_simp
      go_step
      go_meet
      exact ⟨hx, BW.out.trans hk⟩
  case rest =>
    obtain ⟨hx, hb⟩ := hcut
    obtain ⟨k0, k1, k2, k3, k4, k5⟩ := hx.three
    go_wp2_with fail
    exact bodyPost_ret (v := .agg #[.int .i64 fo, .int .i64 ba, .int .i64 ((fl ||| fv : Nat) : Int)]) (by simp [results, Tryd.results21, go_sem, k0, k1, k2]) rfl ⟨rfl, hb⟩
set_option maxHeartbeats 4000000 in
theorem applyOne_away (fo ba : Int) (fl n : Nat) (w : World) (hp : fl < 256) (h0 : 22 ≤ n) (h9 : n ≤ 29) (hF : FlagT w) : Calls Tryd.prog 21 #[.agg #[.int .i64 fo, .int .i64 ba, .int .i64 (fl : Nat)], .int .i64 (n : Nat)] w fun e w' => e = .returned (.agg #[.int .i64 fo, .int .i64 ba, .int .i64 ((fl &&& (255 - tak n) : Nat) : Int)]) ∧ Below w.heap.size w w' := by
  have hq : ((n : Int) == 0) = false := by simp; omega
  have BX0 := ((Box.new w 23 #[.int .i64 fo, .int .i64 ba, .int .i64 (fl : Nat)]).alloc (.cells #[.int .i64 0, .int .i64 0, .int .i64 0] 23))
  have BZ0 := by have h := Box.new (w.alloc (.cells #[.int .i64 fo, .int .i64 ba, .int .i64 (fl : Nat)] 23)) 23 #[.int .i64 0, .int .i64 0, .int .i64 0]; rw [World.size_alloc] at h; exact h
  have B0 := (((Below.refl _ w).alloc (Nat.le_refl _) (.cells #[.int .i64 fo, .int .i64 ba, .int .i64 (fl : Nat)] 23)).alloc (by simp) (.cells #[.int .i64 0, .int .i64 0, .int .i64 0] 23))
  have hFT := hide (hF.keep B0)
  have hTN := hide hF.lt
  have HFV := hide (tak_lt n)
  have TK := hide (fun w' h => takenBy_is n _ rfl h0 h9 w' h)
  have HFL := hide hp
  generalize tak n = fv at HFV TK ⊢
  have HP := hide BX0
  have HZ := hide BZ0
  have BW := hide B0
  have hwa : w.heap.size ≤ (((w.alloc (.cells #[.int .i64 fo, .int .i64 ba, .int .i64 (fl : Nat)] 23)).alloc (.cells #[.int .i64 0, .int .i64 0, .int .i64 0] 23))).heap.size := B0.size
  clear BX0 BZ0 B0 hp
  go_enter Tryd.func21, Tryd.ntmps21
  go_upto_region 6 with fail
  generalize (w.alloc (.cells #[.int .i64 fo, .int .i64 ba, .int .i64 (fl : Nat)] 23)).alloc (.cells #[.int .i64 0, .int .i64 0, .int .i64 0] 23) = wa at HP HZ BW hFT hwa ⊢
  have HN := hide hwa
  clear hwa
  go_cut [] from 9 to 34 (fun wx => Box wx w.heap.size 23 #[.int .i64 fo, .int .i64 ba, .int .i64 ((fl &&& (255 - fv) : Nat) : Int)] ∧ Box wx (w.heap.size + 1) 23 #[.int .i64 0, .int .i64 0, .int .i64 0] ∧ Below w.heap.size w wx)
  case first =>
    have FK : Hid (FlagT wa.drew) := hide hFT.out
    obtain ⟨k0, k1, k2, k3, k4, k5⟩ := HP.out.three
    have hand := hide (i64_andNot_nat HFL.out HFV.out)
    go_region_with (first | (go_at_call 27; refine (TK.out _ (FK.out)).mono ?_; rintro e w' ⟨rfl, rfl⟩))
    all_goals
      have hx : Box (wa.setCell ⟨w.heap.size, 2, none⟩ (.int .i64 ((fl &&& (255 - fv) : Nat) : Int))) w.heap.size 23 #[.int .i64 fo, .int .i64 ba, .int .i64 ((fl &&& (255 - fv) : Nat) : Int)] := HP.out.set 2 _
      have hz := HZ.out.far (p := ⟨w.heap.size, 2, none⟩) (by simp) (.int .i64 ((fl &&& (255 - fv) : Nat) : Int))
      have hb := BW.out.setCell (p := ⟨w.heap.size, 2, none⟩) (Nat.le_refl _) (.int .i64 ((fl &&& (255 - fv) : Nat) : Int))
      rw [hand.out]
      go_wp2_with fail
      go_meet
      exact ⟨hx.drewN 1, hz.drewN 1, below_drewN hb 1⟩
  case rest =>
    obtain ⟨hx, hz, hb⟩ := hcut
    obtain ⟨k0, k1, k2, k3, k4, k5⟩ := hx.three
    obtain ⟨j0, j1, j2, j3, j4, j5⟩ := hz.three
    go_wp2_with fail
    refine bodyPost_ret (v := .agg #[.int .i64 fo, .int .i64 ba, .int .i64 ((fl &&& (255 - fv) : Nat) : Int)]) (by simp [results, Tryd.results21, go_sem, j0, j1, j2]) rfl ⟨rfl, ?_⟩
    repeat (first | exact hb | refine Below.setCell ?_ (by first | omega | (simp; done) | (simp; omega)) _)
set_option maxHeartbeats 4000000 in
theorem applyOne_colour (fo ba f1 b1 : Int) (fl n : Nat) (w : World) (hf : colI fo n 30 = f1) (hb : colI ba n 40 = b1) (hn : n ≤ 9223372036854775807) (h : (10 ≤ n ∧ n ≤ 21) ∨ 30 ≤ n) : Calls Tryd.prog 21 #[.agg #[.int .i64 fo, .int .i64 ba, .int .i64 (fl : Nat)], .int .i64 (n : Nat)] w fun e w' => e = .returned (.agg #[.int .i64 f1, .int .i64 b1, .int .i64 (fl : Nat)]) ∧ Below w.heap.size w w' := by
  have C1 := hide (fun w' => colored_is fo n 30 (.inl rfl) hn f1 hf w')
  have C2 := hide (fun w' => colored_is ba n 40 (.inr rfl) hn b1 hb w')
  have hq : ((n : Int) == 0) = false := by simp; omega
  clear hf hb
  rcases h with ⟨h, h'⟩ | h
  all_goals
    go_enter Tryd.func21, Tryd.ntmps21
    go_wp2_with fail
    refine (C1.out _).mono ?_
    rintro e w' ⟨rfl, rfl⟩
    go_wp2_with fail
    refine (C2.out _).mono ?_
    rintro e w' ⟨rfl, rfl⟩
    go_wp2_with fail
    refine bodyPost_ret (v := .agg #[.int .i64 f1, .int .i64 b1, .int .i64 (fl : Nat)]) (by simp [results, Tryd.results21, go_sem]) rfl ⟨rfl, ?_⟩
    repeat (first | exact Below.refl _ _ | refine Below.setCell ?_ (by first | omega | (simp; done) | (simp; omega)) _ | refine Below.alloc ?_ (by first | omega | (simp; done) | (simp; omega)) _)
theorem applyOne_is (p q : PS.Pn) (n : Nat) (hq : PS.one p n = q) (hn : n ≤ 9223372036854775807) (hp : PS.Ok p) (w : World) (hF : FlagT w) : Calls Tryd.prog 21 #[penV p, .int .i64 (n : Nat)] w fun e w' => e = .returned (penV q) ∧ Below w.heap.size w w' := by
  subst hq
  by_cases h0 : n = 0
  · subst h0
    exact applyOne_plain p w
  by_cases h1 : n ≤ 9
  · rw [pl_flag p h0 h1]
    exact applyOne_flag p.fo p.ba p.fl n w hp h0 h1 hF
  by_cases h2 : 22 ≤ n ∧ n ≤ 29
  · rw [pl_away p h2.1 h2.2]
    exact applyOne_away p.fo p.ba p.fl n w hp h2.1 h2.2 hF
  · have hc : (10 ≤ n ∧ n ≤ 21) ∨ 30 ≤ n := by omega
    rw [pl_colour p hc]
    exact applyOne_colour p.fo p.ba _ _ p.fl n w rfl rfl hn hc
end Go.Proofs.YtnjkongbccblaaaDoor
