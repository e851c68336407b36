/- ParseCuts: cut anywhere, byte by byte, by a copy: the same events. -/
import Derived.Test.YtdpioiapljgpmaaDoorParseEnds
import Derived.Test.YtdpioiapljgpmaaDoorBeside
namespace Go.Proofs.YtdpioiapljgpmaaDoor
open Go.RowKit
set_option linter.unusedVariables false
/-- the call's own copy of the bytes -/
def OwnBytes (w : World) (n1 : Nat) (l1 : List Int) (o : Value) (wx : World) : Prop := ∃ k : Nat, k ≤ n1 ∧ k ≤ 80 ∧ wx.ownsRow w.heap.size 5 1 o k (u8s (l1.take k)) ∧ Below w.heap.size w wx
theorem new0_ge (w : World) : ∀ k, (Value.slice (some ⟨w.heap.size, 0, none⟩) 0 0).ownBlock = some k → w.heap.size ≤ k := fun k hk => by
  have : w.heap.size = k := by simpa [Value.ownBlock] using hk
  omega
/-- the rest of the bytes, to be ranged over -/
def Rest (l : List Int) (A : Option Addr) (k c j : Nat) (s n i : Value) (w6 wx : World) : Prop := ∃ A' c', s = .slice A' (k - j) c' ∧ n = .int .i64 ((k - j : Nat) : Int) ∧ i = .int .i64 0 ∧ w6 = wx ∧ ∀ (B : Nat) (wr : World), Seen wr B A k (u8s l) → Seen wr B A' (k - j) (u8s (l.drop j))
/-- what stands in a round: the copy has been pushed i bytes; all else is as it was -/
def Going (w : World) (l : List Int) (j gp gc : Nat) (va vpp vtp vo : Value) (k : Nat) (Ma : List (PA.Ev × Value)) (H3 H m : Nat) (o i : Value) (wr : World) : Prop :=
  ∃ (q : Nat) (M : List (PA.Ev × Value)) (vpc vtc : Value), q ≤ m ∧ i = .int .i64 q ∧ M.map (·.1) = (PA.feed PA.s0 (l.take (j + q))).2 ∧ Evs wr w.heap.size o M ∧ Off M vpc ∧ PB wr w.heap.size gc (PA.feed PA.s0 (l.take (j + q))).1 vpc vtc ∧ High H vpc ∧ High H vtc ∧
    Evs wr w.heap.size va Ma ∧ PB wr w.heap.size gp (PA.feed PA.s0 l).1 vpp vtp ∧ wr.ownsRow w.heap.size 5 1 vo k (u8s l) ∧ Below w.heap.size w wr ∧ H ≤ wr.heap.size ∧ High H3 o
/-- what has been fed, told of what stands beside it -/
theorem Fed.out {B g : Nat} {s' : PA.S} {evs : List PA.Ev} {vp vt : Value} {w : World} {e : Ending} {w' : World} (h : Fed B g s' evs vp vt w e w') :
    ∃ v' vp' vt' M, e = .returned v' ∧ M.map (·.1) = evs ∧ PB w' B g s' vp' vt' ∧ Evs w' B v' M ∧ Off M vp' ∧ Kept [some g, vp.ownBlock, vt.ownBlock] w w' ∧ High w.heap.size v' ∧ From w [vp.ownBlock] vp'.ownBlock ∧ From w [vt.ownBlock] vt'.ownBlock ∧ (∀ H, H ≤ w.heap.size → High H vp → ∀ p ∈ M, High H p.2) := by
  obtain ⟨v', vp', vt', M, he, hM, hP, hown, hO, hD, hK, hV, fp, ft⟩ := h
  refine ⟨v', vp', vt', M, he, hM, hP, ⟨hown, hO⟩, fun p hp q hq => (hD p hp q hq).1, hK, hV, fp, ft, fun H hH hv p hp q hq => ?_⟩
  rcases (hD p hp q hq).2 with h | h
  · exact hv q h
  · omega
theorem below_of_kept {w w1 w' : World} {B g : Nat} {s : PA.S} {vp vt : Value} (hK : Kept [some g, vp.ownBlock, vt.ownBlock] w1 w') (hP : PB w1 B g s vp vt) (hB : w.heap.size ≤ B) (b0 : Below w.heap.size w w1) : Below w.heap.size w w' := by
  refine b0.trans (hK.toBelow b0.size (fun k hk => ?_))
  simp only [List.mem_cons, List.not_mem_nil, or_false, Option.some.injEq] at hk
  rcases hk with rfl | hk | hk
  · have := hP.low; omega
  · have := (hP.par.lt k hk.symm).1; omega
  · have := (hP.txt.lt k hk.symm).1; omega
set_option maxHeartbeats 16000000 in
set_option maxRecDepth 100000 in
theorem parseCuts_any (A1 : Option Addr) (n1 c1 : Nat) (l1 : List Int) (cut : Int) (w : World) (hb : Arg .u8 w A1 n1 c1 l1) (hcut : (Lit.int .i64 cut).wf = true) (ht : Tabs w) :
    Calls Tryd.prog 4 #[.slice A1 n1 c1, .int .i64 cut] w fun e w' => e = .returned (.bool true) ∧ Below w.heap.size w w' := by
  obtain ⟨i0, hi, hz0, hz1, hz2⟩ := info_parts info_ev
  obtain ⟨i1, hj, hy0, hy1, hy2⟩ := info_parts info_u8
  have h2 := ht.lt
  have hcb := bounds_i64 hcut
  have HB := hide hb
  have HT := hide ht
  have hcap := hb.cap
  have hle := hb.le
  unfold maxLen at hcap
  clear hb ht hcut
  go_enter Tryd.func4, Tryd.ntmps4
  go_upto_region 1 with fail
  go_cut [5] (fun o wx => OwnBytes w n1 l1 o wx)
  case first =>
    have own0 := own_lit0 (w := w) (base := w.heap.size) 5 rfl (Nat.le_refl _)
    have hsn := fun k (hk : k ≤ n1) => ((HB.out.seen.take hk).alloc (Nat.le_refl _) (.cells #[] 5))
    simp only [← List.map_take] at hsn
    have HSN := hide hsn
    have OWN0 := hide own0
    clear hsn own0
    by_cases h80 : n1 ≤ 80
    · go_wp2_with (at_builtin; refine wpList_appN rfl (.tmp 14) (.tmp 19) 26 rfl w.heap.size 5 i1 _ 1 Tryd.underlying26 hj hy0 hy1 hy2 rfl (.slice (some ⟨w.heap.size, 0, none⟩) 0 0) 0 [] rfl OWN0.out w.heap.size A1 n1 c1 (u8s (l1.take n1)) rfl (HSN.out n1 (Nat.le_refl _)) (u8s_one _) (by omega) (by omega) (by simp) ?_; intro v1 w1 hown1 hg1 hm1)
      go_meet
      exact ⟨n1, Nat.le_refl _, h80, by simpa using hown1, ((Below.refl _ _).alloc (Nat.le_refl _) _).grown hg1 (by simp) (new0_ge w)⟩
    · have h80' : 80 < n1 := by omega
      go_wp2_with (at_builtin; refine wpList_appN rfl (.tmp 14) (.tmp 19) 26 rfl w.heap.size 5 i1 _ 1 Tryd.underlying26 hj hy0 hy1 hy2 rfl (.slice (some ⟨w.heap.size, 0, none⟩) 0 0) 0 [] rfl OWN0.out w.heap.size A1 80 c1 (u8s (l1.take 80)) rfl (HSN.out 80 (by omega)) (u8s_one _) (by omega) (by omega) (by simp) ?_; intro v1 w1 hown1 hg1 hm1)
      go_meet
      exact ⟨80, by omega, by omega, by simpa using hown1, ((Below.refl _ _).alloc (Nat.le_refl _) _).grown hg1 (by simp) (new0_ge w)⟩
  case rest =>
    obtain ⟨k, hk, hk80, hown, bel⟩ := hcut
    have hll : (l1.take k).length = k := by rw [List.length_take, HB.out.len]; omega
    have hlr : ∀ x ∈ l1.take k, 0 ≤ x ∧ x < 256 := fun x hx => arg_u8 HB.out x (List.mem_of_mem_take hx)
    generalize l1.take k = l at hown hll hlr
    obtain ⟨A, c, rfl, hkc, hcm, _⟩ := own_form hown
    have HLL := hide hll
    have HLR := hide hlr
    have HO := hide hown
    have HBc := hide bel
    clear hll hlr hown bel HB
    go_wp2_with fail
    refine (new_any _).mono ?_
    rintro e w1 ⟨rfl, rfl⟩
    have hP := new_pb wc w.heap.size HBc.out.size
    have o1 := HO.out.alloc (.cells (pcells PA.s0 (.slice none 0 0) (.slice none 0 0)) 44)
    have b1 := HBc.out.alloc HBc.out.size (.cells (pcells PA.s0 (.slice none 0 0) (.slice none 0 0)) 44)
    have s1 : (wc.alloc (.cells (pcells PA.s0 (.slice none 0 0) (.slice none 0 0)) 44)).heap.size = wc.heap.size + 1 := by simp
    generalize wc.alloc (.cells (pcells PA.s0 (.slice none 0 0) (.slice none 0 0)) 44) = w1 at hP o1 b1 s1 ⊢
    have HP1 := hide hP
    have HO1 := hide o1
    have HB1 := hide b1
    have HS1 := hide s1
    clear hP o1 b1 s1
    go_wp2_with fail
    refine (new_any _).mono ?_
    rintro e w2 ⟨rfl, rfl⟩
    have hQ := new_pb w1 w.heap.size HB1.out.size
    have hP := HP1.out.alloc (.cells (pcells PA.s0 (.slice none 0 0) (.slice none 0 0)) 44)
    have o2 := HO1.out.alloc (.cells (pcells PA.s0 (.slice none 0 0) (.slice none 0 0)) 44)
    have b2 := HB1.out.alloc HB1.out.size (.cells (pcells PA.s0 (.slice none 0 0) (.slice none 0 0)) 44)
    have ol : Low w1.heap.size (.slice A k c) := fun q hq => (HO1.out.lt q hq).2
    have s2 : (w1.alloc (.cells (pcells PA.s0 (.slice none 0 0) (.slice none 0 0)) 44)).heap.size = w1.heap.size + 1 := by simp
    generalize w1.alloc (.cells (pcells PA.s0 (.slice none 0 0) (.slice none 0 0)) 44) = w2 at hP hQ o2 b2 s2 ⊢
    obtain ⟨gp, hgp⟩ : ∃ gp, wc.heap.size = gp := ⟨_, rfl⟩
    obtain ⟨gq, hgq⟩ : ∃ gq, w1.heap.size = gq := ⟨_, rfl⟩
    have hpq : gp ≠ gq := by have := HS1.out; omega
    have hgqs : gq < w2.heap.size := by omega
    rw [hgp] at hP ⊢
    rw [hgq] at hQ ol ⊢
    have HP2 := hide hP
    have HQ2 := hide hQ
    have HO2 := hide o2
    have HB2 := hide b2
    clear hP hQ o2 b2 s2 hgp hgq HP1 HO1 HB1 HS1 HO HBc
    go_wp2_with fail
    -- p is fed
    have f2 := HB2.out.size
    refine (feed_any w.heap.size gp PA.s0 _ _ A k c l w2 HP2.out PA.s0_ok (by simp [PA.s0, PA.d0]) (Seen.of_own HO2.out) HLR.out (by omega) (fun _ ad had => by
      have a := own_ne_box HO2.out HP2.out.box (by decide)
      subst had
      simp [Value.ownBlock] at a ⊢
      exact a) h2 (HT.out.keep HB2.out)).mono ?_
    intro e w3 hF
    obtain ⟨va, vpp, vtp, Ma, rfl, hMa, hP, hEa, hOa, hK, hVa, fp, ft, hHa⟩ := hF.out
    have b3 := below_of_kept hK HP2.out (Nat.le_refl _) HB2.out
    have hQ := HQ2.out.beside HP2.out hK hpq.symm (fun q hq => by simp [Value.ownBlock] at hq) (fun q hq => by simp [Value.ownBlock] at hq)
    have o3 := bytes_beside HO2.out HP2.out hK (fun q hq => by simp [Value.ownBlock])
    have s3 := hK.size
    obtain ⟨Aa, ca, rfl, _⟩ := own_form' hEa.1
    have HMA := hide hMa
    have HP3 := hide hP
    have HEA := hide hEa
    have HQ3 := hide hQ
    have HO3 := hide o3
    have HB3 := hide b3
    have HOL := hide ol
    clear hF hMa hP hEa hOa hK hVa fp ft hHa b3 hQ o3 HP2 HQ2 HO2 HB2 ol
    obtain ⟨j, hj1, hj2⟩ : ∃ j : Nat, (j : Int) = 0 + cut % ((k : Int) - 0 + 1) ∧ j ≤ k := by
      have a1 := Int.emod_nonneg cut (b := (k : Int) - 0 + 1) (by omega)
      have a2 := Int.emod_lt_of_pos cut (b := (k : Int) - 0 + 1) (by omega)
      exact ⟨(cut % ((k : Int) - 0 + 1)).toNat, by omega, by omega⟩
    have WI := hide (fun w' => within_is cut 0 (k : Int) (j : Int) hj1.symm w' hcb.1 hcb.2 (by omega) (by omega) (by omega))
    clear hj1
    go_wp2_with fail
    refine (WI.out _).mono ?_
    rintro e w4 ⟨rfl, rfl⟩
    go_wp2_with fail
    -- q is fed the beginning
    have hsj := (Seen.of_own HO3.out).take hj2
    rw [show (u8s l).take j = u8s (l.take j) from by simp [u8s, List.map_take]] at hsj
    have hltj : (l.take j).length = j := by rw [List.length_take, HLL.out]; omega
    refine (feed_any w.heap.size gq PA.s0 _ _ A j c (l.take j) w3 HQ3.out PA.s0_ok (by simp [PA.s0, PA.d0]) hsj (fun x hx => HLR.out x (List.mem_of_mem_take hx)) (by omega) (fun _ ad had => by
      have a := own_ne_box HO3.out HQ3.out.box (by decide)
      subst had
      simp [Value.ownBlock] at a ⊢
      exact a) h2 (HT.out.keep HB3.out)).mono ?_
    intro e w4 hF
    have ok1 := PA.feed_ok PA.s0_ok (l.take j) (fun x hx => HLR.out x (List.mem_of_mem_take hx))
    have pt1 := PA.feed_parts PA.s0 (l.take j)
    rw [hltj, show PA.s0.d.parts = 0 from rfl] at pt1
    obtain ⟨vl, vpq, vtq, Ml, rfl, hMl, hQ, hEl, hOl, hK, hVl, fp, ft, hHl⟩ := hF.out
    have b4 := below_of_kept hK HQ3.out (Nat.le_refl _) HB3.out
    have hP := HP3.out.beside HQ3.out hK hpq (fun q hq => by simp [Value.ownBlock]) (fun q hq => by simp [Value.ownBlock])
    have hEa := HEA.out.kept HQ3.out hK (fun p hp q hq => by simp [Value.ownBlock])
    have o4 := bytes_beside HO3.out HQ3.out hK (fun q hq => by simp [Value.ownBlock])
    have hqp : High w3.heap.size vpq := (High.nil _).step fp (Nat.le_refl _)
    have hqt : High w3.heap.size vtq := (High.nil _).step ft (Nat.le_refl _)
    have lpp : Low w3.heap.size vpp := HP3.out.lowp
    have lpt : Low w3.heap.size vtp := HP3.out.lowt
    have lma : LowM w3.heap.size Ma := HEA.out.lowM
    have lo3 : Low w3.heap.size (.slice A k c) := fun q hq => (HO3.out.lt q hq).2
    have s34 := hK.size
    obtain ⟨Al, cl, hvl, _⟩ := own_form' hEl.1
    have HML := hide hMl
    have HP4 := hide hP
    have HQ4 := hide hQ
    have HEA4 := hide hEa
    have HEL4 := hide hEl
    have HOL4 := hide hOl
    have HO4 := hide o4
    have HB4 := hide b4
    have HVL := hide hVl
    have HVA := hide HEA.out.low
    have HX := hide (And.intro hqp (And.intro hqt (And.intro lpp (And.intro lpt (And.intro lma lo3)))))
    subst hvl
    generalize hs1 : (PA.feed PA.s0 (l.take j)).1 = s1 at ok1 pt1 HQ4
    have HS1 := hide hs1
    clear hF hMl hQ hEl hOl hK hVl fp ft hHl b4 hP hEa o4 hqp hqt lpp lpt lma lo3 HP3 HQ3 HEA HO3 HB3 hsj hltj HOL hs1
    have CP := hide (copy_any w.heap.size gq s1 vpq vtq w4 HQ4.out ok1)
    go_wp2_with fail
    refine CP.out.mono ?_
    rintro e w5 ⟨gc, vpc, vtc, rfl, hgc, hC, b5, hcp, hct⟩
    have hgcq : gc ≠ gq := by have := HQ4.out.lt; omega
    have hgcp : gc ≠ gp := by have := HP4.out.lt; omega
    have HC5 := hide hC
    have HP5 := hide (HP4.out.below b5)
    have HQ5 := hide (HQ4.out.below b5)
    have HEA5 := hide (HEA4.out.below b5)
    have HEL5 := hide (HEL4.out.below b5)
    have HO5 := hide (own_kept HO4.out (Kept.of_below (L := []) b5) (by simp))
    have HB5 := hide (HB4.out.trans (b5.mono HB4.out.size))
    have HH := hide (And.intro (show High w4.heap.size vpc from hcp) (show High w4.heap.size vtc from hct))
    have HQL := hide (And.intro HQ4.out.lowp HQ4.out.lowt)
    have s45 := b5.size
    have hElo := hide HEL4.out.lowM
    clear hC b5 hcp hct CP HP4 HQ4 HEA4 HEL4 HO4 HB4
    have cs := conv_const
    go_wp2_with fail
    -- q goes on by itself
    have HNB := hide (show Below w5.heap.size w5 (w5.alloc (.cells (u8s [27, 91, 53, 59, 53, 72, 228]).toArray 5 (7, 8))) from (Below.refl _ _).alloc (Nat.le_refl _) _)
    have hSn : Seen (w5.alloc (.cells (u8s [27, 91, 53, 59, 53, 72, 228]).toArray 5 (7, 8))) (w5.alloc (.cells (u8s [27, 91, 53, 59, 53, 72, 228]).toArray 5 (7, 8))).heap.size (some ⟨w5.heap.size, 0, none⟩) 7 (u8s [27, 91, 53, 59, 53, 72, 228]) := seen_marked rfl (by simp) rfl (fun j u hu => by simpa using hu)
    have lq5 := HQ5.out.lt
    have lqp := HQL.out.1
    have lqt := HQL.out.2
    refine (feed_any w.heap.size gq s1 vpq vtq (some ⟨w5.heap.size, 0, none⟩) 7 7 [27, 91, 53, 59, 53, 72, 228] (w5.alloc (.cells (u8s [27, 91, 53, 59, 53, 72, 228]).toArray 5 (7, 8))) (HQ5.out.below HNB.out) ok1 (by omega) hSn (by decide) (by omega) (fun _ ad had => by
      injection had with had
      subst had
      simp only [List.mem_cons, List.not_mem_nil, or_false, not_or, Option.some.injEq]
      refine ⟨by omega, fun e => ?_, fun e => ?_⟩
      · have := lqp _ e.symm; omega
      · have := lqt _ e.symm; omega) h2 ((HT.out.keep HB5.out).keep HNB.out)).mono ?_
    intro e w6 hF
    obtain ⟨vz, vpz, vtz, Mz, rfl, _, hQ, _, _, hK, _, _, _, _⟩ := hF.out
    obtain ⟨hqp, hqt, lpp, lpt, lma, lo3⟩ := HX.out
    have hP := (HP5.out.below HNB.out).beside (HQ5.out.below HNB.out) hK hpq (lpp.ne hqp) (lpt.ne hqt)
    have hC := (HC5.out.below HNB.out).beside (HQ5.out.below HNB.out) hK hgcq (HH.out.1.ne lqp) (HH.out.2.ne lqt)
    have hEa := (HEA5.out.below HNB.out).kept (HQ5.out.below HNB.out) hK (lma.off hqp)
    have hEl := (HEL5.out.below HNB.out).kept (HQ5.out.below HNB.out) hK HOL4.out
    have o6 := bytes_beside (own_kept HO5.out (Kept.of_below (L := []) HNB.out) (by simp)) (HQ5.out.below HNB.out) hK (lo3.ne hqt)
    have b6 := below_of_kept hK (HQ5.out.below HNB.out) (Nat.le_refl _) (HB5.out.trans (HNB.out.mono HB5.out.size))
    have s56 := hK.size
    rw [World.size_alloc] at s56
    have HP6 := hide hP
    have HC6 := hide hC
    have HEA6 := hide hEa
    have HEL6 := hide hEl
    have HO6 := hide o6
    have HB6 := hide b6
    have HLM := hide (show Off Ml vpc from hElo.out.off HH.out.1)
    have HLP := hide (And.intro (show Low w4.heap.size vpp from fun q hq => by have := lpp q hq; omega) (And.intro (show Low w4.heap.size vtp from fun q hq => by have := lpt q hq; omega) (And.intro (show LowM w4.heap.size Ma from fun p hp q hq => by have := lma p hp q hq; omega) (show Low w4.heap.size (.slice A k c) from fun q hq => by have := lo3 q hq; omega))))
    clear hF hQ hK hqp hqt lpp lpt lma lo3 hP hC hEa hEl o6 b6 hSn lq5 lqp lqt HQ5 HP5 HC5 HEA5 HEL5 HO5 HB5 HX HQL hElo HOL4 HNB cs
    go_upto_region 12 with fail
    go_cut [51, 52, 53] (fun s n i wx => Rest l A k c j s n i w6 wx)
    case first =>
      by_cases hcj : c = j
      · have hkj : k = j := by omega
        subst hcj
        subst hkj
        go_wp2_with fail
        go_meet
        refine ⟨A, 0, by simp, by simp, rfl, rfl, fun B wr h => ?_⟩
        have := h.drop (cap := k) (k := k) (Nat.le_refl _) (Nat.le_refl _)
        rw [if_pos rfl] at this
        simpa [u8s, List.map_drop] using this
      · have hcj' : j < c := by omega
        go_wp2_with fail
        go_meet
        refine ⟨_, _, rfl, rfl, rfl, rfl, fun B wr h => ?_⟩
        have := h.drop (cap := c) hj2 hkc
        rw [if_neg hcj] at this
        simpa [u8s, List.map_drop] using this
    case rest =>
      obtain ⟨A', c', rfl, rfl, rfl, rfl, hsd⟩ := hcut
      have HSD := hide hsd
      have hlen : (l.drop j).length = k - j := by rw [List.length_drop, HLL.out]
      have HLD := hide hlen
      have HRL := hide (fun x (hx : x ∈ l.drop j) => HLR.out x (List.mem_of_mem_drop hx))
      have h46 : w4.heap.size ≤ w6.heap.size := by omega
      have hgcB := HC6.out.low
      obtain ⟨lpp, lpt, lma, lo3⟩ := HLP.out
      have HLP := hide HLP.out
      have hl0 : (l.take j).length = j := by rw [List.length_take, HLL.out]; omega
      clear hsd hlen hl0 lpp lpt lma lo3
      go_wp2_with fail
      go_loopw [10, 53] (fun o i wr => Going w l j gp gc (.slice Aa Ma.length ca) vpp vtp (.slice A k c) k Ma w3.heap.size w4.heap.size (k - j) o i wr) (fun _ i _ => (k - j) - (intOf i).toNat)
      case atStart => exact ⟨0, Ml, vpc, vtc, Nat.zero_le _, rfl, HML.out, HEL6.out, HLM.out, by rw [Nat.add_zero, HS1.out]; exact HC6.out, HH.out.1, HH.out.2, HEA6.out, HP6.out, HO6.out, HB6.out, h46, HVL.out⟩
      case round =>
        clear HML HEL6 HLM HC6 HEA6 HP6 HO6 HB6 HVL
        obtain ⟨q, M, vp1, vt1, hq, rfl, hM, hE, hO, hC, hpc, htc, hEa, hP, ho, bel, hH, hHo⟩ := hrel
        have HM := hide hM
        have HE := hide hE
        have HOf := hide hO
        have HCr := hide hC
        have HPC := hide (And.intro hpc htc)
        have HEr := hide hEa
        have HPr := hide hP
        have HOr := hide ho
        have HBr := hide bel
        have HHo := hide hHo
        by_cases hlt : q < k - j
        · obtain ⟨ad, u, rfl, hadb, hu, hc⟩ := (HSD.out _ _ (Seen.of_own ho)).at_ hlt
          rw [u8s, List.getElem?_map] at hu
          obtain ⟨x, hx, rfl⟩ := Option.map_eq_some_iff.1 hu
          have hxr := HRL.out x (List.mem_of_getElem? hx)
          rw [List.getElem?_drop] at hx
          have hsn := PA.feed_snoc PA.s0 (l.take (j + q)) x
          rw [show l.take (j + q) ++ [x] = l.take (j + (q + 1)) from by rw [← Nat.add_assoc, List.take_add_one, hx]; rfl] at hsn
          have hok := PA.feed_ok PA.s0_ok (l.take (j + q)) (fun y hy => HLR.out y (List.mem_of_mem_take hy))
          have hpt := PA.feed_parts PA.s0 (l.take (j + q))
          rw [List.length_take, HLL.out, show PA.s0.d.parts = 0 from rfl] at hpt
          have hln := PA.feed_len PA.s0 (l.take (j + q))
          rw [List.length_take, HLL.out, ← hM, List.length_map] at hln
          generalize (PA.feed PA.s0 (l.take (j + q))).1 = s2 at hsn hok hpt HCr
          generalize (PA.feed PA.s0 (l.take (j + q))).2 = e2 at hsn HM
          have PU := hide (ppush_any w.heap.size gc s2 vp1 vt1 x wr HCr.out hok (by omega) hxr.1 hxr.2 h2 (HT.out.keep HBr.out))
          have hl2 := PA.take_len s2 x
          have HSN := hide hsn
          clear hM hE hO hC hpc htc hEa hP ho bel hHo hu hx hsn hok hpt
          go_wp2_with fail
          refine PU.out.mono ?_
          intro e w7 hF
          obtain ⟨v2, vp2, vt2, M2, rfl, hM2, hC2, hE2, hO2, hK, hV2, fp, ft, hHh⟩ := hF.out
          obtain ⟨hpc, htc⟩ := HPC.out
          obtain ⟨lpp, lpt, lma, lo3⟩ := HLP.out
          have hE7 := HE.out.kept HCr.out hK HOf.out
          have hEa7 := HEr.out.kept HCr.out hK (lma.off hpc)
          have hP7 := HPr.out.beside HCr.out hK hgcp.symm (lpp.ne hpc) (lpt.ne htc)
          have ho7 := bytes_beside HOr.out HCr.out hK (lo3.ne htc)
          have b7 := below_of_kept hK HCr.out (Nat.le_refl _) HBr.out
          have s7 := hK.size
          have hM2l : M2.length ≤ 3 := by
            have := congrArg List.length hM2
            simp only [List.length_map] at this
            omega
          have hpc2 := hpc.step fp hH
          have htc2 := htc.step ft hH
          have hOff2 : Off M vp2 := fun p hp q hq e => by
            rcases fp q e with h | h
            · simp only [List.mem_singleton] at h
              exact HOf.out p hp q hq h.symm
            · have := ((HE.out.2 p hp).lt q hq).2
              omega
          have HE7 := hide hE7
          have HE2 := hide hE2
          have HEa7 := hide hEa7
          have HP7 := hide hP7
          have HO7 := hide ho7
          have HC7 := hide hC2
          have HB7 := hide b7
          have HZ := hide (And.intro hpc2 (And.intro htc2 (And.intro hOff2 hO2)))
          have HM2 := hide hM2
          have hb7 := b7.size
          clear hF hM2 hC2 hE2 hO2 hK hV2 fp ft hHh hpc htc lpp lpt lma lo3 hE7 hEa7 hP7 ho7 b7 hpc2 htc2 hOff2 PU
          go_wp2_with (at_builtin; refine wpList_appRow rfl (.tmp 57) (.tmp 60) 24 rfl w.heap.size 30 i0 _ 7 56 Tryd.underlying24 hi hz0 hz1 hz2 zev_size (by omega) u10 M.length (mcells M) rfl HE7.out.1 w.heap.size v2 M2.length (mcells M2) rfl HE2.out.1 (mcells_one' w7 w.heap.size M2 HE2.out.2) (by omega) (by omega) hb7 ?_; intro v8 w8 own8 hg8 hm8)
          have K8 : Kept [u10.ownBlock] w7 w8 := (Kept.refl _ _).grown hg8 (From.mem (by simp))
          have ownM8 : OwnM w8 w.heap.size (M ++ M2) := (HE7.out.2.app HE2.out.2).kept K8 (fun p hp q hq hm => by
            simp only [List.mem_singleton] at hm
            exact own_ne_own ((HE7.out.2.app HE2.out.2) p hp) HE7.out.1 (by decide) hq hm.symm)
          have hE8 : Evs w8 w.heap.size v8 (M ++ M2) := ⟨by rw [List.length_append, mcells_app]; exact own8, ownM8⟩
          obtain ⟨x1, x2, x3⟩ := own_not_parser HC7.out HE7.out.1
          have hC8 := HC7.out.kept K8 x1 x2 x3
          obtain ⟨y1, y2, y3⟩ := own_not_parser HP7.out HE7.out.1
          have hP8 := HP7.out.kept K8 y1 y2 y3
          have hEa8 : Evs w8 w.heap.size (.slice Aa Ma.length ca) Ma := ⟨own_kept HEa7.out.1 K8 (fun q hq hm => by
            simp only [List.mem_singleton] at hm
            have a1 := HVA.out q hq
            have a2 := HHo.out q hm.symm
            omega), HEa7.out.2.kept K8 (fun p hp q hq hm => by
            simp only [List.mem_singleton] at hm
            exact own_ne_own (HEa7.out.2 p hp) HE7.out.1 (by decide) hq hm.symm)⟩
          have ho8 := own_kept HO7.out K8 (fun q hq hm => by
            simp only [List.mem_singleton] at hm
            exact own_ne_own HO7.out HE7.out.1 (by decide) hq hm.symm)
          have b8 := HB7.out.grown hg8 hb7 (fun q hq => (HE7.out.1.lt q hq).1)
          have hHo8 : High w3.heap.size v8 := HHo.out.step (From.moved hm8) (by omega)
          obtain ⟨z1, z2, z3, z4⟩ := HZ.out
          have hOff8 : Off (M ++ M2) vp2 := fun p hp => (List.mem_append.1 hp).elim (z3 p) (z4 p)
          have hM8 : (M ++ M2).map (·.1) = (PA.feed PA.s0 (l.take (j + (q + 1)))).2 := by rw [HSN.out, List.map_append, HM.out, HM2.out]
          have hC8' : PB w8 w.heap.size gc (PA.feed PA.s0 (l.take (j + (q + 1)))).1 vp2 vt2 := by rw [HSN.out]; exact hC8
          have s8 := hg8.size
          have FIN := hide (show Going w l j gp gc (.slice Aa Ma.length ca) vpp vtp (.slice A k c) k Ma w3.heap.size w4.heap.size (k - j) v8 (.int .i64 ((q + 1 : Nat) : Int)) w8 from ⟨q + 1, M ++ M2, vp2, vt2, by omega, rfl, hM8, hE8, hOff8, hC8', z1, z2, hEa8, hP8, ho8, b8, by omega, hHo8⟩)
          clear K8 ownM8 hE8 x1 x2 x3 hC8 y1 y2 y3 hP8 hEa8 ho8 b8 hHo8 z1 z2 z3 z4 hOff8 hM8 hC8' own8 hg8 hm8
          go_roundw
          case rel => exact FIN.out
          case measure => simp [intOf]; omega
        · have hqk : j + q = k := by omega
          have htake : l.take k = l := List.take_of_length_le (by rw [HLL.out]; exact Nat.le_refl _)
          rw [hqk, htake] at hM hC
          have hpar := PA.feed_params PA.s0_ok l HLR.out
          obtain ⟨Ao, co, hov, _⟩ := own_form' hE.1
          have hMl : M.length = Ma.length := by
            have := congrArg List.length (hM.trans HMA.out.symm)
            simpa using this
          have hpb : ∀ p ∈ M, p.1.params.length ≤ 1024 := fun p hp => by
            have h1 : p.1 ∈ M.map (·.1) := List.mem_map_of_mem hp
            rw [hM] at h1
            have := hpar _ h1
            omega
          have hpb' : ∀ p ∈ Ma, p.1.params.length ≤ 1024 := fun p hp => by
            have h1 : p.1 ∈ Ma.map (·.1) := List.mem_map_of_mem hp
            rw [HMA.out] at h1
            have := hpar _ h1
            omega
          have hfl := PA.feed_len PA.s0 l
          rw [← HMA.out, List.length_map, HLL.out] at hfl
          have hE1 := hE.1
          rw [hov, hMl] at hE1
          have EV := hide (events_any Ao Aa Ma.length co ca M Ma wr (seenE_at hE1 hE.2 hpb hMl) (seenE_at hEa.1 hEa.2 hpb' rfl) (hM.trans HMA.out.symm) (by omega))
          rw [hMl] at hov
          subst hov
          have HCf := hide hC
          have HPf := hide hP
          have HBf := hide bel
          clear hM hE hO hC hpc htc hEa hP ho bel hHo HE HHo HM HOf HCr HPC HEr HPr HOr HBr hpar hpb hpb' hE1
          go_wp2_with fail
          refine EV.out.mono ?_
          rintro e w7 ⟨rfl, b7⟩
          have HC7 := hide (HCf.out.below b7)
          have HP7 := hide (HPf.out.below b7)
          have HB7 := hide (HBf.out.trans (b7.mono HBf.out.size))
          clear b7 EV HCf HPf HBf
          generalize PA.ground (PA.feed PA.s0 l).1 = gd at *
          go_wp2_with fail
          refine (ground_any _ _ _ _ _ _ HC7.out).mono ?_
          rintro e w8 ⟨rfl, b8⟩
          have HP8 := hide (HP7.out.below b8)
          have HB8 := hide (HB7.out.trans (b8.mono HB7.out.size))
          clear b8
          go_wp2_with fail
          refine (ground_any _ _ _ _ _ _ HP8.out).mono ?_
          rintro e w9 ⟨rfl, b9⟩
          have HB9 := hide (HB8.out.trans (b9.mono HB8.out.size))
          clear b9
          go_wp2_with fail
          refine (parseRuns_any _ (HT.out.keep HB9.out)).mono ?_
          rintro e w10 ⟨rfl, b10⟩
          have HB10 := hide (HB9.out.trans (b10.mono HB9.out.size))
          clear b10
          go_wp2_with fail
          go_ret
          exact ⟨rfl, HB10.out⟩
end Go.Proofs.YtdpioiapljgpmaaDoor
