/- UtfPlain: whatever bytes, it answers true; it only makes new memory. -/
import Derived.Test.YtcbfibpomdhliaaRuns
import Derived.Test.YtcbfibpomdhliaaUtfLemmas
import Derived.Test.YtcbfibpomdhliaaArgs
import Derived.OpenShut
import Derived.Deep.RegionHeld3
namespace Go.Proofs.Ytcbfibpomdhliaa
open Go.RowKit
set_option linter.unusedVariables false
/-- two slices that don't lie in one block -/
def Apart (a b : Value) : Prop := ∀ g, a.ownBlock = some g → b.ownBlock ≠ some g
theorem Apart.symm {a b : Value} (h : Apart a b) : Apart b a := fun g hb ha => h g ha hb
theorem Apart.left {w : World} {a a' b : Value} (h : Apart a b) (m : Moved w a a') (hb : ∀ g, b.ownBlock = some g → g < w.heap.size) : Apart a' b := fun g ha hbg => by
  rcases m with m | ⟨g', m1, m2⟩
  · exact h g (m ▸ ha) hbg
  · rw [ha] at m1
    obtain rfl := Option.some.inj m1
    have := hb g hbg
    omega
theorem own_types {w : World} {base base' n n' : Nat} {e e' : TypeId} {v v' : Value} {xs xs' : List Value} (h : w.ownsRow base e 1 v n xs) (h' : w.ownsRow base' e' 1 v' n' xs') (hne : e ≠ e') : Apart v v' := fun g ha hb => by
  rcases h.2 with ⟨rfl, _⟩ | ⟨g1, cap, cur, rfl, _, hh, _⟩
  · simp [Value.ownBlock] at ha
  · rcases h'.2 with ⟨rfl, _⟩ | ⟨g2, cap', cur', rfl, _, hh', _⟩
    · simp [Value.ownBlock] at hb
    · simp [Value.ownBlock] at ha hb
      subst ha
      subst hb
      rw [hh] at hh'
      injection hh' with hh'
      injection hh' with _ ht
      exact hne ht
theorem own_apart {w w' : World} {base n : Nat} {e : TypeId} {v a : Value} {xs : List Value} (h : w.ownsRow base e 1 v n xs) (hg : w.grownBy w' a.ownBlock) (ha : Apart a v) : w'.ownsRow base e 1 v n xs := by
  refine h.kept hg ?_
  cases hv : v.ownBlock with
  | none => exact .inl rfl
  | some g => exact .inr (fun e => ha g e.symm hv)
theorem Moved.mono {w w1 : World} {a b : Value} (h : Moved w1 a b) (hs : w.heap.size ≤ w1.heap.size) : Moved w a b := by
  rcases h with h | ⟨g, h1, h2⟩
  · exact .inl h
  · exact .inr ⟨g, h1, Nat.le_trans hs h2⟩
theorem grown_drew {a w : World} {row : Option Nat} (h : a.grownBy w row) : a.grownBy w.drew row := ⟨h.os, h.tape, h.output, h.size, h.block⟩
def oddOf (y : Int) : Int := if y % 2 = 1 then 245 + y % 11 else 128 + y % 64
theorem dec_plain (l : List Int) (hl : ∀ x ∈ l, 0 ≤ x) : U.dec U.z (l.map (· % 128)) = (U.z, l.map (· % 128)) := by
  induction l with
  | nil => rfl
  | cons a l ih =>
    have h1 : U.it U.z (a % 128) = (U.z, [a % 128]) := by
      unfold U.it U.bg
      rw [if_pos (by simp [U.z]), if_pos (by omega)]
    simp only [List.map_cons, U.dec, h1]
    rw [ih (fun x hx => hl x (by simp [hx]))]
    rfl
theorem dec_odd (l : List Int) (hl : ∀ x ∈ l, 0 ≤ x) : U.dec U.z (l.map oddOf) = (U.z, l.map fun _ => 65533) := by
  induction l with
  | nil => rfl
  | cons a l ih =>
    have h1 : U.it U.z (oddOf a) = (U.z, [65533]) := by
      unfold U.it U.bg oddOf
      rw [if_pos (by simp [U.z])]
      split
      · rw [if_neg (by omega), if_neg (by omega), if_neg (by omega), if_neg (by omega), if_neg (by omega)]
      · rw [if_neg (by omega), if_pos (by omega)]
    simp only [List.map_cons, U.dec, h1]
    rw [ih (fun x hx => hl x (by simp [hx]))]
    rfl
theorem enc_plain (l : List Int) : U.enc (l.map (· % 128)) = l.map (· % 128) := by
  induction l with
  | nil => rfl
  | cons a l ih =>
    rw [List.map_cons, U.enc_cons, ih, show U.en1 (a % 128) = [a % 128] from by
      rw [show U.en1 (a % 128) = U.en (a % 128) from by unfold U.en1; rw [if_pos (by simp [U.isR]; omega)], U.en_eq1 _ (by omega)]]
    rfl
theorem encM : U.enc [-1] = [239, 191, 189] := by simp [U.enc, U.en1, U.isR]
theorem encS : U.enc [55296] = [239, 191, 189] := by simp [U.enc, U.en1, U.isR]
theorem encB : U.enc [65533] = [239, 191, 189] := by simp [U.enc, U.en1, U.en, U.isR, U.tl]
set_option maxRecDepth 100000 in
set_option maxHeartbeats 16000000 in
theorem utfPlain_any (A1 : Option Addr) (n1 c1 : Nat) (l1 : List Int) (w : World) (hb : Arg .u8 w A1 n1 c1 l1) :
    Calls Try.prog 8 #[.slice A1 n1 c1] w fun e w' => e = .returned (.bool true) ∧ Below w.heap.size w w' := by
  obtain ⟨i0, hi, hz0, hz1, hz2⟩ := info_parts info_i32
  obtain ⟨i8, hi8, hy0, hy1, hy2⟩ := info_parts info_u8
  have HB := hide hb
  clear hb
  go_enter Try.func8, Try.ntmps8
  go_wp2_with fail
  go_loopw [3, 4, 5, 6, 7] (fun vp vo vr vb i wr => ∃ k : Nat, k ≤ n1 ∧ k ≤ 30 ∧ i = .int .i64 k ∧ wr.ownsRow w.heap.size 5 1 vp k (u8s ((l1.take k).map (· % 128))) ∧ wr.ownsRow w.heap.size 5 1 vo k (u8s ((l1.take k).map oddOf)) ∧
      wr.ownsRow w.heap.size 21 1 vr k (i32s ((l1.take k).map (· % 128))) ∧ wr.ownsRow w.heap.size 21 1 vb k (i32s ((l1.take k).map fun _ => 65533)) ∧ Apart vp vo ∧ Apart vr vb ∧ Below w.heap.size w wr)
    (fun _ _ _ _ i _ => 30 - (intOf i).toNat)
  case atStart => exact ⟨0, Nat.zero_le _, by omega, rfl, World.ownsRow_nil _ _ _ _, World.ownsRow_nil _ _ _ _, World.ownsRow_nil _ _ _ _, World.ownsRow_nil _ _ _ _, fun g h => by simp [Value.ownBlock] at h, fun g h => by simp [Value.ownBlock] at h, Below.refl _ _⟩
  case round =>
    obtain ⟨k, hk, hk30, rfl, hp, ho, hr, hq, apo, arq, b0⟩ := hrel
    by_cases hlt : k < n1 ∧ k < 30
    · obtain ⟨hlt, hlt30⟩ := hlt
      obtain ⟨ad, u, rfl, hadb, hu, hc⟩ := (HB.out.seen.below b0).at_ hlt
      rw [List.getElem?_map] at hu
      obtain ⟨y, hy, rfl⟩ := Option.map_eq_some_iff.1 hu
      have hyr := bounds_u8 (HB.out.wf y (List.mem_of_getElem? hy))
      have hs : l1.take (k + 1) = l1.take k ++ [y] := by rw [List.take_add_one, hy]; rfl
      have HS := hide hs
      have e1 := U.and127 y hyr.1 (by omega)
      have e2 := U.and63 y hyr.1 (by omega)
      have e3 := u8_mask 1 (by omega) y hyr.1 (by omega)
      simp at e3
      have hk0 : (0 : Int) ≤ (k : Int) := by omega
      have hk1 : (k : Int) < (n1 : Int) := by omega
      have hm127 : 0 ≤ y % 128 ∧ y % 128 < 128 := by omega
      generalize hY : y % 128 = Y at e1 hm127
      have HY := hide hY
      have hw32 : IntKind.i32.wrap Y = Y := IntWalk.i32_in _ (by omega)
      clear hu hy hs hY
      go_wp2_with fail
      go_region_held3 (fun w' => w'.cell? (ad.add k) = some (.int .u8 y))
        (first | go_keep | exact hc1 | exact hc2 | (rw [World.cell?_alloc_lt _ _ _ (by rw [addBlock]; have := hgr.size; have := b0.size; simp; omega)]; exact hc1))
        (first | (refine step_appN (by rfl) (.tmp 23) (.tmp 29) 27 (by rfl) w.heap.size 5 i8 _ 1 Try.underlying27 hi8 hy0 hy1 hy2 rfl u3 k (u8s ((l1.take k).map (· % 128))) (by rfl) (own_drew (own_alloc hp _)) (wr.heap.size + 1) (some ⟨wr.heap.size, 0, none⟩) 1 1 [.int .u8 Y] (by rfl) ?_ ?_ (by omega) (by omega) ?_ ?_; exact Seen.of_box (t := 5) (cs := #[.int .u8 Y]) (Box.drew (Box.fresh rfl)) rfl rfl (Nat.lt_succ_self _); (simp [Value.oneCell']); (have := b0.size; simp; omega); intro vp1 w1 hp1 hg1 hm1; have hgr : wr.grownBy w1 u3.ownBlock := World.grownBy.trans (grown_drew (World.grownBy_alloc _ _ _)) hg1; have hc1 : w1.cell? (ad.add k) = some (.int .u8 y) := (World.cell?_of_block (hgr.block _ (World.block_lt_of_cell? wr _ hc) (fun e => by have := (hp.lt _ e.symm).1; rw [addBlock] at this; omega))).trans hc; have hr1 := own_apart hr hgr (own_types hp hr (by decide)); have hmr : Moved wr u3 vp1 := hm1.mono (by first | (simp; done) | (simp; omega))) | (refine step_appN (by rfl) (.tmp 23) (.tmp 29) 27 (by rfl) w.heap.size 5 i8 _ 1 Try.underlying27 hi8 hy0 hy1 hy2 rfl u3 k (u8s ((l1.take k).map (· % 128))) (by rfl) (own_drew (own_alloc (own_alloc hp _) _)) (wr.heap.size + 1) (some ⟨wr.heap.size, 0, none⟩) 1 1 [.int .u8 Y] (by rfl) ?_ ?_ (by omega) (by omega) ?_ ?_; exact Seen.of_box (t := 5) (cs := #[.int .u8 Y]) (Box.drew (Box.alloc (Box.fresh rfl) _)) rfl rfl (Nat.lt_succ_self _); (simp [Value.oneCell']); (have := b0.size; simp; omega); intro vp1 w1 hp1 hg1 hm1; have hgr : wr.grownBy w1 u3.ownBlock := World.grownBy.trans (grown_drew (grown_alloc (World.grownBy_alloc _ _ _) _)) hg1; have hc1 : w1.cell? (ad.add k) = some (.int .u8 y) := (World.cell?_of_block (hgr.block _ (World.block_lt_of_cell? wr _ hc) (fun e => by have := (hp.lt _ e.symm).1; rw [addBlock] at this; omega))).trans hc; have hr1 := own_apart hr hgr (own_types hp hr (by decide)); have hmr : Moved wr u3 vp1 := hm1.mono (by first | (simp; done) | (simp; omega)); have hbx := Box.grown (g := wr.heap.size + 1) (t := 21) (cs := #[.int .i32 Y]) (Box.drew (Box.fresh (by simp))) hg1 (fun e => by have := (hp.lt _ e.symm).2; omega)) | (refine step_appN (by rfl) (.tmp 23) (.tmp 29) 27 (by rfl) w.heap.size 5 i8 _ 1 Try.underlying27 hi8 hy0 hy1 hy2 rfl u3 k (u8s ((l1.take k).map (· % 128))) (by rfl) (own_drew (own_alloc (own_alloc hp _) _)) ((wr.heap.size + 1) + 1) (some ⟨(wr.heap.size + 1), 0, none⟩) 1 1 [.int .u8 Y] (by rfl) ?_ ?_ (by omega) (by omega) ?_ ?_; exact Seen.of_box (t := 5) (cs := #[.int .u8 Y]) (Box.drew (Box.fresh (by simp))) rfl rfl (Nat.lt_succ_self _); (simp [Value.oneCell']); (have := b0.size; simp; omega); intro vp1 w1 hp1 hg1 hm1; have hgr : wr.grownBy w1 u3.ownBlock := World.grownBy.trans (grown_drew (grown_alloc (World.grownBy_alloc _ _ _) _)) hg1; have hc1 : w1.cell? (ad.add k) = some (.int .u8 y) := (World.cell?_of_block (hgr.block _ (World.block_lt_of_cell? wr _ hc) (fun e => by have := (hp.lt _ e.symm).1; rw [addBlock] at this; omega))).trans hc; have hr1 := own_apart hr hgr (own_types hp hr (by decide)); have hmr : Moved wr u3 vp1 := hm1.mono (by first | (simp; done) | (simp; omega)); have hbx := Box.grown (g := wr.heap.size) (t := 21) (cs := #[.int .i32 Y]) (Box.drew (Box.alloc (Box.fresh rfl) _)) hg1 (fun e => by have := (hp.lt _ e.symm).2; omega)) | (refine step_appN (by rfl) (.tmp 31) (.tmp 38) 22 (by rfl) w.heap.size 21 i0 _ 4 Try.underlying22 hi hz0 hz1 hz2 rfl u5 k (i32s ((l1.take k).map (· % 128))) (by rfl) (own_alloc hr1 _) (w1.heap.size + 1) (some ⟨w1.heap.size, 0, none⟩) 1 1 [.int .i32 Y] (by rfl) ?_ ?_ (by omega) (by omega) ?_ ?_; exact Seen.of_box (t := 21) (cs := #[.int .i32 Y]) (Box.fresh rfl) rfl rfl (Nat.lt_succ_self _); (simp [Value.oneCell']); (have := b0.size; have := hgr.size; simp; omega); intro vr1 w2 hr2 hg2 hm2; have hgr2 : w1.grownBy w2 u5.ownBlock := World.grownBy.trans (World.grownBy_alloc _ _ _) hg2; have hc2 : w2.cell? (ad.add k) = some (.int .u8 y) := (World.cell?_of_block (hgr2.block _ (World.block_lt_of_cell? w1 _ hc1) (fun e => by have := (hr1.lt _ e.symm).1; rw [addBlock] at this; omega))).trans hc1; have hm2r : Moved w1 u5 vr1 := hm2.mono (by first | (simp; done) | exact Nat.le_refl _)) | (refine step_appN (by rfl) (.tmp 31) (.tmp 38) 22 (by rfl) w.heap.size 21 i0 _ 4 Try.underlying22 hi hz0 hz1 hz2 rfl u5 k (i32s ((l1.take k).map (· % 128))) (by rfl) hr1 ((wr.heap.size + 1) + 1) (some ⟨(wr.heap.size + 1), 0, none⟩) 1 1 [.int .i32 Y] (by rfl) ?_ ?_ (by omega) (by omega) ?_ ?_; exact Seen.of_box (t := 21) (cs := #[.int .i32 Y]) hbx rfl rfl (Nat.lt_succ_self _); (simp [Value.oneCell']); (have := b0.size; have := hgr.size; simp; omega); intro vr1 w2 hr2 hg2 hm2; have hgr2 : w1.grownBy w2 u5.ownBlock := World.grownBy.trans (grown_refl _ _) hg2; have hc2 : w2.cell? (ad.add k) = some (.int .u8 y) := (World.cell?_of_block (hgr2.block _ (World.block_lt_of_cell? w1 _ hc1) (fun e => by have := (hr1.lt _ e.symm).1; rw [addBlock] at this; omega))).trans hc1; have hm2r : Moved w1 u5 vr1 := hm2.mono (by first | (simp; done) | exact Nat.le_refl _)) | (refine step_appN (by rfl) (.tmp 31) (.tmp 38) 22 (by rfl) w.heap.size 21 i0 _ 4 Try.underlying22 hi hz0 hz1 hz2 rfl u5 k (i32s ((l1.take k).map (· % 128))) (by rfl) hr1 (wr.heap.size + 1) (some ⟨wr.heap.size, 0, none⟩) 1 1 [.int .i32 Y] (by rfl) ?_ ?_ (by omega) (by omega) ?_ ?_; exact Seen.of_box (t := 21) (cs := #[.int .i32 Y]) hbx rfl rfl (Nat.lt_succ_self _); (simp [Value.oneCell']); (have := b0.size; have := hgr.size; simp; omega); intro vr1 w2 hr2 hg2 hm2; have hgr2 : w1.grownBy w2 u5.ownBlock := World.grownBy.trans (grown_refl _ _) hg2; have hc2 : w2.cell? (ad.add k) = some (.int .u8 y) := (World.cell?_of_block (hgr2.block _ (World.block_lt_of_cell? w1 _ hc1) (fun e => by have := (hr1.lt _ e.symm).1; rw [addBlock] at this; omega))).trans hc1; have hm2r : Moved w1 u5 vr1 := hm2.mono (by first | (simp; done) | exact Nat.le_refl _)))
      all_goals
        have hp2 := own_apart hp1 hgr2 (own_types hr1 hp1 (by decide))
        have ho1 := own_apart ho hgr apo
        have ho2 := own_apart ho1 hgr2 (own_types hr1 ho1 (by decide))
        have hq1 := own_apart hq hgr (own_types hp hq (by decide))
        have hq2 := own_apart hq1 hgr2 arq
        have apo2 := apo.left hmr (fun g hg => (ho.lt g hg).2)
        have arq2 := arq.left hm2r (fun g hg => (hq1.lt g hg).2)
        have b1 := b0.grown hgr b0.size (fun g hg => (hp.lt g hg).1)
        have b2 := b1.grown hgr2 b1.size (fun g hg => (hr1.lt g hg).1)
        have e4 := u8_join 6 128 (y % 64) (by omega) (by omega) (by omega) (by omega) (by omega)
        have AA := hide (And.intro hp2 (And.intro ho2 (And.intro hr2 (And.intro hq2 (And.intro apo2 arq2)))))
        clear hp hp1 hp2 ho ho1 hr hr1 hq hq1 apo arq apo2 arq2 hgr hgr2 hmr hm2r hc hc1 b0 b1
        try clear hbx
        have hpar : (y % 2 = 0 ∧ Hid (oddOf y = 128 + y % 64)) ∨ (y % 2 = 1 ∧ Hid (oddOf y = 245 + y % 11)) := by
          rcases Int.emod_two_eq y with h | h
          · exact .inl ⟨h, by show oddOf y = _; unfold oddOf; rw [if_neg (by omega)]⟩
          · exact .inr ⟨h, by show oddOf y = _; unfold oddOf; rw [if_pos h]⟩
        rcases hpar with ⟨hpar, HODD⟩ | ⟨hpar, HODD⟩
        all_goals
          rw [hpar] at e3
          clear hpar
          obtain ⟨hp2, ho2, hr2, hq2, apo2, arq2⟩ := AA.out
          go_wp2_with (first | (at_builtin; refine wpList_app1 rfl (.tmp 58) (.tmp 60) 27 rfl w.heap.size 5 i8 _ 1 Try.underlying27 hi8 hy0 hy1 hy2 rfl u4 k _ rfl ho2 _ _ _ rfl rfl rfl (by omega) (by omega) b2.size ?_; intro vo3 w3 ho3 hg3 hm3; have hq3 := own_apart hq2 hg3 (own_types ho2 hq2 (by decide)); have b3 := b2.grown hg3 b2.size (fun g hg => (ho2.lt g hg).1)) | (at_builtin; refine wpList_app1 rfl (.tmp 62) (.tmp 63) 22 rfl w.heap.size 21 i0 _ 4 Try.underlying22 hi hz0 hz1 hz2 rfl u6 k _ rfl hq3 _ _ _ rfl rfl rfl (by omega) (by omega) b3.size ?_; intro vb4 w4 hq4 hg4 hm4))
          go_roundw
          case rel =>
            have hp3 := own_apart hp2 hg3 apo2.symm
            have hr3 := own_apart hr2 hg3 (own_types ho2 hr2 (by decide))
            have hp4 := own_apart hp3 hg4 (own_types hq3 hp3 (by decide))
            have ho4 := own_apart ho3 hg4 (own_types hq3 ho3 (by decide))
            have hr4 := own_apart hr3 hg4 arq2.symm
            refine ⟨k + 1, by omega, by omega, by go_num, ?_, ?_, ?_, ?_, (apo2.symm.left hm3 (fun g hg => (hp2.lt g hg).2)).symm, (arq2.symm.left hm4 (fun g hg => (hr3.lt g hg).2)).symm, b3.grown hg4 b3.size (fun g hg => (hq3.lt g hg).1)⟩
            · rw [HS.out]; simpa [u8s, HY.out] using hp4
            · rw [HS.out]; simpa [u8s, HODD.out] using ho4
            · rw [HS.out]; simpa [i32s, HY.out] using hr4
            · rw [HS.out]; simpa [i32s] using hq4
          case measure => simp [intOf]; omega
    · have hlt' : n1 ≤ k ∨ (k < n1 ∧ 30 ≤ k) := by omega
      have h0 : ∀ x ∈ l1.take k, 0 ≤ x := fun x hx => (bounds_u8 (HB.out.wf x (List.mem_of_mem_take hx))).1
      have hlen : (l1.take k).length = k := by have := HB.out.len; rw [List.length_take]; omega
      have d1 := dec_plain (l1.take k) h0
      have d2 := dec_odd (l1.take k) h0
      have d3 := enc_plain (l1.take k)
      have p1 : ∀ x ∈ (l1.take k).map (· % 128), 0 ≤ x ∧ x < 256 := fun x hx => by obtain ⟨y, _, rfl⟩ := List.mem_map.1 hx; omega
      have p2 : ∀ x ∈ (l1.take k).map oddOf, 0 ≤ x ∧ x < 256 := fun x hx => by obtain ⟨y, _, rfl⟩ := List.mem_map.1 hx; unfold oddOf; split <;> omega
      have q1 : ((l1.take k).map (· % 128)).length = k := by rw [List.length_map, hlen]
      have q2 : ((l1.take k).map fun _ => (65533 : Int)).length = k := by rw [List.length_map, hlen]
      generalize (l1.take k).map (· % 128) = PL at d1 d3 p1 q1 hp hr
      generalize ((l1.take k).map fun _ => (65533 : Int)) = BL at d2 q2 hq
      generalize (l1.take k).map oddOf = OL at d2 p2 ho
      have D1 := hide d1
      have D2 := hide d2
      have D3 := hide d3
      have P1 := hide p1
      have P2 := hide p2
      have Q1 := hide q1
      have Q2 := hide q2
      have P3 := hide (fun x (hx : x ∈ PL) => show -2147483648 ≤ x ∧ x ≤ 2147483647 by have := P1.out x hx; omega)
      clear d1 d2 d3 p1 p2 q1 q2 h0 hlen hlt apo arq
      obtain ⟨Ap, cp, rfl, _, _, _⟩ := own_form hp
      obtain ⟨Ao, co, rfl, _, _, _⟩ := own_form ho
      obtain ⟨Ar, cr, rfl, _, _, _⟩ := own_form hr
      obtain ⟨Aq, cq, rfl, _, _, _⟩ := own_form hq
      replace hp := Seen.of_own hp
      replace ho := Seen.of_own ho
      replace hr := Seen.of_own hr
      replace hq := Seen.of_own hq
      have szr := b0.size
      rcases hlt' with g1 | ⟨g1, g2⟩
      all_goals
        go_wp2_with fail
        refine (decode_is _ k _ PL _ 0 0 0 PL k D1.out Q1.out hp P1.out (by omega)).mono ?_
        rintro e w1 ⟨Al, cl, rfl, _, hl, bb⟩
        have cc : Below wr.heap.size wr w1 := Below.trans (by repeat (first | exact Below.refl _ _ | refine Below.alloc ?_ (by first | omega | (simp; done) | (simp; omega)) _ | refine below_drewN ?_ _ | refine Below.drew ?_)) (bb.mono (by first | omega | (simp; done) | (simp; omega)))
        have szw1 := cc.size
        replace hp := hp.below (cc.mono (by omega))
        replace ho := ho.below (cc.mono (by omega))
        replace hr := hr.below (cc.mono (by omega))
        replace hq := hq.below (cc.mono (by omega))
        replace b0 := b0.trans (cc.mono b0.size)
        clear bb cc
        have xd := Box.new w1 24 #[.int .i64 0, .int .i64 0, .int .i64 0]
        go_wp2_with fail
        refine (decode_is _ k _ OL _ 0 0 0 BL k D2.out Q2.out ((ho.below (by repeat (first | exact Below.refl _ _ | refine Below.alloc ?_ (by first | omega | (simp; done) | (simp; omega)) _ | refine below_drewN ?_ _ | refine Below.drew ?_))).more (by first | omega | (simp; done) | (simp; omega))) P2.out (by omega)).mono ?_
        rintro e w2 ⟨Am, cm, rfl, _, hm, bb⟩
        replace xd := xd.below bb (by simp)
        clear ho
        have cc : Below w1.heap.size w1 w2 := Below.trans (by repeat (first | exact Below.refl _ _ | refine Below.alloc ?_ (by first | omega | (simp; done) | (simp; omega)) _ | refine below_drewN ?_ _ | refine Below.drew ?_)) (bb.mono (by first | omega | (simp; done) | (simp; omega)))
        have szw2 := cc.size
        replace hp := hp.below (cc.mono (by omega))
        replace hr := hr.below (cc.mono (by omega))
        replace hq := hq.below (cc.mono (by omega))
        replace hl := hl.below (cc.mono (by omega))
        replace b0 := b0.trans (cc.mono b0.size)
        clear bb cc
        have xe := Box.new w2 24 #[.int .i64 0, .int .i64 0, .int .i64 0]
        go_wp2_with fail
        refine (same32_is PL _ _ _ _ _ _ _ _ _ (hl.below (by repeat (first | exact Below.refl _ _ | refine Below.alloc ?_ (by first | omega | (simp; done) | (simp; omega)) _ | refine below_drewN ?_ _ | refine Below.drew ?_))) (hr.below (by repeat (first | exact Below.refl _ _ | refine Below.alloc ?_ (by first | omega | (simp; done) | (simp; omega)) _ | refine below_drewN ?_ _ | refine Below.drew ?_))) (by omega)).mono ?_
        rintro e w3 ⟨rfl, bb⟩
        replace xe := xe.below bb (by simp)
        have cc : Below w2.heap.size w2 w3 := Below.trans (by repeat (first | exact Below.refl _ _ | refine Below.alloc ?_ (by first | omega | (simp; done) | (simp; omega)) _ | refine below_drewN ?_ _ | refine Below.drew ?_)) (bb.mono (by first | omega | (simp; done) | (simp; omega)))
        have szw3 := cc.size
        replace hp := hp.below (cc.mono (by omega))
        replace hr := hr.below (cc.mono (by omega))
        replace hq := hq.below (cc.mono (by omega))
        replace hl := hl.below (cc.mono (by omega))
        replace hm := hm.below (cc.mono (by omega))
        replace xd := xd.below cc xd.lt
        replace b0 := b0.trans (cc.mono b0.size)
        clear bb cc
        obtain ⟨k0, k1, k2, _, _, _⟩ := xd.three
        have lx := xd.lt
        go_wp2_with fail
        refine (held_is 0 0 0 false (by simp) _).mono ?_
        rintro e w4 ⟨rfl, bb⟩
        have cc : Below w3.heap.size w3 w4 := Below.trans (by repeat (first | exact Below.refl _ _ | refine Below.alloc ?_ (by first | omega | (simp; done) | (simp; omega)) _ | refine below_drewN ?_ _ | refine Below.drew ?_)) (bb.mono (by first | omega | (simp; done) | (simp; omega)))
        have szw4 := cc.size
        replace hp := hp.below (cc.mono (by omega))
        replace hr := hr.below (cc.mono (by omega))
        replace hq := hq.below (cc.mono (by omega))
        replace hl := hl.below (cc.mono (by omega))
        replace hm := hm.below (cc.mono (by omega))
        replace xd := xd.below cc xd.lt
        replace xe := xe.below cc xe.lt
        replace b0 := b0.trans (cc.mono b0.size)
        clear bb cc
        clear k0 k1 k2 lx
        go_wp2_with fail
        refine (same32_is BL _ _ _ _ _ _ _ _ _ (hm.below (by repeat (first | exact Below.refl _ _ | refine Below.alloc ?_ (by first | omega | (simp; done) | (simp; omega)) _ | refine below_drewN ?_ _ | refine Below.drew ?_))) (hq.below (by repeat (first | exact Below.refl _ _ | refine Below.alloc ?_ (by first | omega | (simp; done) | (simp; omega)) _ | refine below_drewN ?_ _ | refine Below.drew ?_))) (by omega)).mono ?_
        rintro e w5 ⟨rfl, bb⟩
        have cc : Below w4.heap.size w4 w5 := Below.trans (by repeat (first | exact Below.refl _ _ | refine Below.alloc ?_ (by first | omega | (simp; done) | (simp; omega)) _ | refine below_drewN ?_ _ | refine Below.drew ?_)) (bb.mono (by first | omega | (simp; done) | (simp; omega)))
        have szw5 := cc.size
        replace hp := hp.below (cc.mono (by omega))
        replace hr := hr.below (cc.mono (by omega))
        replace hq := hq.below (cc.mono (by omega))
        replace hl := hl.below (cc.mono (by omega))
        replace hm := hm.below (cc.mono (by omega))
        replace xd := xd.below cc xd.lt
        replace xe := xe.below cc xe.lt
        replace b0 := b0.trans (cc.mono b0.size)
        clear bb cc
        obtain ⟨k0, k1, k2, _, _, _⟩ := xe.three
        have lx := xe.lt
        go_wp2_with fail
        refine (held_is 0 0 0 false (by simp) _).mono ?_
        rintro e w6 ⟨rfl, bb⟩
        have cc : Below w5.heap.size w5 w6 := Below.trans (by repeat (first | exact Below.refl _ _ | refine Below.alloc ?_ (by first | omega | (simp; done) | (simp; omega)) _ | refine below_drewN ?_ _ | refine Below.drew ?_)) (bb.mono (by first | omega | (simp; done) | (simp; omega)))
        have szw6 := cc.size
        replace hp := hp.below (cc.mono (by omega))
        replace hr := hr.below (cc.mono (by omega))
        replace hq := hq.below (cc.mono (by omega))
        replace hl := hl.below (cc.mono (by omega))
        replace hm := hm.below (cc.mono (by omega))
        replace xd := xd.below cc xd.lt
        replace xe := xe.below cc xe.lt
        replace b0 := b0.trans (cc.mono b0.size)
        clear bb cc
        clear k0 k1 k2 lx
        go_wp2_with fail
        refine (encode_is _ k _ PL PL _ k D3.out Q1.out ((hr.below (by repeat (first | exact Below.refl _ _ | refine Below.alloc ?_ (by first | omega | (simp; done) | (simp; omega)) _ | refine below_drewN ?_ _ | refine Below.drew ?_))).more (by first | omega | (simp; done) | (simp; omega))) P3.out (by omega)).mono ?_
        rintro e w7 ⟨Ae, ce, rfl, _, he, bb⟩
        have cc : Below w6.heap.size w6 w7 := Below.trans (by repeat (first | exact Below.refl _ _ | refine Below.alloc ?_ (by first | omega | (simp; done) | (simp; omega)) _ | refine below_drewN ?_ _ | refine Below.drew ?_)) (bb.mono (by first | omega | (simp; done) | (simp; omega)))
        have szw7 := cc.size
        replace hp := hp.below (cc.mono (by omega))
        replace hr := hr.below (cc.mono (by omega))
        replace hq := hq.below (cc.mono (by omega))
        replace hl := hl.below (cc.mono (by omega))
        replace hm := hm.below (cc.mono (by omega))
        replace xd := xd.below cc xd.lt
        replace xe := xe.below cc xe.lt
        replace b0 := b0.trans (cc.mono b0.size)
        clear bb cc
        go_wp2_with fail
        refine (same8_is PL _ _ _ _ _ _ _ _ _ (he.below (by repeat (first | exact Below.refl _ _ | refine Below.alloc ?_ (by first | omega | (simp; done) | (simp; omega)) _ | refine below_drewN ?_ _ | refine Below.drew ?_))) (hp.below (by repeat (first | exact Below.refl _ _ | refine Below.alloc ?_ (by first | omega | (simp; done) | (simp; omega)) _ | refine below_drewN ?_ _ | refine Below.drew ?_))) (by omega)).mono ?_
        rintro e w8 ⟨rfl, bb⟩
        have cc : Below w7.heap.size w7 w8 := Below.trans (by repeat (first | exact Below.refl _ _ | refine Below.alloc ?_ (by first | omega | (simp; done) | (simp; omega)) _ | refine below_drewN ?_ _ | refine Below.drew ?_)) (bb.mono (by first | omega | (simp; done) | (simp; omega)))
        have szw8 := cc.size
        replace hp := hp.below (cc.mono (by omega))
        replace hr := hr.below (cc.mono (by omega))
        replace hq := hq.below (cc.mono (by omega))
        replace hl := hl.below (cc.mono (by omega))
        replace hm := hm.below (cc.mono (by omega))
        replace he := he.below (cc.mono (by omega))
        replace xd := xd.below cc xd.lt
        replace xe := xe.below cc xe.lt
        replace b0 := b0.trans (cc.mono b0.size)
        clear bb cc
        clear he hp hr hq hl hm xd xe
        go_wp2_with fail
        refine (encode_is _ 1 1 [-1] [239, 191, 189] _ 3 encM rfl (Seen.fresh (by simp) (by simp) rfl rfl) (by simp) (by omega)).mono ?_
        rintro e w9 ⟨Af, cf, rfl, _, hf, bb⟩
        have cc : Below w8.heap.size w8 w9 := Below.trans (by repeat (first | exact Below.refl _ _ | refine Below.alloc ?_ (by first | omega | (simp; done) | (simp; omega)) _ | refine below_drewN ?_ _ | refine Below.drew ?_)) (bb.mono (by first | omega | (simp; done) | (simp; omega)))
        have szw9 := cc.size
        replace b0 := b0.trans (cc.mono b0.size)
        clear bb cc
        go_wp2_with fail
        refine (encode_is _ 1 1 [65533] [239, 191, 189] _ 3 encB rfl (Seen.fresh (by simp) (by simp) rfl rfl) (by simp) (by omega)).mono ?_
        rintro e w10 ⟨Ag, cg, rfl, _, hg, bb⟩
        have cc : Below w9.heap.size w9 w10 := Below.trans (by repeat (first | exact Below.refl _ _ | refine Below.alloc ?_ (by first | omega | (simp; done) | (simp; omega)) _ | refine below_drewN ?_ _ | refine Below.drew ?_)) (bb.mono (by first | omega | (simp; done) | (simp; omega)))
        have szw10 := cc.size
        replace hf := hf.below (cc.mono (by omega))
        replace b0 := b0.trans (cc.mono b0.size)
        clear bb cc
        go_wp2_with fail
        refine (same8_is [239, 191, 189] _ _ _ _ _ _ _ _ _ (hf.below (by repeat (first | exact Below.refl _ _ | refine Below.alloc ?_ (by first | omega | (simp; done) | (simp; omega)) _ | refine below_drewN ?_ _ | refine Below.drew ?_))) (hg.below (by repeat (first | exact Below.refl _ _ | refine Below.alloc ?_ (by first | omega | (simp; done) | (simp; omega)) _ | refine below_drewN ?_ _ | refine Below.drew ?_))) (by omega)).mono ?_
        rintro e w11 ⟨rfl, bb⟩
        have cc : Below w10.heap.size w10 w11 := Below.trans (by repeat (first | exact Below.refl _ _ | refine Below.alloc ?_ (by first | omega | (simp; done) | (simp; omega)) _ | refine below_drewN ?_ _ | refine Below.drew ?_)) (bb.mono (by first | omega | (simp; done) | (simp; omega)))
        have szw11 := cc.size
        replace hf := hf.below (cc.mono (by omega))
        replace hg := hg.below (cc.mono (by omega))
        replace b0 := b0.trans (cc.mono b0.size)
        clear bb cc
        clear hf hg
        go_wp2_with fail
        refine (encode_is _ 1 1 [55296] [239, 191, 189] _ 3 encS rfl (Seen.fresh (by simp) (by simp) rfl rfl) (by simp) (by omega)).mono ?_
        rintro e w12 ⟨Af, cf, rfl, _, hf, bb⟩
        have cc : Below w11.heap.size w11 w12 := Below.trans (by repeat (first | exact Below.refl _ _ | refine Below.alloc ?_ (by first | omega | (simp; done) | (simp; omega)) _ | refine below_drewN ?_ _ | refine Below.drew ?_)) (bb.mono (by first | omega | (simp; done) | (simp; omega)))
        have szw12 := cc.size
        replace b0 := b0.trans (cc.mono b0.size)
        clear bb cc
        go_wp2_with fail
        refine (encode_is _ 1 1 [65533] [239, 191, 189] _ 3 encB rfl (Seen.fresh (by simp) (by simp) rfl rfl) (by simp) (by omega)).mono ?_
        rintro e w13 ⟨Ag, cg, rfl, _, hg, bb⟩
        have cc : Below w12.heap.size w12 w13 := Below.trans (by repeat (first | exact Below.refl _ _ | refine Below.alloc ?_ (by first | omega | (simp; done) | (simp; omega)) _ | refine below_drewN ?_ _ | refine Below.drew ?_)) (bb.mono (by first | omega | (simp; done) | (simp; omega)))
        have szw13 := cc.size
        replace hf := hf.below (cc.mono (by omega))
        replace b0 := b0.trans (cc.mono b0.size)
        clear bb cc
        go_wp2_with fail
        refine (same8_is [239, 191, 189] _ _ _ _ _ _ _ _ _ (hf.below (by repeat (first | exact Below.refl _ _ | refine Below.alloc ?_ (by first | omega | (simp; done) | (simp; omega)) _ | refine below_drewN ?_ _ | refine Below.drew ?_))) (hg.below (by repeat (first | exact Below.refl _ _ | refine Below.alloc ?_ (by first | omega | (simp; done) | (simp; omega)) _ | refine below_drewN ?_ _ | refine Below.drew ?_))) (by omega)).mono ?_
        rintro e w14 ⟨rfl, bb⟩
        have cc : Below w13.heap.size w13 w14 := Below.trans (by repeat (first | exact Below.refl _ _ | refine Below.alloc ?_ (by first | omega | (simp; done) | (simp; omega)) _ | refine below_drewN ?_ _ | refine Below.drew ?_)) (bb.mono (by first | omega | (simp; done) | (simp; omega)))
        have szw14 := cc.size
        replace hf := hf.below (cc.mono (by omega))
        replace hg := hg.below (cc.mono (by omega))
        replace b0 := b0.trans (cc.mono b0.size)
        clear bb cc
        clear hf hg
        go_wp2_with fail
        refine (utfRuns_any _).mono ?_
        rintro e w15 ⟨rfl, bb⟩
        have cc : Below w14.heap.size w14 w15 := Below.trans (by repeat (first | exact Below.refl _ _ | refine Below.alloc ?_ (by first | omega | (simp; done) | (simp; omega)) _ | refine below_drewN ?_ _ | refine Below.drew ?_)) (bb.mono (by first | omega | (simp; done) | (simp; omega)))
        have szw15 := cc.size
        replace b0 := b0.trans (cc.mono b0.size)
        clear bb cc
        go_wp2_with fail
        go_ret
        exact ⟨rfl, b0⟩
end Go.Proofs.Ytcbfibpomdhliaa
