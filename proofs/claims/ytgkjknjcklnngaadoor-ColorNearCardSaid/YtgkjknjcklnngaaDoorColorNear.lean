/- ColorNear: none is nearer than the nearest, none as near is ahead of it; what is one of them stays; lowered twice is lowered once. -/
import Derived.Test.YtgkjknjcklnngaaDoorColorRuns
import Derived.Test.YtgkjknjcklnngaaDoorKeepPen
namespace Go.Proofs.YtgkjknjcklnngaaDoor
open Go.RowKit
set_option linter.unusedVariables false
theorem pen_fore (a b c : Value) (w : World) : (Instr.field 30 (.agg #[a, b, c]) 0).run Tryd.prog w = .ok a w := by kernel_rfl
theorem pen_back (a b c : Value) (w : World) : (Instr.field 30 (.agg #[a, b, c]) 1).run Tryd.prog w = .ok b w := by kernel_rfl
/-- the given Pen of three numbers -/
theorem pen_given {a b c : Int} (ha : (Lit.int .i64 a).wf = true) (hb : (Lit.int .i64 b).wf = true) (hc : (Lit.int .i64 c).wf = true) : Hid (∀ w, Calls Tryd.prog 17 #[.agg #[.int .i64 a, .int .i64 b, .int .i64 c]] w fun e w' => e = .returned (.agg #[.int .i64 (C.kcol a), .int .i64 (C.kcol b), .int .i64 (c % 256)]) ∧ Below w.heap.size w w') := by
  have h1 := bounds_i64 ha
  have h2 := bounds_i64 hb
  have h3 := bounds_i64 hc
  exact hide (fun w => keepPen_any a b c w h1.1 h1.2 h2.1 h2.2 h3.1 h3.2)
theorem kcol_has {n : Int} (h : C.kcol n ≠ -1) : CO.has (C.kcol n) = true := by
  have := C.kcol_col n
  rw [C.col_iff] at this
  rw [CO.has_iff]
  omega
theorem has_pos {c : Int} (h : CO.has c = true) : 0 ≤ c ∧ c < 33554432 := by
  rw [CO.has_iff] at h
  omega
theorem has_m1 : CO.has (-1) = false := rfl
theorem near_m1 (n : Int) : CO.near (-1) n = -1 := near_none (by rw [has_m1]; simp)
theorem lower_stays {c n : Int} (h0 : 1 ≤ n) (h1 : c < n) : CO.lower c n = c := lower_own (by omega) h1
set_option maxHeartbeats 2000000 in
theorem colorNear_t (a b c n pf pb pg k : Int) (w : World) (PC : Hid (∀ w, Calls Tryd.prog 17 #[.agg #[.int .i64 a, .int .i64 b, .int .i64 c]] w fun e w' => e = .returned (.agg #[.int .i64 pf, .int .i64 pb, .int .i64 pg]) ∧ Below w.heap.size w w'))
    (KW : Hid (∀ w, Calls Tryd.prog 14 #[.int .i64 n, .int .i64 1, .int .i64 256] w fun e w' => e = .returned (.int .i64 k) ∧ w = w')) (k0 : 1 ≤ k) (k1 : k ≤ 256) (hp : pf = -1 ∨ CO.has pf = true) (ht : Tab w) :
    Calls Tryd.prog 5 #[.agg #[.int .i64 a, .int .i64 b, .int .i64 c], .int .i64 n] w fun e w' => e = .returned (.bool true) ∧ Below w.heap.size w w' := by
  have HT := hide ht
  clear ht
  have fl := pen_fore
  rcases hp with rfl | hp
  · have N := hide (fun w' ht => nearest_is (-1) k (-1) (near_m1 k) w' ht)
    have L := hide (fun w' ht => lower_is (-1) k (-1) (lower_stays k0 (by omega)) w' ht)
    go_enter Tryd.func5, Tryd.ntmps5
    go_wp2_with fail
    refine (PC.out _).mono ?_
    rintro e w1 ⟨rfl, bb⟩
    have b1 : Below w.heap.size w w1 := ((Below.refl _ _).alloc (Nat.le_refl _) _).trans (bb.mono (by simp))
    clear bb
    go_wp2_with fail
    refine (KW.out _).mono ?_
    rintro e w' ⟨rfl, rfl⟩
    go_wp2_with fail
    refine (N.out _ (HT.out.keep b1)).mono ?_
    rintro e w2 ⟨rfl, bb⟩
    have b2 := b1.trans (bb.mono b1.size)
    clear bb b1
    go_wp2_with fail
    refine (L.out _ (HT.out.keep b2)).mono ?_
    rintro e w3 ⟨rfl, bb⟩
    have b3 := b2.trans (bb.mono b2.size)
    clear bb b2
    go_wp2_with fail
    refine (colorRuns_any _ (HT.out.keep b3)).mono ?_
    rintro e w4 ⟨rfl, bb⟩
    have b4 := b3.trans (bb.mono b3.size)
    clear bb b3
    go_wp2_with fail
    go_ret
    exact ⟨rfl, b4⟩
  · obtain ⟨m, hm⟩ : ∃ m, CO.near pf k = m := ⟨_, rfl⟩
    have nb := CO.near_best hp k0 k1
    rw [hm] at nb
    obtain ⟨m0, m1, NB1, NB2⟩ := nb
    have hpos := has_pos hp
    have q1 : (pf == -1) = false := by simp; omega
    obtain ⟨g, hg⟩ : ∃ g, CO.far pf m = g := ⟨_, rfl⟩
    rw [hg] at NB1 NB2
    have g0 := CO.far_nonneg pf m
    rw [hg] at g0
    have H1 := hide NB1
    have H2 := hide NB2
    have N := hide (fun w' ht => nearest_is pf k m hm w' ht)
    have FM := hide (fun w' ht => far_is pf m g hg w' ht)
    have FB := hide (fun w' ht => far_is m pf g ((CO.far_comm m pf).trans hg) w' ht)
    have FF := hide (fun w' ht => far_is pf pf 0 (CO.far_self pf) w' ht)
    have LL : ∃ l, CO.lower pf k = l ∧ l < k ∧ ((pf < k ∧ l = pf) ∨ k ≤ pf) := by
      by_cases h : pf < k
      · exact ⟨pf, lower_stays k0 h, h, .inl ⟨h, rfl⟩⟩
      · exact ⟨m, (lower_near (by omega) h).trans hm, m1, .inr (by omega)⟩
    obtain ⟨l, hl, l1, hor⟩ := LL
    have L := hide (fun w' ht => lower_is pf k l hl w' ht)
    have L2 := hide (fun w' ht => lower_is l k l (lower_stays k0 l1) w' ht)
    obtain ⟨kn, rfl⟩ := Int.eq_ofNat_of_zero_le (a := k) (by omega)
    clear NB1 NB2 hm hl hg hp
    go_enter Tryd.func5, Tryd.ntmps5
    go_wp2_with fail
    refine (PC.out _).mono ?_
    rintro e w1 ⟨rfl, bb⟩
    have b1 : Below w.heap.size w w1 := ((Below.refl _ _).alloc (Nat.le_refl _) _).trans (bb.mono (by simp))
    clear bb
    go_wp2_with fail
    refine (KW.out _).mono ?_
    rintro e w' ⟨rfl, rfl⟩
    go_wp2_with fail
    refine (N.out _ (HT.out.keep b1)).mono ?_
    rintro e w2 ⟨rfl, bb⟩
    have b2 := b1.trans (bb.mono b1.size)
    clear bb b1
    go_wp2_with fail
    go_loopw [32] (fun i wr => ∃ j : Nat, j ≤ kn ∧ i = .int .i64 j ∧ Below w.heap.size w wr) (fun i _ => kn - (intOf i).toNat)
    case atStart => exact ⟨0, by omega, rfl, b2⟩
    case round =>
      obtain ⟨j, hj, rfl, bel⟩ := hrel
      by_cases hlt : j < kn
      · obtain ⟨f, hf⟩ : ∃ f, CO.far pf (j : Int) = f := ⟨_, rfl⟩
        have e1 := H1.out (j : Int) (by omega) (by omega)
        have e2 := H2.out (j : Int) (by omega)
        rw [hf] at e1 e2
        have FJ := hide (fun w' ht => far_is pf (j : Int) f hf w' ht)
        clear hf
        have nl : ¬ f < g := by omega
        by_cases hjm : (j : Int) < m
        · have e2 := e2 hjm
          have ne : (f == g) = false := by simp; omega
          go_wp2_with fail
          refine (FJ.out _ (HT.out.keep bel)).mono ?_
          rintro e w3 ⟨rfl, bb⟩
          have b3 := bel.trans (bb.mono bel.size)
          clear bb bel
          go_wp2_with fail
          refine (FM.out _ (HT.out.keep b3)).mono ?_
          rintro e w4 ⟨rfl, bb⟩
          have b4 := b3.trans (bb.mono b3.size)
          clear bb b3
          go_wp2_with fail
          refine (FJ.out _ (HT.out.keep b4)).mono ?_
          rintro e w5 ⟨rfl, bb⟩
          have b5 := b4.trans (bb.mono b4.size)
          clear bb b4
          go_wp2_with fail
          refine (FM.out _ (HT.out.keep b5)).mono ?_
          rintro e w6 ⟨rfl, bb⟩
          have b6 := b5.trans (bb.mono b5.size)
          clear bb b5
          go_wp2_with fail
          go_roundw
          case rel => exact ⟨j + 1, by omega, by go_num, b6⟩
          case measure => simp [intOf]; omega
        · clear e2
          go_wp2_with fail
          refine (FJ.out _ (HT.out.keep bel)).mono ?_
          rintro e w3 ⟨rfl, bb⟩
          have b3 := bel.trans (bb.mono bel.size)
          clear bb bel
          go_wp2_with fail
          refine (FM.out _ (HT.out.keep b3)).mono ?_
          rintro e w4 ⟨rfl, bb⟩
          have b4 := b3.trans (bb.mono b3.size)
          clear bb b3
          go_wp2_with fail
          go_roundw
          case rel => exact ⟨j + 1, by omega, by go_num, b4⟩
          case measure => simp [intOf]; omega
      · obtain rfl : j = kn := by omega
        go_wp2_with fail
        refine (L.out _ (HT.out.keep bel)).mono ?_
        rintro e w3 ⟨rfl, bb⟩
        have b3 := bel.trans (bb.mono bel.size)
        clear bb bel
        rcases hor with ⟨hor, rfl⟩ | hor
        · go_wp2_with fail
          refine (L2.out _ (HT.out.keep b3)).mono ?_
          rintro e w4 ⟨rfl, bb⟩
          have b4 := b3.trans (bb.mono b3.size)
          clear bb b3
          go_wp2_with fail
          refine (FF.out _ (HT.out.keep b4)).mono ?_
          rintro e w5 ⟨rfl, bb⟩
          have b5 := b4.trans (bb.mono b4.size)
          clear bb b4
          go_wp2_with fail
          refine (FM.out _ (HT.out.keep b5)).mono ?_
          rintro e w6 ⟨rfl, bb⟩
          have b6 := b5.trans (bb.mono b5.size)
          clear bb b5
          go_wp2_with fail
          refine (FB.out _ (HT.out.keep b6)).mono ?_
          rintro e w7 ⟨rfl, bb⟩
          have b7 := b6.trans (bb.mono b6.size)
          clear bb b6
          go_wp2_with fail
          refine (colorRuns_any _ (HT.out.keep b7)).mono ?_
          rintro e w8 ⟨rfl, bb⟩
          have b8 := b7.trans (bb.mono b7.size)
          clear bb b7
          go_wp2_with fail
          go_ret
          exact ⟨rfl, b8⟩
        · go_wp2_with fail
          refine (L2.out _ (HT.out.keep b3)).mono ?_
          rintro e w4 ⟨rfl, bb⟩
          have b4 := b3.trans (bb.mono b3.size)
          clear bb b3
          go_wp2_with fail
          refine (FF.out _ (HT.out.keep b4)).mono ?_
          rintro e w5 ⟨rfl, bb⟩
          have b5 := b4.trans (bb.mono b4.size)
          clear bb b4
          go_wp2_with fail
          refine (FM.out _ (HT.out.keep b5)).mono ?_
          rintro e w6 ⟨rfl, bb⟩
          have b6 := b5.trans (bb.mono b5.size)
          clear bb b5
          go_wp2_with fail
          refine (FB.out _ (HT.out.keep b6)).mono ?_
          rintro e w7 ⟨rfl, bb⟩
          have b7 := b6.trans (bb.mono b6.size)
          clear bb b6
          go_wp2_with fail
          refine (colorRuns_any _ (HT.out.keep b7)).mono ?_
          rintro e w8 ⟨rfl, bb⟩
          have b8 := b7.trans (bb.mono b7.size)
          clear bb b7
          go_wp2_with fail
          go_ret
          exact ⟨rfl, b8⟩
theorem kcol_or (n : Int) : C.kcol n = -1 ∨ CO.has (C.kcol n) = true := by
  by_cases h : C.kcol n = -1
  · exact .inl h
  · exact .inr (kcol_has h)
theorem colorNear_any (a b c n : Int) (w : World) (ha : (Lit.int .i64 a).wf = true) (hb : (Lit.int .i64 b).wf = true) (hc : (Lit.int .i64 c).wf = true) (hn : (Lit.int .i64 n).wf = true) (ht : Tab w) :
    Calls Tryd.prog 5 #[.agg #[.int .i64 a, .int .i64 b, .int .i64 c], .int .i64 n] w fun e w' => e = .returned (.bool true) ∧ Below w.heap.size w w' := by
  have bn := bounds_i64 hn
  exact colorNear_t a b c n _ _ _ (1 + n % 256) w (pen_given ha hb hc) (hide (fun w' => within_is n 1 256 _ rfl w' bn.1 bn.2 (by omega) (by omega) (by omega))) (by omega) (by omega) (kcol_or a) ht
end Go.Proofs.YtgkjknjcklnngaaDoor
