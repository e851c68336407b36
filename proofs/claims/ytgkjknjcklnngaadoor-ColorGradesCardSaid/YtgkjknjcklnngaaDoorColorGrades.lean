/- ColorGrades: among more colours the nearest is no further; each of the first ones is its own nearest, but for those of the same parts; black and white. -/
import Derived.Test.YtgkjknjcklnngaaDoorColorNear
namespace Go.Proofs.YtgkjknjcklnngaaDoor
open Go.RowKit
set_option linter.unusedVariables false
theorem mk_black : CO.mk 0 0 0 = 16777216 := by decide
theorem mk_white : CO.mk 255 255 255 = 33554431 := by decide
theorem white16 : CO.near 33554431 16 = 15 := by decide +kernel
theorem white8 : CO.near 33554431 8 = 7 := by decide +kernel
theorem far_black : CO.far 16777216 0 = 0 := by decide
theorem black_near {n : Int} (h0 : 1 ≤ n) (h1 : n ≤ 256) : CO.near 16777216 n = 0 :=
  CO.near_only rfl h0 h1 (Int.le_refl 0) (by omega) (fun i _ _ => by rw [far_black]; exact CO.far_nonneg _ _) (fun i i0 i1 => by omega)
/-- among more colours the nearest is no further -/
theorem near_more {c lo hi : Int} (hc : CO.has c = true) (h0 : 1 ≤ lo) (h1 : lo ≤ hi) (h2 : hi ≤ 256) : CO.far c (CO.near c hi) ≤ CO.far c (CO.near c lo) := by
  obtain ⟨a, b, _, _⟩ := CO.near_best hc h0 (by omega)
  obtain ⟨_, _, d, _⟩ := CO.near_best hc (n := hi) (by omega) h2
  exact d _ a (by omega)
/-- a colour of the first ones looks as its nearest, which is no later -/
theorem near_own {k lo : Int} (h0 : 0 ≤ k) (h1 : k < lo) (h2 : lo ≤ 255) : CO.near k lo ≤ k ∧ CO.far (CO.near k lo) k = 0 := by
  have hk : CO.has k = true := CO.has_iff.2 (.inl ⟨h0, by omega⟩)
  obtain ⟨a, b, d, e⟩ := CO.near_best hk (n := lo) (by omega) (by omega)
  have s := CO.far_self k
  have p := CO.far_nonneg k (CO.near k lo)
  have q := d k h0 h1
  refine ⟨?_, by rw [CO.far_comm]; omega⟩
  rcases Int.lt_or_le k (CO.near k lo) with h | h
  · have := e k h0 h
    omega
  · exact h
set_option maxRecDepth 100000 in
set_option maxHeartbeats 4000000 in
theorem colorGrades_t (a0 a1 a2 n m pf pb pg lo hi k : Int) (w : World) (PC : Hid (∀ w, Calls Tryd.prog 17 #[.agg #[.int .i64 a0, .int .i64 a1, .int .i64 a2]] w fun e w' => e = .returned (.agg #[.int .i64 pf, .int .i64 pb, .int .i64 pg]) ∧ Below w.heap.size w w'))
    (LW : Hid (∀ w, Calls Tryd.prog 14 #[.int .i64 n, .int .i64 1, .int .i64 255] w fun e w' => e = .returned (.int .i64 lo) ∧ w = w')) (HW : Hid (∀ w, Calls Tryd.prog 14 #[.int .i64 m, .int .i64 lo, .int .i64 256] w fun e w' => e = .returned (.int .i64 hi) ∧ w = w'))
    (KW : Hid (∀ w, Calls Tryd.prog 14 #[.int .i64 n, .int .i64 0, .int .i64 (lo - 1)] w fun e w' => e = .returned (.int .i64 k) ∧ w = w'))
    (h0 : 1 ≤ lo) (h1 : lo ≤ hi) (h2 : hi ≤ 256) (h3 : lo ≤ 255) (k0 : 0 ≤ k) (k1 : k < lo) (hp : pf = -1 ∨ CO.has pf = true) (ht : Tab w) :
    Calls Tryd.prog 8 #[.agg #[.int .i64 a0, .int .i64 a1, .int .i64 a2], .int .i64 n, .int .i64 m] w fun e w' => e = .returned (.bool true) ∧ Below w.heap.size w w' := by
  have HT := hide ht
  clear ht
  have fl := pen_fore
  rcases hp with rfl | hp
  · have N := hide (fun w' ht => nearest_is (-1) hi (-1) (near_m1 hi) w' ht)
    go_enter Tryd.func8, Tryd.ntmps8
    go_wp2_with fail
    refine (PC.out _).mono ?_
    rintro e w1 ⟨rfl, bb⟩
    have b1 : Below w.heap.size w w1 := ((Below.refl _ _).alloc (Nat.le_refl _) _).trans (bb.mono (by simp))
    clear bb
    go_wp2_with fail
    refine (LW.out _).mono ?_
    rintro e w' ⟨rfl, rfl⟩
    go_wp2_with fail
    refine (HW.out _).mono ?_
    rintro e w' ⟨rfl, rfl⟩
    go_wp2_with fail
    refine (N.out _ (HT.out.keep b1)).mono ?_
    rintro e w2 ⟨rfl, bb⟩
    have b2 := b1.trans (bb.mono b1.size)
    clear bb b1
    go_wp2_with fail
    refine (colorRuns_any _ (HT.out.keep b2)).mono ?_
    rintro e w3 ⟨rfl, bb⟩
    have b3 := b2.trans (bb.mono b2.size)
    clear bb b2
    go_wp2_with fail
    go_ret
    exact ⟨rfl, b3⟩
  · have n1 : (pf == -1) = false := by have := has_pos hp; simp; omega
    have more := near_more hp h0 h1 h2
    have own := near_own k0 k1 h3
    obtain ⟨x, hx⟩ : ∃ x, CO.near pf lo = x := ⟨_, rfl⟩
    obtain ⟨y, hy⟩ : ∃ y, CO.near pf hi = y := ⟨_, rfl⟩
    obtain ⟨o, ho⟩ : ∃ o, CO.near k lo = o := ⟨_, rfl⟩
    rw [hx, hy] at more
    rw [ho] at own
    obtain ⟨fx, hfx⟩ : ∃ f, CO.far pf x = f := ⟨_, rfl⟩
    obtain ⟨fy, hfy⟩ : ∃ f, CO.far pf y = f := ⟨_, rfl⟩
    rw [hfx, hfy] at more
    obtain ⟨own1, own2⟩ := own
    have NX := hide (fun w' ht => nearest_is pf lo x hx w' ht)
    have NY := hide (fun w' ht => nearest_is pf hi y hy w' ht)
    have NO := hide (fun w' ht => nearest_is k lo o ho w' ht)
    have NB := hide (fun w' ht => nearest_is 16777216 hi 0 (black_near (by omega) h2) w' ht)
    have FX := hide (fun w' ht => far_is pf x fx hfx w' ht)
    have FY := hide (fun w' ht => far_is pf y fy hfy w' ht)
    have FO := hide (fun w' ht => far_is o k 0 own2 w' ht)
    clear hx hy ho hfx hfy own2 hp
    go_enter Tryd.func8, Tryd.ntmps8
    go_wp2_with fail
    refine (PC.out _).mono ?_
    rintro e w1 ⟨rfl, bb⟩
    have b1 : Below w.heap.size w w1 := ((Below.refl _ _).alloc (Nat.le_refl _) _).trans (bb.mono (by simp))
    clear bb
    go_wp2_with fail
    refine (LW.out _).mono ?_
    rintro e w' ⟨rfl, rfl⟩
    go_wp2_with fail
    refine (HW.out _).mono ?_
    rintro e w' ⟨rfl, rfl⟩
    go_wp2_with fail
    refine (NX.out _ (HT.out.keep b1)).mono ?_
    rintro e w2 ⟨rfl, bb⟩
    have b2 := b1.trans (bb.mono b1.size)
    clear bb b1
    go_wp2_with fail
    refine (NY.out _ (HT.out.keep b2)).mono ?_
    rintro e w3 ⟨rfl, bb⟩
    have b3 := b2.trans (bb.mono b2.size)
    clear bb b2
    go_wp2_with fail
    refine (KW.out _).mono ?_
    rintro e w' ⟨rfl, rfl⟩
    go_wp2_with fail
    refine (NO.out _ (HT.out.keep b3)).mono ?_
    rintro e w4 ⟨rfl, bb⟩
    have b4 := b3.trans (bb.mono b3.size)
    clear bb b3
    go_wp2_with fail
    refine (FY.out _ (HT.out.keep b4)).mono ?_
    rintro e w5 ⟨rfl, bb⟩
    have b5 := b4.trans (bb.mono b4.size)
    clear bb b4
    go_wp2_with fail
    refine (FX.out _ (HT.out.keep b5)).mono ?_
    rintro e w6 ⟨rfl, bb⟩
    have b6 := b5.trans (bb.mono b5.size)
    clear bb b5
    go_wp2_with fail
    refine (FO.out _ (HT.out.keep b6)).mono ?_
    rintro e w7 ⟨rfl, bb⟩
    have b7 := b6.trans (bb.mono b6.size)
    clear bb b6
    go_wp2_with fail
    refine (of_is 0 0 0 _ mk_black _).mono ?_
    rintro e w' ⟨rfl, rfl⟩
    go_wp2_with fail
    refine (NB.out _ (HT.out.keep b7)).mono ?_
    rintro e w8 ⟨rfl, bb⟩
    have b8 := b7.trans (bb.mono b7.size)
    clear bb b7
    go_wp2_with fail
    refine (of_is 255 255 255 _ mk_white _).mono ?_
    rintro e w' ⟨rfl, rfl⟩
    go_wp2_with fail
    refine (nearest_is _ _ _ white16 _ (HT.out.keep b8)).mono ?_
    rintro e w9 ⟨rfl, bb⟩
    have b9 := b8.trans (bb.mono b8.size)
    clear bb b8
    go_wp2_with fail
    refine (of_is 255 255 255 _ mk_white _).mono ?_
    rintro e w' ⟨rfl, rfl⟩
    go_wp2_with fail
    refine (nearest_is _ _ _ white8 _ (HT.out.keep b9)).mono ?_
    rintro e w10 ⟨rfl, bb⟩
    have b10 := b9.trans (bb.mono b9.size)
    clear bb b9
    go_wp2_with fail
    refine (colorRuns_any _ (HT.out.keep b10)).mono ?_
    rintro e w11 ⟨rfl, bb⟩
    have b11 := b10.trans (bb.mono b10.size)
    clear bb b10
    go_wp2_with fail
    go_ret
    exact ⟨rfl, b11⟩
theorem colorGrades_any (a0 a1 a2 n m : Int) (w : World) (ha0 : (Lit.int .i64 a0).wf = true) (ha1 : (Lit.int .i64 a1).wf = true) (ha2 : (Lit.int .i64 a2).wf = true) (hn : (Lit.int .i64 n).wf = true) (hm : (Lit.int .i64 m).wf = true) (ht : Tab w) :
    Calls Tryd.prog 8 #[.agg #[.int .i64 a0, .int .i64 a1, .int .i64 a2], .int .i64 n, .int .i64 m] w fun e w' => e = .returned (.bool true) ∧ Below w.heap.size w w' := by
  have bn := bounds_i64 hn
  have bm := bounds_i64 hm
  obtain ⟨lo, hlo, l0, l1⟩ : ∃ lo, 1 + n % (255 - 1 + 1) = lo ∧ 1 ≤ lo ∧ lo ≤ 255 := ⟨_, rfl, by omega, by omega⟩
  have e1 := Int.emod_nonneg m (b := 256 - lo + 1) (by omega)
  have e2 := Int.emod_lt_of_pos m (b := 256 - lo + 1) (by omega)
  have e3 := Int.emod_nonneg n (b := lo - 1 - 0 + 1) (by omega)
  have e4 := Int.emod_lt_of_pos n (b := lo - 1 - 0 + 1) (by omega)
  exact colorGrades_t a0 a1 a2 n m _ _ _ lo (lo + m % (256 - lo + 1)) (0 + n % (lo - 1 - 0 + 1)) w (pen_given ha0 ha1 ha2) (hide (fun w' => within_is n 1 255 lo hlo w' bn.1 bn.2 (by omega) (by omega) (by omega)))
    (hide (fun w' => within_is m lo 256 _ rfl w' bm.1 bm.2 (by omega) (by omega) (by omega))) (hide (fun w' => within_is n 0 (lo - 1) _ rfl w' bn.1 bn.2 (by omega) (by omega) (by omega))) l0 (by omega) (by omega) l1 (by omega) (by omega) (kcol_or a0) ht
end Go.Proofs.YtgkjknjcklnngaaDoor
