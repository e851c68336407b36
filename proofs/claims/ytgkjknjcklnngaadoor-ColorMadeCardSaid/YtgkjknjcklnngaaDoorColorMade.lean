/- ColorMade: a direct colour has the parts it was made of; greys rise; each of the cube's six steps. -/
import Derived.Test.YtgkjknjcklnngaaDoorColorRuns
import Derived.Test.YtgkjknjcklnngaaDoorRefColor
import Derived.Test.YtgkjknjcklnngaaDoorKeepPen
namespace Go.Proofs.YtgkjknjcklnngaaDoor
open Go.RowKit
set_option linter.unusedVariables false
theorem cut_in {x : Int} (h : 0 ≤ x ∧ x ≤ 255) : CO.cut x = x := by
  unfold CO.cut
  rw [if_neg (by omega), if_neg (by omega)]
theorem made_a : CO.mk (-5) 300 7 = 16842503 := by decide
theorem made_b : CO.mk 0 255 7 = 16842503 := by decide
theorem cube_is {i j k : Int} (hi : 0 ≤ i ∧ i < 6) (hj : 0 ≤ j ∧ j < 6) (hk : 0 ≤ k ∧ k < 6) : CO.rgb (16 + 36 * i + 6 * j + k) = (CO.stepAt i, CO.stepAt j, CO.stepAt k) ∧ CO.has (16 + 36 * i + 6 * j + k) = true := by
  refine ⟨?_, CO.has_iff.2 (.inl ⟨by omega, by omega⟩)⟩
  rw [rgb_cube (by omega) (by omega)]
  rw [show (16 + 36 * i + 6 * j + k - 16) / 36 = i by omega, show (16 + 36 * i + 6 * j + k - 16) / 6 % 6 = j by omega, show (16 + 36 * i + 6 * j + k - 16) % 6 = k by omega]
theorem grey_is {k : Int} (h : 232 ≤ k ∧ k ≤ 254) : ∃ v, (CO.rgb k = (v, v, v) ∧ CO.has k = true) ∧ (CO.rgb (k + 1) = (v + 10, v + 10, v + 10) ∧ CO.has (k + 1) = true) ∧ 8 ≤ v ∧ v ≤ 228 := by
  refine ⟨8 + 10 * (k - 232), ⟨rgb_grey (by omega) (by omega), CO.has_iff.2 (.inl ⟨by omega, by omega⟩)⟩, ⟨?_, CO.has_iff.2 (.inl ⟨by omega, by omega⟩)⟩, by omega, by omega⟩
  rw [rgb_grey (by omega) (by omega), show 8 + 10 * (k + 1 - 232) = 8 + 10 * (k - 232) + 10 by omega]
set_option maxRecDepth 100000 in
set_option maxHeartbeats 4000000 in
theorem colorMade_t (r g b n x y z k : Int) (w : World) (X : Hid (∀ w, Calls Tryd.prog 14 #[.int .i64 r, .int .i64 0, .int .i64 255] w fun e w' => e = .returned (.int .i64 x) ∧ w = w'))
    (Y : Hid (∀ w, Calls Tryd.prog 14 #[.int .i64 g, .int .i64 0, .int .i64 255] w fun e w' => e = .returned (.int .i64 y) ∧ w = w'))
    (Z : Hid (∀ w, Calls Tryd.prog 14 #[.int .i64 b, .int .i64 0, .int .i64 255] w fun e w' => e = .returned (.int .i64 z) ∧ w = w'))
    (KW : Hid (∀ w, Calls Tryd.prog 14 #[.int .i64 n, .int .i64 232, .int .i64 254] w fun e w' => e = .returned (.int .i64 k) ∧ w = w'))
    (hx : 0 ≤ x ∧ x ≤ 255) (hy : 0 ≤ y ∧ y ≤ 255) (hz : 0 ≤ z ∧ z ≤ 255) (hk : 232 ≤ k ∧ k ≤ 254) (ht : Tab w) :
    Calls Tryd.prog 6 #[.int .i64 r, .int .i64 g, .int .i64 b, .int .i64 n] w fun e w' => e = .returned (.bool true) ∧ Below w.heap.size w w' := by
  have HT := hide ht
  clear ht
  obtain ⟨d, hd⟩ : ∃ d, CO.mk x y z = d := ⟨_, rfl⟩
  have D := hide (fun w' => of_is x y z d hd w')
  have hdp : CO.rgb d = (x, y, z) := by rw [← hd, CO.rgb_mk, cut_in hx, cut_in hy, cut_in hz]
  have hdh : CO.has d = true := by rw [← hd]; exact CO.has_mk _ _ _
  have P := hide (fun w' ht => rgb_is d x y z true hdp hdh w' ht)
  obtain ⟨v, ⟨v1, v2⟩, ⟨v3, v4⟩, v5, v6⟩ := grey_is hk
  have LO := hide (fun w' ht => rgb_is k v v v true v1 v2 w' ht)
  have HI := hide (fun w' ht => rgb_is (k + 1) (v + 10) (v + 10) (v + 10) true v3 v4 w' ht)
  have ix : 0 ≤ x % 6 ∧ x % 6 < 6 := by omega
  have iy : 0 ≤ y % 6 ∧ y % 6 < 6 := by omega
  have iz : 0 ≤ z % 6 ∧ z % 6 < 6 := by omega
  obtain ⟨c1, c2⟩ := cube_is ix iy iz
  have SX := hide (fun w' t (h : Box w' t 3 stepCells) => refStep_at h ix)
  have SY := hide (fun w' t (h : Box w' t 3 stepCells) => refStep_at h iy)
  have SZ := hide (fun w' t (h : Box w' t 3 stepCells) => refStep_at h iz)
  generalize CO.stepAt (x % 6) = sx at c1 SX
  generalize CO.stepAt (y % 6) = sy at c1 SY
  generalize CO.stepAt (z % 6) = sz at c1 SZ
  have CU := hide (fun w' ht => rgb_is (16 + 36 * (x % 6) + 6 * (y % 6) + z % 6) sx sy sz true c1 c2 w' ht)
  clear hd hdp hdh v1 v2 v3 v4 c1 c2
  go_enter Tryd.func6, Tryd.ntmps6
  go_wp2_with fail
  refine (X.out _).mono ?_
  rintro e w' ⟨rfl, rfl⟩
  go_wp2_with fail
  refine (Y.out _).mono ?_
  rintro e w' ⟨rfl, rfl⟩
  go_wp2_with fail
  refine (Z.out _).mono ?_
  rintro e w' ⟨rfl, rfl⟩
  go_wp2_with fail
  refine (D.out _).mono ?_
  rintro e w' ⟨rfl, rfl⟩
  go_wp2_with fail
  refine (P.out _ HT.out).mono ?_
  rintro e w1 ⟨rfl, b1⟩
  go_wp2_with fail
  refine (KW.out _).mono ?_
  rintro e w' ⟨rfl, rfl⟩
  go_wp2_with fail
  refine (LO.out _ (HT.out.keep b1)).mono ?_
  rintro e w2 ⟨rfl, bb⟩
  have b2 := b1.trans (bb.mono b1.size)
  clear bb b1
  go_wp2_with fail
  refine (HI.out _ (HT.out.keep b2)).mono ?_
  rintro e w3 ⟨rfl, bb⟩
  have b3 := b2.trans (bb.mono b2.size)
  clear bb b2
  go_wp2_with fail
  refine (CU.out _ (HT.out.keep b3)).mono ?_
  rintro e w4 ⟨rfl, bb⟩
  have b4 := b3.trans (bb.mono b3.size)
  clear bb b3
  go_upto_region 8 with fail
  go_cut [30] from 82 to 82 (fun p wx => p = .slice (some ⟨w4.heap.size, 0, none⟩) 6 6 ∧ Box wx w4.heap.size 3 stepCells ∧ Below w.heap.size w wx)
  case first =>
    go_wp2_with fail
    go_meet
    exact ⟨rfl, Box.fresh rfl, b4.alloc b4.size _⟩
  case rest =>
    clear b4
    obtain ⟨rfl, hs, bel⟩ := hcut
    have s1 := SX.out _ _ hs
    have s2 := SY.out _ _ hs
    have s3 := SZ.out _ _ hs
    go_wp2_with fail
    refine (of_is (-5) 300 7 _ made_a _).mono ?_
    rintro e w' ⟨rfl, rfl⟩
    go_wp2_with fail
    refine (of_is 0 255 7 _ made_b _).mono ?_
    rintro e w' ⟨rfl, rfl⟩
    go_wp2_with fail
    refine (colorRuns_any _ (HT.out.keep bel)).mono ?_
    rintro e w5 ⟨rfl, bb⟩
    have b5 := bel.trans (bb.mono bel.size)
    clear bb bel
    go_wp2_with fail
    go_ret
    exact ⟨rfl, b5⟩
theorem colorMade_any (r g b n : Int) (w : World) (hr : (Lit.int .i64 r).wf = true) (hg : (Lit.int .i64 g).wf = true) (hb : (Lit.int .i64 b).wf = true) (hn : (Lit.int .i64 n).wf = true) (ht : Tab w) :
    Calls Tryd.prog 6 #[.int .i64 r, .int .i64 g, .int .i64 b, .int .i64 n] w fun e w' => e = .returned (.bool true) ∧ Below w.heap.size w w' := by
  have b1 := bounds_i64 hr
  have b2 := bounds_i64 hg
  have b3 := bounds_i64 hb
  have b4 := bounds_i64 hn
  exact colorMade_t r g b n (0 + r % 256) (0 + g % 256) (0 + b % 256) (232 + n % 23) w (hide (fun w' => within_is r 0 255 _ rfl w' b1.1 b1.2 (by omega) (by omega) (by omega))) (hide (fun w' => within_is g 0 255 _ rfl w' b2.1 b2.2 (by omega) (by omega) (by omega)))
    (hide (fun w' => within_is b 0 255 _ rfl w' b3.1 b3.2 (by omega) (by omega) (by omega))) (hide (fun w' => within_is n 232 254 _ rfl w' b4.1 b4.2 (by omega) (by omega) (by omega))) (by omega) (by omega) (by omega) (by omega) ht
end Go.Proofs.YtgkjknjcklnngaaDoor
