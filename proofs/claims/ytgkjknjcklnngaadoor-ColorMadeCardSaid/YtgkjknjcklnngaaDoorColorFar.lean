/- Contracts of Far, Nearest and Lower, where the two tables are as the program lays them. -/
import Derived.Test.YtgkjknjcklnngaaDoorColorTab
namespace Go.Proofs.YtgkjknjcklnngaaDoor
open Go.RowKit
set_option linter.unusedVariables false
theorem far_none {a b : Int} (h : ¬ (CO.has a = true ∧ CO.has b = true)) : CO.far a b = 0 := by unfold CO.far; rw [if_neg h]
theorem far_some {a b x y z x' y' z' : Int} (h : CO.has a = true) (h' : CO.has b = true) (e : CO.rgb a = (x, y, z)) (e' : CO.rgb b = (x', y', z')) : CO.far a b = CO.sq (x - x') + CO.sq (y - y') + CO.sq (z - z') := by
  unfold CO.far
  rw [if_pos ⟨h, h'⟩, e, e']
  rfl
theorem square_is (n v : Int) (h : CO.sq n = v) (w : World) (h0 : -255 ≤ n) (h1 : n ≤ 255) : Calls Tryd.prog 22 #[.int .i64 n] w fun e w' => e = .returned (.int .i64 v) ∧ w = w' := by
  subst h
  exact square_any n w h0 h1
set_option maxHeartbeats 1000000 in
theorem far_any (a b : Int) (w : World) (ht : Tab w) : Calls Tryd.prog 18 #[.int .i64 a, .int .i64 b] w fun e w' => e = .returned (.int .i64 (CO.far a b)) ∧ Below w.heap.size w w' := by
  have ba := CO.rgb_bd a
  have bb := CO.rgb_bd b
  rcases ha : CO.has a with _ | _
  · rcases hp : CO.rgb a with ⟨x, y, z⟩
    rcases hq : CO.rgb b with ⟨x', y', z'⟩
    rcases hb : CO.has b with _ | _
    all_goals
      have E := hide (show CO.far a b = 0 from far_none (by rw [ha]; simp))
      have P := hide (fun w' ht => rgb_is a x y z _ hp ha w' ht)
      have Q := hide (fun w' ht => rgb_is b x' y' z' _ hq hb w' ht)
      have HT := hide ht
      clear hp hq hb ht ba bb
      go_enter Tryd.func18, Tryd.ntmps18
      go_wp2_with fail
      refine (P.out _ HT.out).mono ?_
      rintro e w1 ⟨rfl, b1⟩
      go_wp2_with fail
      refine (Q.out _ (HT.out.keep b1)).mono ?_
      rintro e w2 ⟨rfl, b2⟩
      go_wp2_with fail
      go_ret
      exact ⟨c_int E.out.symm, b1.trans (b2.mono b1.size)⟩
  · rcases hb : CO.has b with _ | _
    · rcases hp : CO.rgb a with ⟨x, y, z⟩
      rcases hq : CO.rgb b with ⟨x', y', z'⟩
      have E := hide (show CO.far a b = 0 from far_none (by rw [hb]; simp))
      have P := hide (fun w' ht => rgb_is a x y z _ hp ha w' ht)
      have Q := hide (fun w' ht => rgb_is b x' y' z' _ hq hb w' ht)
      have HT := hide ht
      clear hp hq hb ht ba bb
      go_enter Tryd.func18, Tryd.ntmps18
      go_wp2_with fail
      refine (P.out _ HT.out).mono ?_
      rintro e w1 ⟨rfl, b1⟩
      go_wp2_with fail
      refine (Q.out _ (HT.out.keep b1)).mono ?_
      rintro e w2 ⟨rfl, b2⟩
      go_wp2_with fail
      go_ret
      exact ⟨c_int E.out.symm, b1.trans (b2.mono b1.size)⟩
    · rcases hp : CO.rgb a with ⟨x, y, z⟩
      rcases hq : CO.rgb b with ⟨x', y', z'⟩
      rw [hp] at ba
      rw [hq] at bb
      simp only at ba bb
      obtain ⟨⟨x0, x1⟩, ⟨y0, y1⟩, z0, z1⟩ := ba
      obtain ⟨⟨p0, p1⟩, ⟨q0, q1⟩, r0, r1⟩ := bb
      have e := far_some ha hb hp hq
      have s1 := fun v h w' => square_is (x - x') v h w' (by omega) (by omega)
      have s2 := fun v h w' => square_is (y - y') v h w' (by omega) (by omega)
      have s3 := fun v h w' => square_is (z - z') v h w' (by omega) (by omega)
      have l1 := CO.sq_bd (x := x - x') (by omega) (by omega)
      have l2 := CO.sq_bd (x := y - y') (by omega) (by omega)
      have l3 := CO.sq_bd (x := z - z') (by omega) (by omega)
      have n1 := CO.sq_nonneg (x - x')
      have n2 := CO.sq_nonneg (y - y')
      have n3 := CO.sq_nonneg (z - z')
      have S1 := hide (fun w' => s1 _ rfl w')
      have S2 := hide (fun w' => s2 _ rfl w')
      have S3 := hide (fun w' => s3 _ rfl w')
      have P := hide (fun w' ht => rgb_is a x y z _ hp ha w' ht)
      have Q := hide (fun w' ht => rgb_is b x' y' z' _ hq hb w' ht)
      clear s1 s2 s3 hp hq ha hb
      generalize CO.sq (x - x') = t1 at *
      generalize CO.sq (y - y') = t2 at *
      generalize CO.sq (z - z') = t3 at *
      have E := hide e
      have HT := hide ht
      clear ht e
      go_enter Tryd.func18, Tryd.ntmps18
      go_wp2_with fail
      refine (P.out _ HT.out).mono ?_
      rintro e w1 ⟨rfl, b1⟩
      go_wp2_with fail
      refine (Q.out _ (HT.out.keep b1)).mono ?_
      rintro e w2 ⟨rfl, b2⟩
      go_wp2_with fail
      refine (S1.out _).mono ?_
      rintro e w' ⟨rfl, rfl⟩
      go_wp2_with fail
      refine (S2.out _).mono ?_
      rintro e w' ⟨rfl, rfl⟩
      go_wp2_with fail
      refine (S3.out _).mono ?_
      rintro e w' ⟨rfl, rfl⟩
      go_wp2_with fail
      go_ret
      exact ⟨c_int E.out.symm, b1.trans (b2.mono b1.size)⟩
theorem far_is (a b v : Int) (h : CO.far a b = v) (w : World) (ht : Tab w) : Calls Tryd.prog 18 #[.int .i64 a, .int .i64 b] w fun e w' => e = .returned (.int .i64 v) ∧ Below w.heap.size w w' := by
  subst h
  exact far_any a b w ht
theorem near_none {c n : Int} (h : ¬ (CO.has c = true ∧ 1 ≤ n ∧ n ≤ 256)) : CO.near c n = -1 := by unfold CO.near; rw [if_neg h]
theorem near_some {c : Int} {n : Nat} (hc : CO.has c = true) (h : 1 ≤ n) (h1 : n ≤ 256) : CO.near c (n : Int) = (CO.look c n).1 := by
  unfold CO.near
  rw [if_pos ⟨hc, by omega, by omega⟩, Int.toNat_natCast]
theorem look_one (c : Int) : CO.look c 1 = (0, CO.far c 0) := by
  unfold CO.look
  rw [if_pos (.inl rfl)]
  rfl
theorem look_next {c b l f : Int} {k : Nat} (h : CO.look c k = (b, l)) (hk : 1 ≤ k) (hf : CO.far c (k : Int) = f) : CO.look c (k + 1) = if f < l then ((k : Int), f) else (b, l) := by
  show (if k = 0 ∨ CO.far c (k : Int) < (CO.look c k).2 then ((k : Int), CO.far c (k : Int)) else CO.look c k) = _
  rw [h, hf]
  by_cases hl : f < l
  · rw [if_pos (.inr hl), if_pos hl]
  · rw [if_neg (by rintro (h | h); omega; exact hl h), if_neg hl]
set_option maxHeartbeats 1000000 in
theorem nearest_any (c n : Int) (w : World) (ht : Tab w) : Calls Tryd.prog 10 #[.int .i64 c, .int .i64 n] w fun e w' => e = .returned (.int .i64 (CO.near c n)) ∧ Below w.heap.size w w' := by
  rcases hp : CO.rgb c with ⟨x, y, z⟩
  rcases hh : CO.has c with _ | _
  · have E := hide (show CO.near c n = -1 from near_none (by rw [hh]; simp))
    have P := hide (fun w' ht => rgb_is c x y z _ hp hh w' ht)
    have HT := hide ht
    clear hp ht
    go_enter Tryd.func10, Tryd.ntmps10
    go_wp2_with fail
    refine (P.out _ HT.out).mono ?_
    rintro e w1 ⟨rfl, b1⟩
    go_wp2_with fail
    go_ret
    exact ⟨c_int E.out.symm, b1⟩
  · obtain hn | hn | hn : n < 1 ∨ 256 < n ∨ (1 ≤ n ∧ n ≤ 256) := by omega
    · have E := hide (show CO.near c n = -1 from near_none (by omega))
      have P := hide (fun w' ht => rgb_is c x y z _ hp hh w' ht)
      have HT := hide ht
      clear hp ht
      go_enter Tryd.func10, Tryd.ntmps10
      go_wp2_with fail
      refine (P.out _ HT.out).mono ?_
      rintro e w1 ⟨rfl, b1⟩
      go_wp2_with fail
      go_ret
      exact ⟨c_int E.out.symm, b1⟩
    · have E := hide (show CO.near c n = -1 from near_none (by omega))
      have P := hide (fun w' ht => rgb_is c x y z _ hp hh w' ht)
      have HT := hide ht
      clear hp ht
      go_enter Tryd.func10, Tryd.ntmps10
      go_wp2_with fail
      refine (P.out _ HT.out).mono ?_
      rintro e w1 ⟨rfl, b1⟩
      go_wp2_with fail
      go_ret
      exact ⟨c_int E.out.symm, b1⟩
    · obtain ⟨m, rfl⟩ := Int.eq_ofNat_of_zero_le (a := n) (by omega)
      have m0 : 1 ≤ m := by omega
      have m1 : m ≤ 256 := by omega
      have E := hide (near_some hh m0 m1)
      have P := hide (fun w' ht => rgb_is c x y z _ hp hh w' ht)
      have L1 := hide (look_one c)
      have F := hide (fun i w' ht => far_any c i w' ht)
      have HT := hide ht
      clear hp ht
      go_enter Tryd.func10, Tryd.ntmps10
      go_wp2_with fail
      refine (P.out _ HT.out).mono ?_
      rintro e w1 ⟨rfl, b1⟩
      go_wp2_with fail
      generalize hf : CO.far c 0 = f0 at L1
      have F0 := hide (fun w' ht => far_is c 0 f0 hf w' ht)
      clear hf
      refine (F0.out _ (HT.out.keep b1)).mono ?_
      rintro e w2 ⟨rfl, b2⟩
      have b2 := b1.trans (b2.mono b1.size)
      clear b1
      go_wp2_with fail
      go_loopw [9, 10, 11] (fun b l i wr => ∃ (k : Nat) (bv lv : Int), 1 ≤ k ∧ k ≤ m ∧ b = .int .i64 bv ∧ l = .int .i64 lv ∧ i = .int .i64 k ∧ CO.look c k = (bv, lv) ∧ Below w.heap.size w wr)
        (fun _ _ i _ => m - (intOf i).toNat)
      case atStart => exact ⟨1, 0, f0, by omega, m0, rfl, rfl, rfl, L1.out, b2⟩
      case round =>
        obtain ⟨k, bv, lv, k0, hk, rfl, rfl, rfl, hl, hb⟩ := hrel
        have HL := hide hl
        clear hl
        by_cases hlt : k < m
        · generalize hf : CO.far c (k : Int) = f
          have FK := hide (fun w' ht => far_is c k f hf w' ht)
          have NX := hide (look_next HL.out k0 hf)
          clear hf
          go_wp2_with fail
          refine (FK.out _ (HT.out.keep hb)).mono ?_
          rintro e w3 ⟨rfl, b3⟩
          have b3 := hb.trans (b3.mono hb.size)
          by_cases hlf : f < lv
          · go_wp2_with fail
            go_roundw
            case rel => exact ⟨k + 1, k, f, by omega, by omega, rfl, rfl, by go_num, by rw [NX.out, if_pos hlf], b3⟩
            case measure => simp [intOf]; omega
          · go_wp2_with fail
            go_roundw
            case rel => exact ⟨k + 1, bv, lv, by omega, by omega, rfl, rfl, by go_num, by rw [NX.out, if_neg (by omega)], b3⟩
            case measure => simp [intOf]; omega
        · obtain rfl : k = m := by omega
          go_wp2_with fail
          go_ret
          exact ⟨c_int (by rw [E.out, HL.out]), hb⟩
theorem nearest_is (c n v : Int) (h : CO.near c n = v) (w : World) (ht : Tab w) : Calls Tryd.prog 10 #[.int .i64 c, .int .i64 n] w fun e w' => e = .returned (.int .i64 v) ∧ Below w.heap.size w w' := by
  subst h
  exact nearest_any c n w ht
theorem lower_low {c n : Int} (h : n < 1) : CO.lower c n = -1 := by unfold CO.lower; rw [if_pos h]
theorem lower_own {c n : Int} (h : ¬ n < 1) (h1 : c < n) : CO.lower c n = c := by
  unfold CO.lower
  rw [if_neg h]
  by_cases k : c < 0
  · rw [if_pos k]
  · rw [if_neg k, if_pos h1]
theorem lower_near {c n : Int} (h : ¬ n < 1) (h1 : ¬ c < n) : CO.lower c n = CO.near c n := by
  unfold CO.lower
  rw [if_neg h, if_neg (by omega), if_neg h1]
set_option maxHeartbeats 1000000 in
theorem lower_any (c n : Int) (w : World) (ht : Tab w) : Calls Tryd.prog 11 #[.int .i64 c, .int .i64 n] w fun e w' => e = .returned (.int .i64 (CO.lower c n)) ∧ Below w.heap.size w w' := by
  by_cases h0 : n < 1
  · have E := hide (lower_low (c := c) h0)
    go_enter Tryd.func11, Tryd.ntmps11
    go_wp2_with fail
    go_ret
    exact ⟨c_int E.out.symm, Below.refl _ _⟩
  by_cases h1 : c < n
  · have E := hide (lower_own h0 h1)
    go_enter Tryd.func11, Tryd.ntmps11
    go_wp2_with fail
    go_ret
    exact ⟨c_int E.out.symm, Below.refl _ _⟩
  · have E := hide (lower_near h0 h1)
    have P := hide (nearest_any c n w ht)
    go_enter Tryd.func11, Tryd.ntmps11
    go_wp2_with fail
    refine P.out.mono ?_
    rintro e w1 ⟨rfl, b1⟩
    go_wp2_with fail
    go_ret
    exact ⟨c_int E.out.symm, b1⟩
theorem lower_is (c n v : Int) (h : CO.lower c n = v) (w : World) (ht : Tab w) : Calls Tryd.prog 11 #[.int .i64 c, .int .i64 n] w fun e w' => e = .returned (.int .i64 v) ∧ Below w.heap.size w w' := by
  subst h
  exact lower_any c n w ht
end Go.Proofs.YtgkjknjcklnngaaDoor
