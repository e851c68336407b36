/- The contracts of the document's own Nearest and Lower (P3.2, P3.3). -/
import Derived.Test.YtgkjknjcklnngaaDoorRefColor
namespace Go.Proofs.YtgkjknjcklnngaaDoor
open Go.RowKit
set_option linter.unusedVariables false
theorem has_low {k : Nat} (h : k < 256) : CO.has (k : Int) = true := CO.has_iff.2 (.inl ⟨by omega, by omega⟩)
theorem look_zero (c : Int) : CO.look c 0 = (0, 0) := rfl
theorem look_first {c f : Int} (hf : CO.far c 0 = f) : CO.look c 1 = (0, f) := by rw [look_one, hf]
set_option maxHeartbeats 2000000 in
theorem refNearest_any (c n : Int) (w : World) : Calls Tryd.prog 15 #[.int .i64 c, .int .i64 n] w fun e w' => e = .returned (.int .i64 (CO.near c n)) ∧ Below w.heap.size w w' := by
  rcases hp : CO.rgb c with ⟨x, y, z⟩
  rcases hh : CO.has c with _ | _
  · have E := hide (show CO.near c n = -1 from near_none (by rw [hh]; simp))
    have P := hide (fun w' => refRgb_is c x y z _ hp hh w')
    clear hp
    go_enter Tryd.func15, Tryd.ntmps15
    go_wp2_with fail
    refine (P.out _).mono ?_
    rintro e w1 ⟨rfl, b1⟩
    go_wp2_with fail
    go_ret
    exact ⟨c_int E.out.symm, b1⟩
  · obtain hn | hn | hn : n < 1 ∨ 256 < n ∨ (1 ≤ n ∧ n ≤ 256) := by omega
    · have E := hide (show CO.near c n = -1 from near_none (by omega))
      have P := hide (fun w' => refRgb_is c x y z _ hp hh w')
      clear hp
      go_enter Tryd.func15, Tryd.ntmps15
      go_wp2_with fail
      refine (P.out _).mono ?_
      rintro e w1 ⟨rfl, b1⟩
      go_wp2_with fail
      go_ret
      exact ⟨c_int E.out.symm, b1⟩
    · have E := hide (show CO.near c n = -1 from near_none (by omega))
      have P := hide (fun w' => refRgb_is c x y z _ hp hh w')
      clear hp
      go_enter Tryd.func15, Tryd.ntmps15
      go_wp2_with fail
      refine (P.out _).mono ?_
      rintro e w1 ⟨rfl, b1⟩
      go_wp2_with fail
      go_ret
      exact ⟨c_int E.out.symm, b1⟩
    · obtain ⟨m, rfl⟩ := Int.eq_ofNat_of_zero_le (a := n) (by omega)
      have m0 : 1 ≤ m := by omega
      have m1 : m ≤ 256 := by omega
      have E := hide (near_some hh m0 m1)
      have P := hide (fun w' => refRgb_is c x y z _ hp hh w')
      have bc := CO.rgb_bd c
      rw [hp] at bc
      simp only at bc
      obtain ⟨⟨x0, x1⟩, ⟨y0, y1⟩, z0, z1⟩ := bc
      have HP := hide hp
      have HH := hide hh
      clear hp hh
      go_enter Tryd.func15, Tryd.ntmps15
      go_wp2_with fail
      refine (P.out _).mono ?_
      rintro e w1 ⟨rfl, b1⟩
      go_wp2_with fail
      go_loopw [9, 10, 35] (fun b l i wr => ∃ (k : Nat) (bv lv : Int), k ≤ m ∧ b = .int .i64 bv ∧ l = .int .i64 lv ∧ i = .int .i64 k ∧ CO.look c k = (bv, lv) ∧ Below w.heap.size w wr)
        (fun _ _ i _ => m - (intOf i).toNat)
      case atStart => exact ⟨0, 0, 0, by omega, rfl, rfl, rfl, rfl, b1⟩
      case round =>
        obtain ⟨k, bv, lv, hk, rfl, rfl, rfl, hl, hb⟩ := hrel
        have HL := hide hl
        clear hl
        by_cases hlt : k < m
        · rcases hq : CO.rgb (k : Int) with ⟨x', y', z'⟩
          have hk2 := has_low (k := k) (by omega)
          have bk := CO.rgb_bd (k : Int)
          rw [hq] at bk
          simp only at bk
          obtain ⟨⟨p0, p1⟩, ⟨q0, q1⟩, r0, r1⟩ := bk
          have e := far_some HH.out hk2 HP.out hq
          have l1 : (x - x') * (x - x') ≤ 65025 := CO.sq_bd (x := x - x') (by omega) (by omega)
          have l2 : (y - y') * (y - y') ≤ 65025 := CO.sq_bd (x := y - y') (by omega) (by omega)
          have l3 : (z - z') * (z - z') ≤ 65025 := CO.sq_bd (x := z - z') (by omega) (by omega)
          have n1 : 0 ≤ (x - x') * (x - x') := CO.sq_nonneg (x - x')
          have n2 : 0 ≤ (y - y') * (y - y') := CO.sq_nonneg (y - y')
          have n3 : 0 ≤ (z - z') * (z - z') := CO.sq_nonneg (z - z')
          unfold CO.sq at e
          have Q := hide (fun w' => refRgb_is (k : Int) x' y' z' _ hq hk2 w')
          have EF := hide e
          clear hq hk2 e
          obtain rfl | k1 : k = 0 ∨ 1 ≤ k := by omega
          · have HB := hide hb
            clear hb
            go_wp2_with fail
            refine (Q.out _).mono ?_
            rintro e w3 ⟨rfl, b3⟩
            have b3 := HB.out.trans (b3.mono HB.out.size)
            go_wp2_with fail
            go_roundw
            case rel => exact ⟨1, 0, (x - x') * (x - x') + (y - y') * (y - y') + (z - z') * (z - z'), by omega, rfl, rfl, by go_num, look_first EF.out, b3⟩
            case measure => simp [intOf]; omega
          · have ne : ((k : Int) == 0) = false := by simp; omega
            have NX := hide (look_next HL.out k1 EF.out)
            go_wp2_with fail
            refine (Q.out _).mono ?_
            rintro e w3 ⟨rfl, b3⟩
            have b3 := hb.trans (b3.mono hb.size)
            by_cases hlf : (x - x') * (x - x') + (y - y') * (y - y') + (z - z') * (z - z') < lv
            · go_wp2_with fail
              go_roundw
              case rel => exact ⟨k + 1, k, (x - x') * (x - x') + (y - y') * (y - y') + (z - z') * (z - z'), by omega, rfl, rfl, by go_num, by rw [NX.out, if_pos (by omega)], b3⟩
              case measure => simp [intOf]; omega
            · go_wp2_with fail
              go_roundw
              case rel => exact ⟨k + 1, bv, lv, by omega, rfl, rfl, by go_num, by rw [NX.out, if_neg (by omega)], b3⟩
              case measure => simp [intOf]; omega
        · obtain rfl : k = m := by omega
          go_wp2_with fail
          go_ret
          exact ⟨c_int (by rw [E.out, HL.out]), hb⟩
theorem refNearest_is (c n v : Int) (h : CO.near c n = v) (w : World) : Calls Tryd.prog 15 #[.int .i64 c, .int .i64 n] w fun e w' => e = .returned (.int .i64 v) ∧ Below w.heap.size w w' := by
  subst h
  exact refNearest_any c n w
set_option maxHeartbeats 1000000 in
theorem refLower_any (c n : Int) (w : World) : Calls Tryd.prog 16 #[.int .i64 c, .int .i64 n] w fun e w' => e = .returned (.int .i64 (CO.lower c n)) ∧ Below w.heap.size w w' := by
  by_cases h0 : n < 1
  · have E := hide (lower_low (c := c) h0)
    by_cases hc : c < 0
    all_goals
      go_enter Tryd.func16, Tryd.ntmps16
      go_wp2_with fail
      go_ret
      exact ⟨c_int E.out.symm, Below.refl _ _⟩
  by_cases h1 : c < n
  · have E := hide (lower_own h0 h1)
    by_cases hc : c < 0
    all_goals
      go_enter Tryd.func16, Tryd.ntmps16
      go_wp2_with fail
      go_ret
      exact ⟨c_int E.out.symm, Below.refl _ _⟩
  · have E := hide (lower_near h0 h1)
    have P := hide (refNearest_any c n w)
    have hc : ¬ c < 0 := by omega
    go_enter Tryd.func16, Tryd.ntmps16
    go_wp2_with fail
    refine P.out.mono ?_
    rintro e w1 ⟨rfl, b1⟩
    go_wp2_with fail
    go_ret
    exact ⟨c_int E.out.symm, b1⟩
theorem refLower_is (c n v : Int) (h : CO.lower c n = v) (w : World) : Calls Tryd.prog 16 #[.int .i64 c, .int .i64 n] w fun e w' => e = .returned (.int .i64 v) ∧ Below w.heap.size w w' := by
  subst h
  exact refLower_any c n w
end Go.Proofs.YtgkjknjcklnngaaDoor
