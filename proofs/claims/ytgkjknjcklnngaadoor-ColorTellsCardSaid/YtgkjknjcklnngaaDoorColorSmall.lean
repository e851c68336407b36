/- Package color's small functions: parts, square, cut, Of. -/
import Derived.Test.YtgkjknjcklnngaaDoorLib
import Derived.Test.YtgkjknjcklnngaaDoorEnds
import Derived.Test.YtgkjknjcklnngaaDoorBits
import Derived.Test.YtgkjknjcklnngaaDoorColorSpec
import Derived.Test.YtgkjknjcklnngaaDoorRows
import Derived.WalkSpells
import Derived.WalkLawsBesides
namespace Go.Proofs.YtgkjknjcklnngaaDoor
open Go.RowKit
set_option linter.unusedVariables false
set_option maxHeartbeats 400000 in
theorem square_any (n : Int) (w : World) (h0 : -255 ≤ n) (h1 : n ≤ 255) : Calls Tryd.prog 22 #[.int .i64 n] w fun e w' => e = .returned (.int .i64 (CO.sq n)) ∧ w = w' := by
  have hb : n * n ≤ 65025 := CO.sq_bd h0 h1
  have hn : 0 ≤ n * n := CO.sq_nonneg n
  go_enter Tryd.func22, Tryd.ntmps22
  go_wp2
  go_ret
  exact ⟨c_int rfl, rfl⟩
set_option maxHeartbeats 400000 in
theorem cut_any (n : Int) (w : World) : Calls Tryd.prog 19 #[.int .i64 n] w fun e w' => e = .returned (.int .i64 (CO.cut n)) ∧ w = w' := by
  have hr : ∀ x : Int, x = CO.cut n → Ending.returned (.int .i64 x) = .returned (.int .i64 (CO.cut n)) := fun x h => c_int h
  have HR := hide hr
  clear hr
  obtain h | h | h : n < 0 ∨ (0 ≤ n ∧ n ≤ 255) ∨ 255 < n := by omega
  · have e : 0 = CO.cut n := by unfold CO.cut; rw [if_pos h]
    have E := hide e
    clear e
    go_enter Tryd.func19, Tryd.ntmps19
    go_wp2
    go_ret
    exact ⟨HR.out _ E.out, rfl⟩
  · have e : n = CO.cut n := by unfold CO.cut; rw [if_neg (by omega), if_neg (by omega)]
    have E := hide e
    clear e
    go_enter Tryd.func19, Tryd.ntmps19
    go_wp2
    go_ret
    exact ⟨HR.out _ E.out, rfl⟩
  · have e : 255 = CO.cut n := by unfold CO.cut; rw [if_neg (by omega), if_pos h]
    have E := hide e
    clear e
    go_enter Tryd.func19, Tryd.ntmps19
    go_wp2
    go_ret
    exact ⟨HR.out _ E.out, rfl⟩
set_option maxHeartbeats 400000 in
theorem parts_any (n : Int) (w : World) (h0 : 0 ≤ n) (h1 : n < 33554432) : Calls Tryd.prog 20 #[.int .i64 n] w fun e w' => e = .returned (.tuple #[.int .i64 (n / 65536 % 256), .int .i64 (n / 256 % 256), .int .i64 (n % 256)]) ∧ w = w' := by
  go_enter Tryd.func20, Tryd.ntmps20
  go_wp2
  go_ret3
  exact ⟨c_val rfl, rfl⟩
theorem parts_is (n r g b : Int) (h : (n / 65536 % 256, n / 256 % 256, n % 256) = (r, g, b)) (w : World) (h0 : 0 ≤ n) (h1 : n < 33554432) : Calls Tryd.prog 20 #[.int .i64 n] w fun e w' => e = .returned (.tuple #[.int .i64 r, .int .i64 g, .int .i64 b]) ∧ w = w' := by
  simp only [Prod.mk.injEq] at h
  obtain ⟨rfl, rfl, rfl⟩ := h
  exact parts_any n w h0 h1
set_option maxHeartbeats 400000 in
theorem of_any (r g b : Int) (w : World) : Calls Tryd.prog 9 #[.int .i64 r, .int .i64 g, .int .i64 b] w fun e w' => e = .returned (.int .i64 (CO.mk r g b)) ∧ w = w' := by
  have hr := CO.cut_bd r
  have hg := CO.cut_bd g
  have hb := CO.cut_bd b
  have c1 := fun w' => cut_any r w'
  have c2 := fun w' => cut_any g w'
  have c3 := fun w' => cut_any b w'
  have e : CO.mk r g b = 16777216 + CO.cut r * 65536 + CO.cut g * 256 + CO.cut b := rfl
  generalize CO.cut r = x at *
  generalize CO.cut g = y at *
  generalize CO.cut b = z at *
  have j1 := i64_join 24 16777216 (x * 65536) (by omega) (by decide) (by omega) (by omega) (by omega)
  have j2 := i64_join 16 (16777216 + x * 65536) (y * 256) (by omega) (by omega) (by omega) (by omega) (by omega)
  have j3 := i64_join 8 (16777216 + x * 65536 + y * 256) z (by omega) (by omega) (by omega) (by omega) (by omega)
  have E : Hid (bits .or .i64 (bits .or .i64 (bits .or .i64 16777216 (x * 65536)) (y * 256)) z = CO.mk r g b) := hide (by rw [j1, j2, j3, e])
  clear e j1 j2 j3
  have C1 := hide c1
  have C2 := hide c2
  have C3 := hide c3
  clear c1 c2 c3
  go_enter Tryd.func9, Tryd.ntmps9
  go_wp2_with fail
  refine (C1.out _).mono ?_
  rintro e w' ⟨rfl, rfl⟩
  go_wp2_with fail
  refine (C2.out _).mono ?_
  rintro e w' ⟨rfl, rfl⟩
  go_wp2_with fail
  refine (C3.out _).mono ?_
  rintro e w' ⟨rfl, rfl⟩
  go_wp2_with fail
  go_ret
  exact ⟨c_int E.out, rfl⟩
theorem of_is (r g b v : Int) (h : CO.mk r g b = v) (w : World) : Calls Tryd.prog 9 #[.int .i64 r, .int .i64 g, .int .i64 b] w fun e w' => e = .returned (.int .i64 v) ∧ w = w' := by
  subst h
  exact of_any r g b w
end Go.Proofs.YtgkjknjcklnngaaDoor
