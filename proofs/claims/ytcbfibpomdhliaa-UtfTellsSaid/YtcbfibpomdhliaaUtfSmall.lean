/- Contracts of package utf's functions on single numbers. -/
import Derived.Test.YtcbfibpomdhliaaLib
import Derived.Test.YtcbfibpomdhliaaUtfSpec
import Derived.Test.YtcbfibpomdhliaaBits
import Derived.Test.YtcbfibpomdhliaaRows
import Derived.WalkSpells
import Derived.WalkLawsBesides
import Derived.BigQuiet
import Derived.Deep.QuietTactic
namespace Go.Proofs.Ytcbfibpomdhliaa
open Go.RowKit
theorem ret_int {k : IntKind} {a b : Int} (h : a = b) : Ending.returned (.int k a) = .returned (.int k b) := by rw [h]
theorem ret_int_of {k : IntKind} {a b : Int} (h : a = b) : Ending.returned (.int k a) = .returned (.int k b) := by rw [h]
theorem ret_bool {a b : Bool} (h : a = b) : Ending.returned (.bool a) = .returned (.bool b) := by rw [h]
theorem info_i32 : (Try.prog.info? 21).map (fun i => (i.zero, i.size, i.bytes)) = some (some (.int .i32 0), 1, 4) := by kernel_rfl
theorem info_u8 : (Try.prog.info? 5).map (fun i => (i.zero, i.size, i.bytes)) = some (some (.int .u8 0), 1, 1) := by kernel_rfl

set_option maxHeartbeats 400000 in
theorem isRune_any (n : Int) (w : World) : Calls Try.prog 24 #[.int .i64 n] w fun e w' => e = .returned (.bool (U.isR n)) ∧ w = w' := by
  have cs : n < 0 ∨ 1114111 < n ∨ (0 ≤ n ∧ n < 55296) ∨ (55296 ≤ n ∧ n ≤ 57343) ∨ (57343 < n ∧ n ≤ 1114111) := by omega
  have hr : ∀ b : Bool, (b = true ↔ (0 ≤ n ∧ n ≤ 1114111 ∧ (n < 55296 ∨ 57343 < n))) → Ending.returned (.bool b) = .returned (.bool (U.isR n)) := fun b hb => ret_bool (by unfold U.isR; rw [Bool.eq_iff_iff, hb, decide_eq_true_iff])
  have HR := Lib.hid hr
  clear hr
  rcases cs with h | h | h | h | h
  all_goals
    go_enter Try.func24, Try.ntmps24
    go_wp2
    go_ret
    exact ⟨HR.out _ (by simp; omega), rfl⟩
set_option maxHeartbeats 400000 in
theorem size_any (r : Int) (w : World) : Calls Try.prog 25 #[.int .i32 r] w fun e w' => e = .returned (.int .i64 (U.sz r)) ∧ w = w' := by
  have hr : ∀ k : Int, U.sz r = k → Ending.returned (.int .i64 k) = .returned (.int .i64 (U.sz r)) := fun k hb => ret_int hb.symm
  have HR := Lib.hid hr
  clear hr
  have cs : r < 128 ∨ (128 ≤ r ∧ r < 2048) ∨ (2048 ≤ r ∧ r < 65536) ∨ 65536 ≤ r := by omega
  rcases cs with h | h | h | h
  all_goals
    go_enter Try.func25, Try.ntmps25
    go_wp2
    go_ret
    exact ⟨HR.out _ (by unfold U.sz; repeat (first | rw [if_pos (by omega)] | rw [if_neg (by omega)])), rfl⟩
set_option maxHeartbeats 400000 in
theorem held_any (s : U.St) (w : World) : Calls Try.prog 11 #[s.val] w fun e w' => e = .returned (.bool (decide (0 < s.need))) ∧ w.alloc (.cells #[.int .i64 s.need, .int .i64 s.have_, .int .i64 s.acc] 24) = w' := by
  unfold U.St.val
  go_enter Try.func11, Try.ntmps11
  go_wp2
  go_ret
  exact ⟨rfl, rfl⟩
set_option maxHeartbeats 400000 in
theorem tail_any (r : Int) (w : World) : Calls Try.prog 26 #[.int .i32 r] w fun e w' => e = .returned (.int .u8 (U.tl r)) ∧ w = w' := by
  have e1 := i32_mask 6 (by omega) r
  have e2 := u8_join 6 128 (r % 64) (by omega) (by omega) (by omega) (by omega) (by omega)
  have e3 : U.tl r = 128 + r % 64 := rfl
  have e4 : r % 64 % 256 = r % 64 := by omega
  have E := hide (And.intro e1 (And.intro e2 (And.intro e3 e4)))
  clear e1 e2 e3 e4
  go_enter Try.func26, Try.ntmps26
  go_wp2
  go_ret
  obtain ⟨e1, e2, e3, e4⟩ := E.out
  refine ⟨ret_int_of ?_, rfl⟩
  simp at e1
  rw [e3]
  show bits .or .u8 128 (bits .and .i32 r 63 % 256) = _
  rw [e1, e4, e2]
set_option maxHeartbeats 400000 in
theorem whole_any (need acc : Int) (h0 : 0 ≤ acc) (h1 : acc < 2147483648) (w : World) : Calls Try.prog 23 #[.int .i64 need, .int .i64 acc] w fun e w' => e = .returned (.int .i32 (U.wh need acc)) ∧ w = w' := by
  have hr : ∀ k : Int, U.wh need acc = k → Ending.returned (.int .i32 k) = .returned (.int .i32 (U.wh need acc)) := fun k hb => ret_int hb.symm
  have HR := Lib.hid hr
  clear hr
  have ci := isRune_any acc
  have cz := size_any acc
  rcases hi : U.isR acc with _ | _
  · have HW : Hid (U.wh need acc = 65533) := by simp [Hid, U.wh, hi]
    rw [hi] at ci
    clear hi
    have CI := Lib.hid ci
    clear ci cz
    go_enter Try.func23, Try.ntmps23
    go_wp2_with (go_at_call 24; refine (CI.out _).mono ?_; rintro e w' ⟨rfl, rfl⟩)
    go_ret
    exact ⟨HR.out _ HW.out, rfl⟩
  · by_cases hz : U.sz acc = need
    · have HW : Hid (U.wh need acc = acc) := by simp [Hid, U.wh, hi, hz]
      rw [hi] at ci
      rw [hz] at cz
      clear hi hz
      have CI := Lib.hid ci
      have CZ := Lib.hid cz
      clear ci cz
      go_enter Try.func23, Try.ntmps23
      go_wp2_with (first | (go_at_call 24; refine (CI.out _).mono ?_; rintro e w' ⟨rfl, rfl⟩) | (go_at_call 25; refine (CZ.out _).mono ?_; rintro e w' ⟨rfl, rfl⟩))
      go_ret
      exact ⟨HR.out _ HW.out, rfl⟩
    · have HW : Hid (U.wh need acc = 65533) := by simp [Hid, U.wh, hz]
      rw [hi] at ci
      generalize U.sz acc = q at cz hz
      clear hi
      have CI := Lib.hid ci
      have CZ := Lib.hid cz
      clear ci cz
      go_enter Try.func23, Try.ntmps23
      go_wp2_with (first | (go_at_call 24; refine (CI.out _).mono ?_; rintro e w' ⟨rfl, rfl⟩) | (go_at_call 25; refine (CZ.out _).mono ?_; rintro e w' ⟨rfl, rfl⟩))
      go_ret
      exact ⟨HR.out _ HW.out, rfl⟩
end Go.Proofs.Ytcbfibpomdhliaa
