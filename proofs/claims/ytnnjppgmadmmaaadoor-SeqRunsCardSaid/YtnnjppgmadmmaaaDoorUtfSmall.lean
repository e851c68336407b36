/- Contracts of package utf's functions on single numbers. -/
import Derived.Test.YtnnjppgmadmmaaaDoorLib
import Derived.Test.YtnnjppgmadmmaaaDoorUtfSpec
import Derived.Test.YtnnjppgmadmmaaaDoorBits
import Derived.Test.YtnnjppgmadmmaaaDoorLists
import Derived.Test.YtnnjppgmadmmaaaDoorRows
import Derived.WalkSpells
import Derived.WalkLawsBesides
import Derived.BigQuiet
import Derived.Deep.QuietTactic
set_option maxRecDepth 100000
namespace Go.Proofs.YtnnjppgmadmmaaaDoor
open Go.RowKit
theorem ret_int {k : IntKind} {a b : Int} (h : a = b) : Ending.returned (.int k a) = .returned (.int k b) := by rw [h]
theorem ret_int_of {k : IntKind} {a b : Int} (h : a = b) : Ending.returned (.int k a) = .returned (.int k b) := by rw [h]
theorem ret_bool {a b : Bool} (h : a = b) : Ending.returned (.bool a) = .returned (.bool b) := by rw [h]

set_option maxHeartbeats 400000 in
theorem isRune_any (n : Int) (w : World) : Calls Tryd.prog 61 #[.int .i64 n] w fun e w' => e = .returned (.bool (U.isR n)) ∧ w = w' := by
  have cs : n < 0 ∨ 1114111 < n ∨ (0 ≤ n ∧ n < 55296) ∨ (55296 ≤ n ∧ n ≤ 57343) ∨ (57343 < n ∧ n ≤ 1114111) := by omega
  have hr : ∀ b : Bool, (b = true ↔ (0 ≤ n ∧ n ≤ 1114111 ∧ (n < 55296 ∨ 57343 < n))) → Ending.returned (.bool b) = .returned (.bool (U.isR n)) := fun b hb => ret_bool (by unfold U.isR; rw [Bool.eq_iff_iff, hb, decide_eq_true_iff])
  have HR := Lib.hid hr
  clear hr
  rcases cs with h | h | h | h | h
  all_goals
    go_enter Tryd.func61, Tryd.ntmps61
    go_wp2
    go_ret
    exact ⟨HR.out _ (by simp; omega), rfl⟩
set_option maxHeartbeats 400000 in
theorem size_any (r : Int) (w : World) : Calls Tryd.prog 62 #[.int .i32 r] w fun e w' => e = .returned (.int .i64 (U.sz r)) ∧ w = w' := by
  have hr : ∀ k : Int, U.sz r = k → Ending.returned (.int .i64 k) = .returned (.int .i64 (U.sz r)) := fun k hb => ret_int hb.symm
  have HR := Lib.hid hr
  clear hr
  have cs : r < 128 ∨ (128 ≤ r ∧ r < 2048) ∨ (2048 ≤ r ∧ r < 65536) ∨ 65536 ≤ r := by omega
  rcases cs with h | h | h | h
  all_goals
    go_enter Tryd.func62, Tryd.ntmps62
    go_wp2
    go_ret
    exact ⟨HR.out _ (by unfold U.sz; repeat (first | rw [if_pos (by omega)] | rw [if_neg (by omega)])), rfl⟩
set_option maxHeartbeats 400000 in
theorem held_any (s : U.St) (w : World) : Calls Tryd.prog 39 #[s.val] w fun e w' => e = .returned (.bool (decide (0 < s.need))) ∧ w.alloc (.cells #[.int .i64 s.need, .int .i64 s.have_, .int .i64 s.acc] 63) = w' := by
  unfold U.St.val
  go_enter Tryd.func39, Tryd.ntmps39
  go_wp2
  go_ret
  exact ⟨rfl, rfl⟩
set_option maxHeartbeats 400000 in
theorem whole_any (need acc : Int) (h0 : 0 ≤ acc) (h1 : acc < 2147483648) (w : World) : Calls Tryd.prog 74 #[.int .i64 need, .int .i64 acc] w fun e w' => e = .returned (.int .i32 (U.wh need acc)) ∧ w = w' := by
  have hr : ∀ k : Int, U.wh need acc = k → Ending.returned (.int .i32 k) = .returned (.int .i32 (U.wh need acc)) := fun k hb => ret_int hb.symm
  have HR := Lib.hid hr
  clear hr
  have ci := isRune_any acc
  have cz := size_any acc
  rcases hi : U.isR acc with _ | _
  · have HW : Hid (U.wh need acc = 65533) := by simp [Hid, U.wh, hi]
    rw [hi] at ci
    clear hi
    have CI := Lib.hid ci
    clear ci cz
    go_enter Tryd.func74, Tryd.ntmps74
    go_wp2_with (go_at_call 61; refine (CI.out _).mono ?_; rintro e w' ⟨rfl, rfl⟩)
    go_ret
    exact ⟨HR.out _ HW.out, rfl⟩
  · by_cases hz : U.sz acc = need
    · have HW : Hid (U.wh need acc = acc) := by simp [Hid, U.wh, hi, hz]
      rw [hi] at ci
      rw [hz] at cz
      clear hi hz
      have CI := Lib.hid ci
      have CZ := Lib.hid cz
      clear ci cz
      go_enter Tryd.func74, Tryd.ntmps74
      go_wp2_with (first | (go_at_call 61; refine (CI.out _).mono ?_; rintro e w' ⟨rfl, rfl⟩) | (go_at_call 62; refine (CZ.out _).mono ?_; rintro e w' ⟨rfl, rfl⟩))
      go_ret
      exact ⟨HR.out _ HW.out, rfl⟩
    · have HW : Hid (U.wh need acc = 65533) := by simp [Hid, U.wh, hz]
      rw [hi] at ci
      generalize U.sz acc = q at cz hz
      clear hi
      have CI := Lib.hid ci
      have CZ := Lib.hid cz
      clear ci cz
      go_enter Tryd.func74, Tryd.ntmps74
      go_wp2_with (first | (go_at_call 61; refine (CI.out _).mono ?_; rintro e w' ⟨rfl, rfl⟩) | (go_at_call 62; refine (CZ.out _).mono ?_; rintro e w' ⟨rfl, rfl⟩))
      go_ret
      exact ⟨HR.out _ HW.out, rfl⟩
end Go.Proofs.YtnnjppgmadmmaaaDoor
