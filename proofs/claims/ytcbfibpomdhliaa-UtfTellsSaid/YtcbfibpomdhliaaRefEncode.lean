/- The contract of the document's own Encode. -/
import Derived.Test.YtcbfibpomdhliaaUtfUse
import Derived.Test.YtcbfibpomdhliaaUtfLemmas
namespace Go.Proofs.Ytcbfibpomdhliaa
open Go.RowKit
set_option linter.unusedVariables false
set_option maxHeartbeats 2000000 in
theorem refEncode_yes (r : Int) (w : World) (hr : U.isR r = true) :
    Calls Try.prog 15 #[.int .i32 r] w (Gives w (fun v => v) (U.en r).length (u8s (U.en r))) := by
  simp [U.isR] at hr
  have m1 := i64_mask 6 (by omega) r
  have m2 := i64_mask 6 (by omega) (r / 64)
  have m3 := i64_mask 6 (by omega) (r / 4096)
  simp at m1 m2 m3
  have j0 := hide (i64_join 6 128 (r % 64) (by omega) (by omega) (by omega) (by omega) (by omega))
  have j1 := hide (i64_join 6 128 (r / 64 % 64) (by omega) (by omega) (by omega) (by omega) (by omega))
  have j2 := hide (i64_join 6 128 (r / 4096 % 64) (by omega) (by omega) (by omega) (by omega) (by omega))
  have j3 := hide (fun h : r < 2048 => i64_join 5 192 (r / 64) (by omega) (by omega) (by omega) (by omega) (by omega))
  have j4 := hide (fun h : r < 65536 => i64_join 4 224 (r / 4096) (by omega) (by omega) (by omega) (by omega) (by omega))
  have j5 := hide (fun h : r < 1114112 => i64_join 3 240 (r / 262144) (by omega) (by omega) (by omega) (by omega) (by omega))
  have cs : (0 ≤ r ∧ r < 128) ∨ (128 ≤ r ∧ r < 2048) ∨ (2048 ≤ r ∧ r < 55296) ∨ (57343 < r ∧ r < 65536) ∨ (65536 ≤ r ∧ r < 1114112) := by omega
  rcases cs with c | c | c | c | c
  · rw [U.en_eq1 r c.2]
    go_enter Try.func15, Try.ntmps15
    go_wp2
    go_ret
    exact ⟨some ⟨w.heap.size, 0, none⟩, 1, rfl, Nat.le_refl _, Seen.fresh rfl (by simp) rfl rfl, (Below.refl _ _).alloc (Nat.le_refl _) _⟩
  · rw [U.en_eq2 r c.1 c.2]
    go_enter Try.func15, Try.ntmps15
    go_wp2
    go_ret
    refine ⟨some ⟨w.heap.size, 0, none⟩, 2, rfl, Nat.le_refl _, Seen.fresh rfl (by simp) rfl ?_, (Below.refl _ _).alloc (Nat.le_refl _) _⟩
    rw [j0.out, j3.out c.2, Int.emod_eq_of_lt (by omega) (by omega), Int.emod_eq_of_lt (by omega) (by omega)]
    rfl
  · rw [U.en_eq3 r c.1 (by omega)]
    go_enter Try.func15, Try.ntmps15
    go_wp2
    go_ret
    refine ⟨some ⟨w.heap.size, 0, none⟩, 3, rfl, Nat.le_refl _, Seen.fresh rfl (by simp) rfl ?_, (Below.refl _ _).alloc (Nat.le_refl _) _⟩
    rw [j0.out, j1.out, j4.out (by omega), Int.emod_eq_of_lt (a := 224 + r / 4096) (by omega) (by omega), Int.emod_eq_of_lt (a := 128 + r / 64 % 64) (by omega) (by omega), Int.emod_eq_of_lt (a := 128 + r % 64) (by omega) (by omega)]
    rfl
  · rw [U.en_eq3 r (by omega) c.2]
    go_enter Try.func15, Try.ntmps15
    go_wp2
    go_ret
    refine ⟨some ⟨w.heap.size, 0, none⟩, 3, rfl, Nat.le_refl _, Seen.fresh rfl (by simp) rfl ?_, (Below.refl _ _).alloc (Nat.le_refl _) _⟩
    rw [j0.out, j1.out, j4.out (by omega), Int.emod_eq_of_lt (a := 224 + r / 4096) (by omega) (by omega), Int.emod_eq_of_lt (a := 128 + r / 64 % 64) (by omega) (by omega), Int.emod_eq_of_lt (a := 128 + r % 64) (by omega) (by omega)]
    rfl
  · rw [U.en_eq4 r c.1]
    go_enter Try.func15, Try.ntmps15
    go_wp2
    all_goals first | (exfalso; omega) | skip
    go_ret
    refine ⟨some ⟨w.heap.size, 0, none⟩, 4, rfl, Nat.le_refl _, Seen.fresh rfl (by simp) rfl ?_, (Below.refl _ _).alloc (Nat.le_refl _) _⟩
    rw [j0.out, j1.out, j2.out, j5.out c.2, Int.emod_eq_of_lt (a := 240 + r / 262144) (by omega) (by omega), Int.emod_eq_of_lt (a := 128 + r / 4096 % 64) (by omega) (by omega), Int.emod_eq_of_lt (a := 128 + r / 64 % 64) (by omega) (by omega), Int.emod_eq_of_lt (a := 128 + r % 64) (by omega) (by omega)]
    rfl
set_option maxHeartbeats 1000000 in
theorem refEncode_any (r : Int) (w : World) (h0 : -2147483648 ≤ r) (h1 : r ≤ 2147483647) :
    Calls Try.prog 15 #[.int .i32 r] w (Gives w (fun v => v) (U.en1 r).length (u8s (U.en1 r))) := by
  rcases hr : U.isR r with _ | _
  · have e1 : U.en1 r = U.en 65533 := by
      rw [U.en_eq3 65533 (by omega) (by omega)]
      simp [U.en1, hr, U.tl]
    rw [e1]
    clear e1
    have C := hide (fun w => refEncode_yes 65533 w (by simp [U.isR]))
    generalize U.en 65533 = E at C
    have cs : r < 0 ∨ 1114111 < r ∨ (55296 ≤ r ∧ r ≤ 57343) := by
      simp [U.isR] at hr
      omega
    clear hr
    rcases cs with c | c | c
    all_goals
      go_enter Try.func15, Try.ntmps15
      go_wp2_with (go_at_call 15; go_must (refine (C.out _).mono ?_); rintro e w1 ⟨A, ce, rfl, h1, h2, h3⟩)
      go_ret
      exact ⟨A, ce, rfl, h1, h2, h3⟩
  · rw [show U.en1 r = U.en r from by simp [U.en1, hr]]
    exact refEncode_yes r w hr
end Go.Proofs.Ytcbfibpomdhliaa
