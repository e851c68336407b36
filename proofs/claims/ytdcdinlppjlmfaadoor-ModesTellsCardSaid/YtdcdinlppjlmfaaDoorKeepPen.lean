/- The contracts of the given pens that statements make of numbers. -/
import Derived.Test.YtdcdinlppjlmfaaDoorLib
import Derived.Test.YtdcdinlppjlmfaaDoorCellSpec
import Derived.Deep.RegionHeld3
import Derived.RegionTactic
set_option maxRecDepth 100000
namespace Go.Proofs.YtdcdinlppjlmfaaDoor
open Go.RowKit
set_option linter.unusedVariables false
theorem tdiv4_bd (n : Int) (hn0 : -9223372036854775808 ≤ n) (hn1 : n ≤ 9223372036854775807) : -2305843009213693952 ≤ n.tdiv 4 ∧ n.tdiv 4 ≤ 2305843009213693952 := by
  have h1 := Int.mul_tdiv_add_tmod n 4
  have h2 := Int.tmod_lt_of_pos n (b := 4) (by omega)
  have h3 := Int.tmod_lt_of_pos (-n) (b := 4) (by omega)
  rw [Int.neg_tmod] at h3
  omega
set_option maxHeartbeats 400000 in
theorem keepColour_any (n : Int) (w : World) (hn0 : -9223372036854775808 ≤ n) (hn1 : n ≤ 9223372036854775807) :
    Calls Tryd.prog 41 #[.int .i64 n] w fun e w' => e = .returned (.int .i64 (C.kcol n)) ∧ w = w' := by
  have hr : ∀ x : Int, x = C.kcol n → Ending.returned (.int .i64 x) = .returned (.int .i64 (C.kcol n)) := fun x h => c_int h
  have HR := Lib.hid hr
  obtain ⟨d0, d1⟩ := tdiv4_bd n hn0 hn1
  clear hr
  have hc : n % 4 = 0 ∨ n % 4 = 1 ∨ n % 4 = 2 ∨ n % 4 = 3 := by omega
  rcases hc with h | h | h | h
  · have c1 := fun w' => within_is n 0 3 0 (by omega) w' hn0 hn1 (by omega) (by omega) (by omega)
    have C1 := hide c1
    have E := hide (show -1 = C.kcol n by unfold C.kcol; rw [if_pos h])
    clear c1 h
    go_enter Tryd.func41, Tryd.ntmps41
    go_wp2_with fail
    refine (C1.out _).mono ?_
    rintro e w' ⟨rfl, rfl⟩
    go_wp2_with fail
    go_ret
    exact ⟨HR.out _ E.out, rfl⟩
  · have c1 := fun w' => within_is n 0 3 1 (by omega) w' hn0 hn1 (by omega) (by omega) (by omega)
    have c2 := fun w' => within_is (n.tdiv 4) 0 15 (n.tdiv 4 % 16) (by omega) w' (by omega) (by omega) (by omega) (by omega) (by omega)
    have C1 := hide c1
    have C2 := hide c2
    have E := hide (show n.tdiv 4 % 16 = C.kcol n by unfold C.kcol; rw [if_neg (by omega), if_pos h])
    clear c1 c2 h
    go_enter Tryd.func41, Tryd.ntmps41
    go_wp2_with fail
    refine (C1.out _).mono ?_
    rintro e w' ⟨rfl, rfl⟩
    go_wp2_with fail
    refine (C2.out _).mono ?_
    rintro e w' ⟨rfl, rfl⟩
    go_wp2_with fail
    go_ret
    exact ⟨HR.out _ E.out, rfl⟩
  · have c1 := fun w' => within_is n 0 3 2 (by omega) w' hn0 hn1 (by omega) (by omega) (by omega)
    have c2 := fun w' => within_is (n.tdiv 4) 0 255 (n.tdiv 4 % 256) (by omega) w' (by omega) (by omega) (by omega) (by omega) (by omega)
    have C1 := hide c1
    have C2 := hide c2
    have E := hide (show n.tdiv 4 % 256 = C.kcol n by unfold C.kcol; rw [if_neg (by omega), if_neg (by omega), if_pos h])
    clear c1 c2 h
    go_enter Tryd.func41, Tryd.ntmps41
    go_wp2_with fail
    refine (C1.out _).mono ?_
    rintro e w' ⟨rfl, rfl⟩
    go_wp2_with fail
    refine (C2.out _).mono ?_
    rintro e w' ⟨rfl, rfl⟩
    go_wp2_with fail
    go_ret
    exact ⟨HR.out _ E.out, rfl⟩
  · have c1 := fun w' => within_is n 0 3 3 (by omega) w' hn0 hn1 (by omega) (by omega) (by omega)
    have c2 := fun w' => within_is (n.tdiv 4) 0 16777215 (n.tdiv 4 % 16777216) (by omega) w' (by omega) (by omega) (by omega) (by omega) (by omega)
    have E := show 16777216 + n.tdiv 4 % 16777216 = C.kcol n by unfold C.kcol; rw [if_neg (by omega), if_neg (by omega), if_neg (by omega)]
    have q0 : 0 ≤ n.tdiv 4 % 16777216 := by omega
    have q1 : n.tdiv 4 % 16777216 < 16777216 := by omega
    generalize n.tdiv 4 % 16777216 = q at c2 E q0 q1
    have C1 := hide c1
    have C2 := hide c2
    have E2 := hide E
    clear c1 c2 h E
    go_enter Tryd.func41, Tryd.ntmps41
    go_wp2_with fail
    refine (C1.out _).mono ?_
    rintro e w' ⟨rfl, rfl⟩
    go_wp2_with fail
    refine (C2.out _).mono ?_
    rintro e w' ⟨rfl, rfl⟩
    go_wp2_with fail
    go_ret
    exact ⟨HR.out _ E2.out, rfl⟩
set_option maxHeartbeats 400000 in
theorem keepPen_any (a b c : Int) (w : World) (a0 : -9223372036854775808 ≤ a) (a1 : a ≤ 9223372036854775807) (b0 : -9223372036854775808 ≤ b) (b1 : b ≤ 9223372036854775807) (c0 : -9223372036854775808 ≤ c) (c1 : c ≤ 9223372036854775807) :
    Calls Tryd.prog 26 #[.agg #[.int .i64 a, .int .i64 b, .int .i64 c]] w fun e w' => e = .returned (.agg #[.int .i64 (C.kcol a), .int .i64 (C.kcol b), .int .i64 (c % 256)]) ∧ Below w.heap.size w w' := by
  have k1 := fun w' => keepColour_any a w' a0 a1
  have k2 := fun w' => keepColour_any b w' b0 b1
  have k3 := fun w' => within_is c 0 255 (c % 256) (by omega) w' c0 c1 (by omega) (by omega) (by omega)
  have K : ∀ x w', x = a ∨ x = b → Calls Tryd.prog 41 #[.int .i64 x] w' fun e w'' => e = .returned (.int .i64 (C.kcol x)) ∧ w' = w'' := by
    rintro x w' (rfl | rfl)
    · exact k1 w'
    · exact k2 w'
  generalize c % 256 = z at k3
  have K := hide K
  have K3 := hide k3
  clear k1 k2 k3 a0 a1 b0 b1 c0 c1
  go_enter Tryd.func26, Tryd.ntmps26
  go_wp2_with fail
  go_region_held3 (fun w' => w'.cell? ⟨w.heap.size, 0, none⟩ = some (.int .i64 a) ∧ w'.cell? ⟨w.heap.size, 1, none⟩ = some (.int .i64 b) ∧ w'.cell? ⟨w.heap.size, 2, none⟩ = some (.int .i64 c)) (go_keep)
    (first | (go_at_call 41; refine (K.out _ _ ?_).mono ?_; (first | exact .inl rfl | exact .inr rfl); rintro e w' ⟨rfl, rfl⟩) | (go_at_call 13; refine (K3.out _).mono ?_; rintro e w' ⟨rfl, rfl⟩))
  go_wp2_with fail
  refine bodyPost_ret (v := .agg #[.int .i64 (C.kcol a), .int .i64 (C.kcol b), .int .i64 z]) (by simp [results, Tryd.results26, go_sem]) rfl ⟨rfl, ?_⟩
  repeat (first | exact Below.refl _ _ | refine Below.drew ?_ | refine Below.setCell ?_ (by first | omega | (simp; done) | (simp; omega)) _ | refine Below.alloc ?_ (by first | omega | (simp; done) | (simp; omega)) _)
end Go.Proofs.YtdcdinlppjlmfaaDoor
