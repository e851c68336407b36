/- linguistbook's Within: a number brought into lo .. hi. -/
import Derived.Test.YtnjkongbccblaaaDoorLib
import Derived.Test.YtnjkongbccblaaaDoorRows
import Derived.WalkSpells
import Derived.WalkLawsBesides
set_option maxRecDepth 100000
namespace Go.Proofs.YtnjkongbccblaaaDoor
open Go.RowKit
set_option linter.unusedVariables false
theorem emod_of_tmod (n m : Int) (hm : 0 < m) : n % m = if n.tmod m < 0 then n.tmod m + m else n.tmod m := by
  have h1 := Int.mul_tdiv_add_tmod n m
  have h2 := Int.tmod_lt_of_pos n hm
  have h3 : -m < n.tmod m := by
    have := Int.tmod_lt_of_pos (-n) hm
    rw [Int.neg_tmod] at this
    omega
  split
  · have e : n = n.tmod m + m + m * (n.tdiv m - 1) := by rw [Int.mul_sub]; omega
    have : n % m = (n.tmod m + m + m * (n.tdiv m - 1)) % m := by rw [← e]
    rw [this, Int.add_mul_emod_self_left]
    exact Int.emod_eq_of_lt (by omega) (by omega)
  · have e : n = n.tmod m + m * n.tdiv m := by omega
    have : n % m = (n.tmod m + m * n.tdiv m) % m := by rw [← e]
    rw [this, Int.add_mul_emod_self_left]
    exact Int.emod_eq_of_lt (by omega) (by omega)
theorem ret_i64 {a b : Int} (h : a = b) : Ending.returned (.int .i64 a) = .returned (.int .i64 b) := by rw [h]
set_option maxHeartbeats 400000 in
theorem within_any (n lo hi : Int) (w : World) (hn0 : -9223372036854775808 ≤ n) (hn1 : n ≤ 9223372036854775807) (hlo : -1099511627776 ≤ lo) (hle : lo ≤ hi) (hhi : hi ≤ 1099511627776) :
    Calls Tryd.prog 13 #[.int .i64 n, .int .i64 lo, .int .i64 hi] w fun e w' => e = .returned (.int .i64 (lo + n % (hi - lo + 1))) ∧ w = w' := by
  have hm : 0 < hi - lo + 1 := by omega
  have he := emod_of_tmod n (hi - lo + 1) hm
  have h2 := Int.tmod_lt_of_pos n hm
  have h3 : -(hi - lo + 1) < n.tmod (hi - lo + 1) := by
    have := Int.tmod_lt_of_pos (-n) hm
    rw [Int.neg_tmod] at this
    omega
  have h4 := Int.emod_lt_of_pos n hm
  have h5 := Int.emod_nonneg n (b := hi - lo + 1) (by omega)
  have h6 : 0 ≤ n → n.tmod (hi - lo + 1) = n % (hi - lo + 1) := fun h => Int.tmod_eq_emod_of_nonneg h
  have h7 : (hi - lo + 1 == 0) = false := by simp; omega
  by_cases hn : 0 ≤ n
  · have h8 := h6 hn
    generalize hp : n % (hi - lo + 1) = r at he h4 h5 h6 h8 ⊢
    clear he h6 h8 h2 h3
    go_enter Tryd.func13, Tryd.ntmps13
    go_wp2
    go_ret
    exact ⟨ret_i64 (by omega), rfl⟩
  · generalize n % (hi - lo + 1) = r at he h4 h5 h6 ⊢
    generalize ht : n.tmod (hi - lo + 1) = t at he h2 h3 h6
    clear h6
    have HE := hide he
    clear he
    by_cases h0 : t < 0
    all_goals
      go_enter Tryd.func13, Tryd.ntmps13
      go_wp2
      go_ret
      have he := HE.out
      refine ⟨ret_i64 ?_, rfl⟩
      first | rw [if_pos (by omega)] at he | rw [if_neg (by omega)] at he
      simp
      omega
theorem within_is (n lo hi v : Int) (hv : lo + n % (hi - lo + 1) = v) (w : World) (hn0 : -9223372036854775808 ≤ n) (hn1 : n ≤ 9223372036854775807) (hlo : -1099511627776 ≤ lo) (hle : lo ≤ hi) (hhi : hi ≤ 1099511627776) :
    Calls Tryd.prog 13 #[.int .i64 n, .int .i64 lo, .int .i64 hi] w fun e w' => e = .returned (.int .i64 v) ∧ w = w' := by
  subst hv
  exact within_any n lo hi w hn0 hn1 hlo hle hhi
end Go.Proofs.YtnjkongbccblaaaDoor
