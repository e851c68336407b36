/- The contracts of package tabs' functions, told of plain stops. The contract of tabs.List; the document's own Tabs, NextTab. -/
import Derived.Test.YtdcdinlppjlmfaaDoorCellSpec
import Derived.Test.YtdcdinlppjlmfaaDoorLib
import Derived.Laws.ShiftsVar
import Derived.Shelf.Spec.TrailingZeros
set_option maxRecDepth 100000
namespace Go.Proofs.YtdcdinlppjlmfaaDoor
open Go.RowKit
set_option linter.unusedVariables false
theorem wrap_pow {c : Int} (hc : 0 ≤ c) : IntKind.u64.wrap (2 ^ min c.toNat 64) = ((TB.bitI c : Nat) : Int) := by
  unfold TB.bitI
  by_cases h : TB.col c
  · rw [if_pos h]
    unfold TB.col at h
    have hp := TB.pow_ok (c := c.toNat) (by omega)
    have e : (2 : Int) ^ min c.toNat 64 = ((2 ^ c.toNat : Nat) : Int) := by
      rw [show min c.toNat 64 = c.toNat by omega]
      simp
    rw [e, IntKind.wrap_u64]
    generalize 2 ^ c.toNat = q at hp
    omega
  · rw [if_neg h]
    unfold TB.col at h
    rw [show min c.toNat 64 = 64 by omega]
    decide
theorem bit_any (c : Int) (w : World) (h0 : -9223372036854775808 ≤ c) (h1 : c ≤ 9223372036854775807) : Calls Tryd.prog 85 #[.int .i64 c] w fun e w' => e = .returned (.int .u64 (TB.bitI c : Nat)) ∧ w = w' := by
  by_cases hc : 0 ≤ c
  · go_enter Tryd.func85, Tryd.ntmps85
    go_wp2
    go_ret
    exact ⟨c_int (wrap_pow hc), rfl⟩
  · go_enter Tryd.func85, Tryd.ntmps85
    go_wp2
    go_ret
    refine ⟨c_int ?_, rfl⟩
    rw [wrap_pow (by rw [IntKind.wrap_u64]; omega)]
    unfold TB.bitI
    rw [if_neg (by unfold TB.col; rw [IntKind.wrap_u64]; omega), if_neg (by unfold TB.col; omega)]
theorem bit_is (c : Int) (n : Nat) (hn : TB.bitI c = n) (w : World) (h0 : -9223372036854775808 ≤ c) (h1 : c ≤ 9223372036854775807) : Calls Tryd.prog 85 #[.int .i64 c] w fun e w' => e = .returned (.int .u64 n) ∧ w = w' := by
  subst hn
  exact bit_any c w h0 h1
theorem below_any (c : Int) (w : World) (h0 : -9223372036854775808 ≤ c) (h1 : c ≤ 9223372036854775807) : Calls Tryd.prog 69 #[.int .i64 c] w fun e w' => e = .returned (.int .u64 (TB.belowI c : Nat)) ∧ w = w' := by
  obtain ⟨d, hd, hd0, hd1⟩ : ∃ d : Int, max c 0 = d ∧ 0 ≤ d ∧ d ≤ 9223372036854775807 := ⟨_, rfl, by omega, by omega⟩
  have E : TB.belowI c = TB.belowI d := by
    unfold TB.belowI
    rw [show d.toNat = c.toNat by omega]
  have W : IntKind.u64.wrap ((TB.bitI d : Nat) - 1 : Int) = ((TB.belowI d : Nat) : Int) := by
    have h1 := TB.belowI_ok d
    unfold TB.Ok at h1
    rw [IntKind.wrap_u64]
    rcases TB.belowI_is hd0 with h | ⟨h, h'⟩
    · omega
    · rw [h, h']
      decide
  rw [E]
  have HB := hide fun w' => bit_is d _ rfl w' (by omega) hd1
  have HW := hide W
  generalize TB.bitI d = x at HB HW
  generalize TB.belowI d = y at HW
  clear E W
  by_cases hc : 0 ≤ c
  · obtain rfl : d = c := by omega
    clear hd
    go_enter Tryd.func69, Tryd.ntmps69
    go_wp2_with fail
    refine (HB.out _).mono ?_
    rintro e w1 ⟨rfl, rfl⟩
    go_wp2_with fail
    go_ret
    exact ⟨c_int HW.out, rfl⟩
  · obtain rfl : d = 0 := by omega
    clear hd
    go_enter Tryd.func69, Tryd.ntmps69
    go_wp2_with fail
    refine (HB.out _).mono ?_
    rintro e w1 ⟨rfl, rfl⟩
    go_wp2_with fail
    go_ret
    exact ⟨c_int HW.out, rfl⟩
theorem below_is (c : Int) (n : Nat) (hn : TB.belowI c = n) (w : World) (h0 : -9223372036854775808 ≤ c) (h1 : c ≤ 9223372036854775807) : Calls Tryd.prog 69 #[.int .i64 c] w fun e w' => e = .returned (.int .u64 n) ∧ w = w' := by
  subst hn
  exact below_any c w h0 h1
theorem u64_and {a b : Nat} (ha : TB.Ok a) (hb : TB.Ok b) : bits .and .u64 (a : Int) (b : Int) = ((a &&& b : Nat) : Int) := u64_and_nat a b ha hb
theorem u64_or {a b : Nat} (ha : TB.Ok a) (hb : TB.Ok b) : bits .or .u64 (a : Int) (b : Int) = ((a ||| b : Nat) : Int) := u64_or_nat a b ha hb
theorem u64_andNot {a b : Nat} (ha : TB.Ok a) (hb : TB.Ok b) : bits .andNot .u64 (a : Int) (b : Int) = ((a &&& (18446744073709551615 - b) : Nat) : Int) := u64_andNot_nat a b ha hb
set_option maxHeartbeats 1000000 in
theorem tnew_any (n : Int) (w : World) (h0 : 0 ≤ n) (h1 : n ≤ 9223372036854775807) : Calls Tryd.prog 38 #[.int .i64 n] w fun e w' => e = .returned (.int .u64 (TB.news n.toNat : Nat)) ∧ w = w' := by
  have HB := hide fun w' => below_is n _ rfl w' (by omega) h1
  have E1 := u64_and (show TB.Ok 72340172838076672 by unfold TB.Ok; omega) (TB.belowI_ok n)
  rw [TB.news_and h0] at E1
  have E2 := hide (show bits .and .u64 72340172838076672 ((TB.belowI n : Nat) : Int) = ((TB.news n.toNat : Nat) : Int) from E1)
  generalize TB.belowI n = x at HB E2
  generalize TB.news n.toNat = y at E2
  clear E1
  go_enter Tryd.func38, Tryd.ntmps38
  go_wp2_with fail
  refine (HB.out _).mono ?_
  rintro e w1 ⟨rfl, rfl⟩
  go_wp2_with fail
  go_ret
  exact ⟨c_int E2.out, rfl⟩
theorem tnew_is (n : Int) (t : Nat) (ht : TB.news n.toNat = t) (w : World) (h0 : 0 ≤ n) (h1 : n ≤ 9223372036854775807) : Calls Tryd.prog 38 #[.int .i64 n] w fun e w' => e = .returned (.int .u64 t) ∧ w = w' := by
  subst ht
  exact tnew_any n w h0 h1
end Go.Proofs.YtdcdinlppjlmfaaDoor
set_option maxRecDepth 100000
namespace Go.Proofs.YtdcdinlppjlmfaaDoor
open Go.RowKit
set_option linter.unusedVariables false
/-- numbers in a slice of ints -/
def nats (l : List Nat) : List Value := l.map fun i : Nat => Value.int .i64 (i : Int)
theorem nats_len (l : List Nat) : (nats l).length = l.length := by simp [nats]
theorem nats_one (l : List Nat) : ∀ u ∈ nats l, u.oneCell' = true := by
  intro u hu
  obtain ⟨_, _, rfl⟩ := List.mem_map.1 hu
  rfl
theorem nats_ints (l : List Nat) : nats l = (l.map fun i : Nat => (i : Int)).map (Value.int .i64) := by simp [nats]
/-- the stops below k -/
def upto (t k : Nat) : List Nat := (List.range k).filter fun i => t.testBit i
theorem upto_succ (t k : Nat) : upto t (k + 1) = upto t k ++ (if t.testBit k = true then [k] else []) := by
  unfold upto
  rw [List.range_succ, List.filter_append]
  congr 1
  cases h : t.testBit k <;> simp [h]
theorem upto_len (t k : Nat) : (upto t k).length ≤ k := by
  unfold upto
  exact Nat.le_trans (List.length_filter_le _ _) (by simp)
theorem own_none9 (w : World) (base : Nat) (e : TypeId) : w.ownsRow base e 1 (.slice none 0 0) 0 [] := ⟨rfl, .inl ⟨rfl, rfl⟩⟩
/-! ### the document's own -/
theorem newB_stop {k j : Nat} (hj : j ≤ 7) (h : k ≤ 8 * (j + 1)) : TB.newB k j = TB.news k := TB.ext (TB.newB_ok k j hj) (TB.news_ok k) fun i hi => by
  unfold TB.news
  rw [TB.newB_bit, TB.newB_bit]
  by_cases c : i % 8 = 0 ∧ 0 < i ∧ i ≤ 8 * j ∧ i < k
  · rw [decide_eq_true c, decide_eq_true (by omega)]
  · rw [decide_eq_false c, decide_eq_false (by omega)]
theorem newB_next {k j : Nat} (h : 8 * (j + 1) < k) (hk : k ≤ 64) : TB.newB k (j + 1) = TB.newB k j ||| TB.bitI ((8 * (j + 1) : Nat) : Int) := by
  rw [TB.or_bitI, if_pos (by unfold TB.col; omega), Int.toNat_natCast]
  show (if 8 * (j + 1) < k then _ else _) = _
  rw [if_pos h]
theorem wrap_pow_nat {c : Nat} (hc : c < 64) : IntKind.u64.wrap (2 ^ c) = ((TB.bitI c : Nat) : Int) := by
  rw [← wrap_pow (show (0 : Int) ≤ (c : Int) by omega)]
  simp only [Int.toNat_natCast]
  rw [show min c 64 = c by omega]
theorem bit_test (t j : Nat) (ht : TB.Ok t) : (bits BinOp.and IntKind.u64 ((t : Int) / 2 ^ j) 1 == 1) = t.testBit j := by
  have h := TB.i_bit (c := j) ht
  have e : ((t : Int) / 2 ^ j) = ((t / 2 ^ j : Nat) : Int) := by
    rw [Int.natCast_ediv, Int.natCast_pow]
    rfl
  rw [e, h]
  cases t.testBit j <;> rfl
set_option maxHeartbeats 1000000 in
theorem rtabs_any (k : Nat) (w : World) (hk : k ≤ 64) : Calls Tryd.prog 76 #[.int .i64 k] w fun e w' => e = .returned (.int .u64 (TB.news k : Nat)) ∧ w = w' := by
  go_enter Tryd.func76, Tryd.ntmps76
  go_wp2
  go_loopw [3, 4] (fun t i wr => ∃ j : Nat, j ≤ 7 ∧ i = .int .i64 ((8 * (j + 1) : Nat) : Int) ∧ t = .int .u64 (TB.newB k j : Nat) ∧ wr = w) (fun _ i _ => 72 - (intOf i).toNat)
  case atStart => exact ⟨0, by omega, rfl, rfl, rfl⟩
  case round =>
    obtain ⟨j, hj, rfl, rfl, rfl⟩ := hrel
    by_cases hlt : 8 * (j + 1) < k
    · have hlt' : ((8 * (j + 1) : Nat) : Int) < k := by omega
      have E := hide (newB_next hlt hk)
      go_wp2
      go_roundw
      case rel =>
        refine ⟨j + 1, by omega, by go_num, ?_, by first | rfl | trivial⟩
        rw [E.out, wrap_pow_nat (by omega), u64_or (TB.newB_ok k j (by omega)) (TB.bitI_ok _)]
      case measure => simp [intOf]; omega
    · have hlt' : ¬ ((8 * (j + 1) : Nat) : Int) < k := by omega
      have E := hide (newB_stop (k := k) hj (by omega))
      go_wp2
      go_ret
      exact ⟨c_int (by rw [E.out]), rfl⟩
theorem rtabs_is (k : Nat) (z : Nat) (hz : TB.news k = z) (w : World) (hk : k ≤ 64) : Calls Tryd.prog 76 #[.int .i64 k] w fun e w' => e = .returned (.int .u64 z) ∧ w = w' := by
  subst hz
  exact rtabs_any k w hk
set_option maxHeartbeats 1000000 in
theorem rnext_is (t c k : Nat) (z : Nat) (hz : TB.next t c k = z) (w : World) (ht : TB.Ok t) (h1 : 1 ≤ k) (h2 : k ≤ 64) (hc : c ≤ 64) : Calls Tryd.prog 47 #[.int .u64 t, .int .i64 c, .int .i64 k] w fun e w' => e = .returned (.int .i64 z) ∧ w = w' := by
  have HT := hide ht
  have HZ := hide hz
  clear ht hz
  go_enter Tryd.func47, Tryd.ntmps47
  go_wp2
  go_loopw [7] (fun i wr => ∃ j : Nat, c < j ∧ j ≤ 65 ∧ i = .int .i64 (j : Int) ∧ Hid (∀ i, c < i → i < j → t.testBit i = false) ∧ wr = w) (fun i _ => 66 - (intOf i).toNat)
  case atStart => exact ⟨c + 1, by omega, by omega, by simp, fun i h1 h2 => by omega, rfl⟩
  case round =>
    obtain ⟨j, hj, hj', rfl, H, rfl⟩ := hrel
    by_cases hlt : j < k
    · go_wp2
      · have hb : t.testBit j = true := by rw [← bit_test t j HT.out]; assumption
        go_ret
        refine ⟨c_int ?_, rfl⟩
        rw [← HZ.out, TB.next_is hj hlt hb H.out]
      · have hb : t.testBit j = false := by rw [← bit_test t j HT.out]; assumption
        go_roundw
        case rel =>
          refine ⟨j + 1, by omega, by omega, by go_num, fun i h1 h2 => ?_, by first | rfl | trivial⟩
          by_cases e : i = j
          · rw [e]; exact hb
          · exact H.out i h1 (by omega)
        case measure => simp [intOf]; omega
    · go_wp2
      go_ret
      refine ⟨c_int ?_, rfl⟩
      rw [← HZ.out, TB.next_none (fun i h1 h2 => H.out i h1 (by omega))]
      omega
end Go.Proofs.YtdcdinlppjlmfaaDoor
