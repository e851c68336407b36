/- The contract of tabs.List; the document's own Tabs, NextTab. -/
import Derived.Test.YtboegggoeemfdaaDoorTabsFun
set_option maxRecDepth 100000
namespace Go.Proofs.YtboegggoeemfdaaDoor
open Go.RowKit
set_option linter.unusedVariables false
theorem info_int9 : (Tryd.prog.info? 3).map (fun i => (i.zero, i.size, i.bytes)) = some (some (.int .i64 0), 1, 8) := by kernel_rfl
/-- numbers in a slice of ints -/
def nats (l : List Nat) : List Value := l.map fun i : Nat => Value.int .i64 (i : Int)
theorem nats_len (l : List Nat) : (nats l).length = l.length := by simp [nats]
theorem nats_one (l : List Nat) : ∀ u ∈ nats l, u.oneCell' = true := by
  intro u hu
  obtain ⟨_, _, rfl⟩ := List.mem_map.1 hu
  rfl
theorem nats_ints (l : List Nat) : nats l = (l.map fun i : Nat => (i : Int)).map (Value.int .i64) := by simp [nats]
/-- the stops below k -/
def upto (t k : Nat) : List Nat := (List.range k).filter fun i => t.testBit i
theorem upto_succ (t k : Nat) : upto t (k + 1) = upto t k ++ (if t.testBit k = true then [k] else []) := by
  unfold upto
  rw [List.range_succ, List.filter_append]
  congr 1
  cases h : t.testBit k <;> simp [h]
theorem upto_len (t k : Nat) : (upto t k).length ≤ k := by
  unfold upto
  exact Nat.le_trans (List.length_filter_le _ _) (by simp)
theorem own_none9 (w : World) (base : Nat) (e : TypeId) : w.ownsRow base e 1 (.slice none 0 0) 0 [] := ⟨rfl, .inl ⟨rfl, rfl⟩⟩
set_option maxHeartbeats 2000000 in
theorem list_any (t : Nat) (w : World) (ht : TB.Ok t) :
    Calls Tryd.prog 10 #[.int .u64 t] w fun e w' => ∃ v, e = .returned v ∧ w'.ownsRow w.heap.size 3 1 v (TB.list t).length (nats (TB.list t)) ∧ Below w.heap.size w w' := by
  obtain ⟨i0, hi, hz0, hz1, hz2⟩ := info_parts info_int9
  have HF := hide fun k (hk : k < 64) w' => has_is t (k : Nat) _ (TB.has_bit hk) w' ht (by omega) (by omega)
  have HT := hide ht
  clear ht
  go_enter Tryd.func10, Tryd.ntmps10
  go_wp2
  go_loopw [3, 5] (fun v i wr => ∃ k : Nat, k ≤ 64 ∧ i = .int .i64 k ∧ wr.ownsRow w.heap.size 3 1 v (upto t k).length (nats (upto t k)) ∧ Below w.heap.size w wr) (fun _ i _ => 64 - (intOf i).toNat)
  case atStart => exact ⟨0, by omega, rfl, own_none9 _ _ _, Below.refl _ _⟩
  case round =>
    obtain ⟨k, hk, rfl, hown, hbel⟩ := hrel
    have hsz := hbel.size
    by_cases hlt : k < 64
    · have C := hide (HF.out k hlt)
      have hlen := upto_len t k
      have hsucc := upto_succ t k
      cases hb : t.testBit k with
      | false =>
        rw [hb] at C hsucc
        simp only [Bool.false_eq_true, if_false, List.append_nil] at hsucc
        rw [← hsucc] at hown
        have HO := hide hown
        clear hown hsucc hb hlen
        go_wp2_with fail
        refine (C.out _).mono ?_
        rintro e w1 ⟨rfl, rfl⟩
        go_wp2_with fail
        go_roundw
        case rel => exact ⟨k + 1, by omega, by go_num, HO.out, hbel⟩
        case measure => simp [intOf]; omega
      | true =>
        rw [hb] at C hsucc
        simp only [if_true] at hsucc
        have HS := hide hsucc
        generalize upto t k = L at hown hlen HS
        have hown' := own_alloc hown (.cells #[.int .i64 k] 3)
        clear hsucc hb
        go_wp2_with fail
        refine (C.out _).mono ?_
        rintro e w1 ⟨rfl, rfl⟩
        go_wp2_with (at_builtin; refine wpList_app1 rfl (.tmp 11) (.tmp 13) 25 rfl w.heap.size 3 i0 _ 8 Tryd.underlying25 hi hz0 hz1 hz2 rfl u3 L.length _ rfl hown _ _ _ rfl (by simp) rfl (by omega) (by omega) (by omega) ?_; intro v1 w1 hown1 hg1 hm1)
        go_roundw
        case rel =>
          refine ⟨k + 1, by omega, by go_num, ?_, hbel.grown hg1 hsz (fun g hg => (hown.lt g hg).1)⟩
          rw [HS.out, List.length_append, nats, List.map_append]
          exact hown1
        case measure => simp [intOf]; omega
    · obtain rfl : k = 64 := by omega
      have HO := hide hown
      clear hown
      go_wp2
      go_ret
      exact ⟨_, rfl, HO.out, hbel⟩
/-! ### the document's own -/
theorem newB_stop {k j : Nat} (hj : j ≤ 7) (h : k ≤ 8 * (j + 1)) : TB.newB k j = TB.news k := TB.ext (TB.newB_ok k j hj) (TB.news_ok k) fun i hi => by
  unfold TB.news
  rw [TB.newB_bit, TB.newB_bit]
  by_cases c : i % 8 = 0 ∧ 0 < i ∧ i ≤ 8 * j ∧ i < k
  · rw [decide_eq_true c, decide_eq_true (by omega)]
  · rw [decide_eq_false c, decide_eq_false (by omega)]
theorem newB_next {k j : Nat} (h : 8 * (j + 1) < k) (hk : k ≤ 64) : TB.newB k (j + 1) = TB.newB k j ||| TB.bitI ((8 * (j + 1) : Nat) : Int) := by
  rw [TB.or_bitI, if_pos (by unfold TB.col; omega), Int.toNat_natCast]
  show (if 8 * (j + 1) < k then _ else _) = _
  rw [if_pos h]
theorem wrap_pow_nat {c : Nat} (hc : c < 64) : IntKind.u64.wrap (2 ^ c) = ((TB.bitI c : Nat) : Int) := by
  rw [← wrap_pow (show (0 : Int) ≤ (c : Int) by omega)]
  simp only [Int.toNat_natCast]
  rw [show min c 64 = c by omega]
theorem bit_test (t j : Nat) (ht : TB.Ok t) : (bits BinOp.and IntKind.u64 ((t : Int) / 2 ^ j) 1 == 1) = t.testBit j := by
  have h := TB.i_bit (c := j) ht
  have e : ((t : Int) / 2 ^ j) = ((t / 2 ^ j : Nat) : Int) := by
    rw [Int.natCast_ediv, Int.natCast_pow]
    rfl
  rw [e, h]
  cases t.testBit j <;> rfl
set_option maxHeartbeats 1000000 in
theorem rtabs_any (k : Nat) (w : World) (hk : k ≤ 64) : Calls Tryd.prog 19 #[.int .i64 k] w fun e w' => e = .returned (.int .u64 (TB.news k : Nat)) ∧ w = w' := by
  go_enter Tryd.func19, Tryd.ntmps19
  go_wp2
  go_loopw [3, 4] (fun t i wr => ∃ j : Nat, j ≤ 7 ∧ i = .int .i64 ((8 * (j + 1) : Nat) : Int) ∧ t = .int .u64 (TB.newB k j : Nat) ∧ wr = w) (fun _ i _ => 72 - (intOf i).toNat)
  case atStart => exact ⟨0, by omega, rfl, rfl, rfl⟩
  case round =>
    obtain ⟨j, hj, rfl, rfl, rfl⟩ := hrel
    by_cases hlt : 8 * (j + 1) < k
    · have hlt' : ((8 * (j + 1) : Nat) : Int) < k := by omega
      have E := hide (newB_next hlt hk)
      go_wp2
      go_roundw
      case rel =>
        refine ⟨j + 1, by omega, by go_num, ?_, by first | rfl | trivial⟩
        rw [E.out, wrap_pow_nat (by omega), u64_or (TB.newB_ok k j (by omega)) (TB.bitI_ok _)]
      case measure => simp [intOf]; omega
    · have hlt' : ¬ ((8 * (j + 1) : Nat) : Int) < k := by omega
      have E := hide (newB_stop (k := k) hj (by omega))
      go_wp2
      go_ret
      exact ⟨c_int (by rw [E.out]), rfl⟩
theorem rtabs_is (k : Nat) (z : Nat) (hz : TB.news k = z) (w : World) (hk : k ≤ 64) : Calls Tryd.prog 19 #[.int .i64 k] w fun e w' => e = .returned (.int .u64 z) ∧ w = w' := by
  subst hz
  exact rtabs_any k w hk
set_option maxHeartbeats 1000000 in
theorem rnext_is (t c k : Nat) (z : Nat) (hz : TB.next t c k = z) (w : World) (ht : TB.Ok t) (h1 : 1 ≤ k) (h2 : k ≤ 64) (hc : c ≤ 64) : Calls Tryd.prog 18 #[.int .u64 t, .int .i64 c, .int .i64 k] w fun e w' => e = .returned (.int .i64 z) ∧ w = w' := by
  have HT := hide ht
  have HZ := hide hz
  clear ht hz
  go_enter Tryd.func18, Tryd.ntmps18
  go_wp2
  go_loopw [7] (fun i wr => ∃ j : Nat, c < j ∧ j ≤ 65 ∧ i = .int .i64 (j : Int) ∧ Hid (∀ i, c < i → i < j → t.testBit i = false) ∧ wr = w) (fun i _ => 66 - (intOf i).toNat)
  case atStart => exact ⟨c + 1, by omega, by omega, by simp, fun i h1 h2 => by omega, rfl⟩
  case round =>
    obtain ⟨j, hj, hj', rfl, H, rfl⟩ := hrel
    by_cases hlt : j < k
    · go_wp2
      · have hb : t.testBit j = true := by rw [← bit_test t j HT.out]; assumption
        go_ret
        refine ⟨c_int ?_, rfl⟩
        rw [← HZ.out, TB.next_is hj hlt hb H.out]
      · have hb : t.testBit j = false := by rw [← bit_test t j HT.out]; assumption
        go_roundw
        case rel =>
          refine ⟨j + 1, by omega, by omega, by go_num, fun i h1 h2 => ?_, by first | rfl | trivial⟩
          by_cases e : i = j
          · rw [e]; exact hb
          · exact H.out i h1 (by omega)
        case measure => simp [intOf]; omega
    · go_wp2
      go_ret
      refine ⟨c_int ?_, rfl⟩
      rw [← HZ.out, TB.next_none (fun i h1 h2 => H.out i h1 (by omega))]
      omega
end Go.Proofs.YtboegggoeemfdaaDoor
