/- The contracts of package tabs' functions, told of plain stops. -/
import Derived.Test.YtboegggoeemfdaaDoorTabsMore
import Derived.Test.YtboegggoeemfdaaDoorLists
import Derived.Test.YtboegggoeemfdaaDoorEnds
import Derived.Laws.ShiftsVar
import Derived.Shelf.Spec.TrailingZeros
set_option maxRecDepth 100000
namespace Go.Proofs.YtboegggoeemfdaaDoor
open Go.RowKit
set_option linter.unusedVariables false
theorem wrap_pow {c : Int} (hc : 0 ≤ c) : IntKind.u64.wrap (2 ^ min c.toNat 64) = ((TB.bitI c : Nat) : Int) := by
  unfold TB.bitI
  by_cases h : TB.col c
  · rw [if_pos h]
    unfold TB.col at h
    have hp := TB.pow_ok (c := c.toNat) (by omega)
    have e : (2 : Int) ^ min c.toNat 64 = ((2 ^ c.toNat : Nat) : Int) := by
      rw [show min c.toNat 64 = c.toNat by omega]
      simp
    rw [e, IntKind.wrap_u64]
    generalize 2 ^ c.toNat = q at hp
    omega
  · rw [if_neg h]
    unfold TB.col at h
    rw [show min c.toNat 64 = 64 by omega]
    decide
theorem bit_any (c : Int) (w : World) (h0 : -9223372036854775808 ≤ c) (h1 : c ≤ 9223372036854775807) : Calls Tryd.prog 21 #[.int .i64 c] w fun e w' => e = .returned (.int .u64 (TB.bitI c : Nat)) ∧ w = w' := by
  by_cases hc : 0 ≤ c
  · go_enter Tryd.func21, Tryd.ntmps21
    go_wp2
    go_ret
    exact ⟨c_int (wrap_pow hc), rfl⟩
  · go_enter Tryd.func21, Tryd.ntmps21
    go_wp2
    go_ret
    refine ⟨c_int ?_, rfl⟩
    rw [wrap_pow (by rw [IntKind.wrap_u64]; omega)]
    unfold TB.bitI
    rw [if_neg (by unfold TB.col; rw [IntKind.wrap_u64]; omega), if_neg (by unfold TB.col; omega)]
theorem bit_is (c : Int) (n : Nat) (hn : TB.bitI c = n) (w : World) (h0 : -9223372036854775808 ≤ c) (h1 : c ≤ 9223372036854775807) : Calls Tryd.prog 21 #[.int .i64 c] w fun e w' => e = .returned (.int .u64 n) ∧ w = w' := by
  subst hn
  exact bit_any c w h0 h1
theorem below_any (c : Int) (w : World) (h0 : -9223372036854775808 ≤ c) (h1 : c ≤ 9223372036854775807) : Calls Tryd.prog 20 #[.int .i64 c] w fun e w' => e = .returned (.int .u64 (TB.belowI c : Nat)) ∧ w = w' := by
  obtain ⟨d, hd, hd0, hd1⟩ : ∃ d : Int, max c 0 = d ∧ 0 ≤ d ∧ d ≤ 9223372036854775807 := ⟨_, rfl, by omega, by omega⟩
  have E : TB.belowI c = TB.belowI d := by
    unfold TB.belowI
    rw [show d.toNat = c.toNat by omega]
  have W : IntKind.u64.wrap ((TB.bitI d : Nat) - 1 : Int) = ((TB.belowI d : Nat) : Int) := by
    have h1 := TB.belowI_ok d
    unfold TB.Ok at h1
    rw [IntKind.wrap_u64]
    rcases TB.belowI_is hd0 with h | ⟨h, h'⟩
    · omega
    · rw [h, h']
      decide
  rw [E]
  have HB := hide fun w' => bit_is d _ rfl w' (by omega) hd1
  have HW := hide W
  generalize TB.bitI d = x at HB HW
  generalize TB.belowI d = y at HW
  clear E W
  by_cases hc : 0 ≤ c
  · obtain rfl : d = c := by omega
    clear hd
    go_enter Tryd.func20, Tryd.ntmps20
    go_wp2_with fail
    refine (HB.out _).mono ?_
    rintro e w1 ⟨rfl, rfl⟩
    go_wp2_with fail
    go_ret
    exact ⟨c_int HW.out, rfl⟩
  · obtain rfl : d = 0 := by omega
    clear hd
    go_enter Tryd.func20, Tryd.ntmps20
    go_wp2_with fail
    refine (HB.out _).mono ?_
    rintro e w1 ⟨rfl, rfl⟩
    go_wp2_with fail
    go_ret
    exact ⟨c_int HW.out, rfl⟩
theorem below_is (c : Int) (n : Nat) (hn : TB.belowI c = n) (w : World) (h0 : -9223372036854775808 ≤ c) (h1 : c ≤ 9223372036854775807) : Calls Tryd.prog 20 #[.int .i64 c] w fun e w' => e = .returned (.int .u64 n) ∧ w = w' := by
  subst hn
  exact below_any c w h0 h1
theorem u64_and {a b : Nat} (ha : TB.Ok a) (hb : TB.Ok b) : bits .and .u64 (a : Int) (b : Int) = ((a &&& b : Nat) : Int) := u64_and_nat a b ha hb
theorem u64_or {a b : Nat} (ha : TB.Ok a) (hb : TB.Ok b) : bits .or .u64 (a : Int) (b : Int) = ((a ||| b : Nat) : Int) := u64_or_nat a b ha hb
theorem u64_andNot {a b : Nat} (ha : TB.Ok a) (hb : TB.Ok b) : bits .andNot .u64 (a : Int) (b : Int) = ((a &&& (18446744073709551615 - b) : Nat) : Int) := u64_andNot_nat a b ha hb
set_option maxHeartbeats 1000000 in
theorem has_any (t : Nat) (c : Int) (w : World) (ht : TB.Ok t) (h0 : -9223372036854775808 ≤ c) (h1 : c ≤ 9223372036854775807) : Calls Tryd.prog 12 #[.int .u64 t, .int .i64 c] w fun e w' => e = .returned (.bool (TB.has t c)) ∧ w = w' := by
  have HB := hide fun w' => bit_is c _ rfl w' h0 h1
  have E1 := hide (u64_and ht (TB.bitI_ok c))
  have E2 : ((t &&& TB.bitI c : Nat) : Int) ≠ 0 ↔ TB.has t c = true := by
    have := TB.and_bitI ht c
    cases h : TB.has t c <;> simp_all
  have HE := hide E2
  generalize TB.bitI c = x at HB E1 HE
  generalize t &&& x = y at E1 HE
  clear E2
  have HT := hide ht
  clear ht
  go_enter Tryd.func12, Tryd.ntmps12
  go_wp2_with fail
  refine (HB.out _).mono ?_
  rintro e w1 ⟨rfl, rfl⟩
  go_wp2_with fail
  go_ret
  refine ⟨c_bool ?_, rfl⟩
  have := HE.out
  rw [E1.out]
  clear E1
  cases h : TB.has t c <;> simp_all
theorem has_is (t : Nat) (c : Int) (b : Bool) (hb : TB.has t c = b) (w : World) (ht : TB.Ok t) (h0 : -9223372036854775808 ≤ c) (h1 : c ≤ 9223372036854775807) : Calls Tryd.prog 12 #[.int .u64 t, .int .i64 c] w fun e w' => e = .returned (.bool b) ∧ w = w' := by
  subst hb
  exact has_any t c w ht h0 h1
set_option maxHeartbeats 1000000 in
theorem new_any (n : Int) (w : World) (h0 : 0 ≤ n) (h1 : n ≤ 9223372036854775807) : Calls Tryd.prog 8 #[.int .i64 n] w fun e w' => e = .returned (.int .u64 (TB.news n.toNat : Nat)) ∧ w = w' := by
  have HB := hide fun w' => below_is n _ rfl w' (by omega) h1
  have E1 := u64_and (show TB.Ok 72340172838076672 by unfold TB.Ok; omega) (TB.belowI_ok n)
  rw [TB.news_and h0] at E1
  have E2 := hide (show bits .and .u64 72340172838076672 ((TB.belowI n : Nat) : Int) = ((TB.news n.toNat : Nat) : Int) from E1)
  generalize TB.belowI n = x at HB E2
  generalize TB.news n.toNat = y at E2
  clear E1
  go_enter Tryd.func8, Tryd.ntmps8
  go_wp2_with fail
  refine (HB.out _).mono ?_
  rintro e w1 ⟨rfl, rfl⟩
  go_wp2_with fail
  go_ret
  exact ⟨c_int E2.out, rfl⟩
theorem new_is (n : Int) (t : Nat) (ht : TB.news n.toNat = t) (w : World) (h0 : 0 ≤ n) (h1 : n ≤ 9223372036854775807) : Calls Tryd.prog 8 #[.int .i64 n] w fun e w' => e = .returned (.int .u64 t) ∧ w = w' := by
  subst ht
  exact new_any n w h0 h1
set_option maxHeartbeats 1000000 in
theorem all_any (A : Option Addr) (n c B : Nat) (l : List Int) (w : World) (hA : Seen w B A n (l.map (Value.int .i64))) (hn : n ≤ 1099511627776) (hl : ∀ x ∈ l, -9223372036854775808 ≤ x ∧ x ≤ 9223372036854775807) :
    Calls Tryd.prog 23 #[.slice A n c] w fun e w' => e = .returned (.int .u64 (TB.puts 0 l : Nat)) ∧ w = w' := by
  have hlen : l.length = n := by simpa using hA.1
  have HA := hide hA
  have HL := hide hlen
  have HX := hide hl
  clear hA hlen hl
  go_enter Tryd.func23, Tryd.ntmps23
  go_wp2
  go_loopw [3, 8] (fun t i wr => ∃ k : Nat, k ≤ n ∧ i = .int .i64 k ∧ t = .int .u64 (TB.puts 0 (l.take k) : Nat) ∧ wr = w) (fun _ i _ => n - (intOf i).toNat)
  case atStart => exact ⟨0, Nat.zero_le _, rfl, rfl, rfl⟩
  case round =>
    obtain ⟨k, hk, rfl, rfl, rfl⟩ := hrel
    by_cases hlt : k < n
    · obtain ⟨ad, u, rfl, _, hu, hc⟩ := HA.out.at_ hlt
      rw [List.getElem?_map] at hu
      obtain ⟨x, hx, rfl⟩ := Option.map_eq_some_iff.1 hu
      obtain ⟨x0, x1⟩ := HX.out x (List.mem_of_getElem? hx)
      have hs := TB.puts_snoc 0 (l.take k) x
      rw [show l.take k ++ [x] = l.take (k + 1) from by rw [List.take_add_one, hx]; rfl] at hs
      have E1 := u64_or (TB.puts_ok (l := l.take k) TB.ok0) (TB.bitI_ok x)
      rw [← hs] at E1
      have E := hide E1
      generalize TB.puts 0 (l.take k) = z at E
      have HB := hide fun w' => bit_is x _ rfl w' x0 x1
      generalize TB.bitI x = y at HB E
      clear hu hx hs E1 x0 x1
      go_wp2_with fail
      refine (HB.out _).mono ?_
      rintro e w1 ⟨rfl, rfl⟩
      go_wp2_with fail
      go_roundw
      case rel => exact ⟨k + 1, by omega, by go_num, by rw [E.out], by first | rfl | trivial⟩
      case measure => simp [intOf]; omega
    · obtain rfl : k = n := by omega
      have e : l.take k = l := List.take_of_length_le (by rw [HL.out]; omega)
      rw [e]
      generalize hz : TB.puts 0 l = z
      have HZ := hide hz
      clear hz
      go_wp2
      go_ret
      exact ⟨c_int (by rw [HZ.out]), rfl⟩
theorem all_is (A : Option Addr) (n c B : Nat) (l : List Int) (z : Nat) (hz : TB.puts 0 l = z) (w : World) (hA : Seen w B A n (l.map (Value.int .i64))) (hn : n ≤ 1099511627776) (hl : ∀ x ∈ l, -9223372036854775808 ≤ x ∧ x ≤ 9223372036854775807) :
    Calls Tryd.prog 23 #[.slice A n c] w fun e w' => e = .returned (.int .u64 z) ∧ w = w' := by
  subst hz
  exact all_any A n c B l w hA hn hl
set_option maxHeartbeats 1000000 in
theorem put_is (t : Nat) (A : Option Addr) (n c B : Nat) (l : List Int) (z : Nat) (hz : TB.puts t l = z) (w : World) (ht : TB.Ok t) (hA : Seen w B A n (l.map (Value.int .i64))) (hn : n ≤ 1099511627776) (hl : ∀ x ∈ l, -9223372036854775808 ≤ x ∧ x ≤ 9223372036854775807) :
    Calls Tryd.prog 15 #[.int .u64 t, .slice A n c] w fun e w' => e = .returned (.int .u64 z) ∧ w = w' := by
  subst hz
  have HB := hide fun w' (h : Seen w' B A n (l.map (Value.int .i64))) => all_is A n c B l _ rfl w' h hn hl
  have E1 := u64_or ht (TB.puts_ok (l := l) TB.ok0)
  rw [TB.or_puts ht] at E1
  have E := hide E1
  have HT := hide ht
  have HA := hide hA
  generalize TB.puts 0 l = x at HB E
  generalize TB.puts t l = y at E
  clear hA hl E1 ht
  go_enter Tryd.func15, Tryd.ntmps15
  go_wp2_with fail
  refine (HB.out _ HA.out).mono ?_
  rintro e w1 ⟨rfl, rfl⟩
  go_wp2_with fail
  go_ret
  exact ⟨c_int E.out, rfl⟩
set_option maxHeartbeats 1000000 in
theorem drop_is (t : Nat) (A : Option Addr) (n c B : Nat) (l : List Int) (z : Nat) (hz : TB.drops t l = z) (w : World) (ht : TB.Ok t) (hA : Seen w B A n (l.map (Value.int .i64))) (hn : n ≤ 1099511627776) (hl : ∀ x ∈ l, -9223372036854775808 ≤ x ∧ x ≤ 9223372036854775807) :
    Calls Tryd.prog 16 #[.int .u64 t, .slice A n c] w fun e w' => e = .returned (.int .u64 z) ∧ w = w' := by
  subst hz
  have HB := hide fun w' (h : Seen w' B A n (l.map (Value.int .i64))) => all_is A n c B l _ rfl w' h hn hl
  have E1 := u64_andNot ht (TB.puts_ok (l := l) TB.ok0)
  rw [TB.drop_puts ht] at E1
  have E := hide E1
  have HT := hide ht
  have HA := hide hA
  generalize TB.puts 0 l = x at HB E
  generalize TB.drops t l = y at E
  clear hA hl E1 ht
  go_enter Tryd.func16, Tryd.ntmps16
  go_wp2_with fail
  refine (HB.out _ HA.out).mono ?_
  rintro e w1 ⟨rfl, rfl⟩
  go_wp2_with fail
  go_ret
  exact ⟨c_int E.out, rfl⟩
/-- the table behind TrailingZeros64, as it is laid -/
def BTab (w : World) : Prop := TabAt 0 Lib.deBruijn64tab w
set_option maxHeartbeats 1000000 in
theorem tz_core (x k idx : Nat) (w : World) (hx0 : ((x : Int) == 0) = false)
    (key : IntKind.u64.wrap (bits BinOp.and IntKind.u64 (x : Int) (IntKind.u64.wrap (-(x : Int))) * 285870213051353865) / 288230376151711744 = (idx : Int))
    (hi : idx < 64) (hk : k < 64) (hcell : w.cell? ⟨0, idx, none⟩ = some (.int .u8 k)) :
    Calls Tryd.prog 22 #[.int .u64 x] w fun e w' => e = .returned (.int .i64 k) ∧ w = w' := by
  go_enter Tryd.func22, Tryd.ntmps22
  go_wp2_with (simp only [key])
  go_ret
  exact ⟨rfl, rfl⟩
theorem tz_any (x : Nat) (hx : TB.Ok x) (h0 : x ≠ 0) (w : World) (hT : BTab w) : Calls Tryd.prog 22 #[.int .u64 x] w fun e w' => e = .returned (.int .i64 (Lib.ctz 64 x : Nat)) ∧ w = w' := by
  obtain ⟨hlow, hk⟩ := Lib.lowest_bit 64 x h0 hx
  obtain ⟨hi, htab⟩ := Lib.deBruijn64_at _ hk
  have hcell := hT _ hi
  rw [htab] at hcell
  exact tz_core x _ _ w (by simp; omega) (tz64_key x _ hx h0 hlow) hi hk hcell
set_option maxHeartbeats 1000000 in
theorem next_is9 (t : Nat) (c k : Nat) (z : Nat) (hz : TB.next t c k = z) (w : World) (ht : TB.Ok t) (hT : BTab w) (hc : c ≤ 1000) (h1 : 1 ≤ k) (h2 : k ≤ 64) :
    Calls Tryd.prog 11 #[.int .u64 t, .int .i64 c, .int .i64 k] w fun e w' => e = .returned (.int .i64 z) ∧ w = w' := by
  have HK := hide fun w' => below_is k _ rfl w' (by omega) (by omega)
  have HC := hide fun w' => below_is c _ rfl w' (by omega) (by omega)
  have HB := hide fun w' => bit_is c _ rfl w' (by omega) (by omega)
  have E1 := hide (u64_and ht (TB.belowI_ok k))
  have E2 := hide (u64_andNot (TB.and_ok ht (b := TB.belowI k)) (TB.belowI_ok c))
  have E3 := hide (u64_andNot (TB.and_ok (TB.and_ok ht (b := TB.belowI k)) (b := 18446744073709551615 - TB.belowI c)) (TB.bitI_ok c))
  have E4 := hide (show ((t &&& TB.belowI k) &&& (18446744073709551615 - TB.belowI c)) &&& (18446744073709551615 - TB.bitI c) = TB.behind t c k from rfl)
  have B0 : TB.behind t c k = 0 → z = k - 1 := fun h => by rw [← hz]; exact TB.behind_none h2 h
  have B1 : TB.behind t c k ≠ 0 → Lib.ctz 64 (TB.behind t c k) = z := fun h => by rw [← hz]; exact TB.behind_some ht h
  have hbo := TB.behind_ok ht c k
  generalize TB.behind t c k = b at E4 B0 B1 hbo
  generalize TB.belowI k = xk at HK E1 E2 E3 E4
  generalize TB.belowI c = xc at HC E2 E3 E4
  generalize TB.bitI c = xb at HB E3 E4
  generalize t &&& xk = y1 at E1 E2 E3 E4
  generalize y1 &&& (18446744073709551615 - xc) = y2 at E2 E3 E4
  generalize y2 &&& (18446744073709551615 - xb) = y3 at E3 E4
  obtain rfl : y3 = b := E4.out
  have TZ : y3 ≠ 0 → ∀ w', BTab w' → Calls Tryd.prog 22 #[.int .u64 y3] w' fun e w1 => e = .returned (.int .i64 z) ∧ w' = w1 := fun h w' hw => by
    rw [← B1 h]
    exact tz_any y3 hbo h w' hw
  have HT := hide hT
  clear ht hT hbo hz B1
  rcases Nat.eq_zero_or_pos y3 with h | h
  · subst h
    have hz := B0 rfl
    have hz' : (k : Int) - 1 = (z : Int) := by omega
    have HZ := hide hz'
    have E3' := hide (show bits .andNot .u64 (y2 : Int) (xb : Int) = 0 from E3.out)
    clear B0 TZ hz hz' E3 E4
    go_enter Tryd.func11, Tryd.ntmps11
    go_wp2_with fail
    refine (HK.out _).mono ?_
    rintro e w1 ⟨rfl, rfl⟩
    go_wp2_with fail
    refine (HC.out _).mono ?_
    rintro e w1 ⟨rfl, rfl⟩
    go_wp2_with fail
    refine (HB.out _).mono ?_
    rintro e w1 ⟨rfl, rfl⟩
    rw [E1.out, E2.out]
    go_wp2_with (simp only [E3'.out])
    go_ret
    exact ⟨c_int HZ.out, rfl⟩
  · have TZ' := hide (TZ (by omega))
    have h' : ((y3 : Int) == 0) = false := by simp; omega
    clear TZ B0 E4
    go_enter Tryd.func11, Tryd.ntmps11
    go_wp2_with fail
    refine (HK.out _).mono ?_
    rintro e w1 ⟨rfl, rfl⟩
    go_wp2_with fail
    refine (HC.out _).mono ?_
    rintro e w1 ⟨rfl, rfl⟩
    go_wp2_with fail
    refine (HB.out _).mono ?_
    rintro e w1 ⟨rfl, rfl⟩
    rw [E1.out, E2.out]
    go_wp2_with (first | simp only [E3.out] | (refine (TZ'.out _ HT.out).mono ?_; rintro e w1 ⟨rfl, rfl⟩))
    go_ret
    exact ⟨rfl, rfl⟩
end Go.Proofs.YtboegggoeemfdaaDoor
