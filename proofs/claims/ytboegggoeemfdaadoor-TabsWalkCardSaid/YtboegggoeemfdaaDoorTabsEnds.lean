/- TabsEnds: no stop at the end or beyond counts; from the last column on it is the last column; a stop more is never passed over. -/
import Derived.Test.YtboegggoeemfdaaDoorTabsRuns
import Derived.Test.YtboegggoeemfdaaDoorBook
import Derived.Deep.DeepCutAuto
set_option maxRecDepth 100000
namespace Go.Proofs.YtboegggoeemfdaaDoor
open Go.RowKit
set_option linter.unusedVariables false
theorem next_int (t : Nat) (c k z : Int) (h : ((TB.next t c.toNat k.toNat : Nat) : Int) = z) (w : World) (ht : TB.Ok t) (hT : BTab w) (h0 : 0 ≤ c) (hc : c ≤ 1000) (h1 : 1 ≤ k) (h2 : k ≤ 64) :
    Calls Tryd.prog 11 #[.int .u64 t, .int .i64 c, .int .i64 k] w fun e w' => e = .returned (.int .i64 z) ∧ w = w' := by
  subst h
  obtain ⟨c, rfl⟩ := Int.eq_ofNat_of_zero_le h0
  obtain ⟨k, rfl⟩ := Int.eq_ofNat_of_zero_le (show 0 ≤ k by omega)
  exact next_is9 t c k _ rfl w ht hT (by omega) (by omega) (by omega)
theorem next_end (t : Nat) {k : Nat} (h1 : 1 ≤ k) : TB.next t (k - 1) k = k - 1 := TB.next_none fun i h1 h2 => by omega
theorem next_zero {k : Nat} : TB.next 0 0 k = k - 1 := TB.next_none fun i h1 h2 => Nat.zero_testBit i
theorem next_beyond {k : Nat} : TB.next (TB.put1 0 k) 0 k = k - 1 := TB.next_none fun i h1 h2 => by
  rw [TB.put1_bit, Nat.zero_testBit, decide_eq_false (by omega)]
  rfl
theorem put_one (t : Nat) (x : Nat) (hx : x < 64) (z : Nat) (hz : TB.put1 t x = z) (ht : TB.Ok t) (A : Addr) (B : Nat) (w : World) (hA : Seen w B (some A) 1 [.int .i64 x]) :
    Calls Tryd.prog 15 #[.int .u64 t, .slice (some A) 1 1] w fun e w' => e = .returned (.int .u64 z) ∧ w = w' := by
  refine put_is t (some A) 1 1 B [(x : Int)] z ?_ w ht (by exact hA) (by omega) (fun y hy => ?_)
  · rw [← hz]
    show (if TB.col x then _ else _) = _
    rw [if_pos (by unfold TB.col; omega), Int.toNat_natCast]
  · have := List.mem_singleton.1 hy
    omega
set_option maxHeartbeats 4000000 in
theorem tabsEnds_t (t : Nat) (n c d : Int) (at_ k x nx mr tx kx : Nat) (w : World) (hT : BTab w)
    (KW : Hid (∀ w, Calls Tryd.prog 14 #[.int .i64 n, .int .i64 1, .int .i64 60] w fun e w' => e = .returned (.int .i64 k) ∧ w = w'))
    (AW : Hid (∀ w, Calls Tryd.prog 14 #[.int .i64 c, .int .i64 0, .int .i64 59] w fun e w' => e = .returned (.int .i64 at_) ∧ w = w'))
    (XW : Hid (∀ w, Calls Tryd.prog 14 #[.int .i64 d, .int .i64 0, .int .i64 59] w fun e w' => e = .returned (.int .i64 x) ∧ w = w'))
    (N1 : Hid (∀ w, BTab w → Calls Tryd.prog 11 #[.int .u64 t, .int .i64 at_, .int .i64 k] w fun e w' => e = .returned (.int .i64 nx) ∧ w = w'))
    (N2 : Hid (∀ w, BTab w → Calls Tryd.prog 11 #[.int .u64 tx, .int .i64 at_, .int .i64 k] w fun e w' => e = .returned (.int .i64 mr) ∧ w = w'))
    (N3 : Hid (∀ w, BTab w → Calls Tryd.prog 11 #[.int .u64 t, .int .i64 (k - 1), .int .i64 k] w fun e w' => e = .returned (.int .i64 (k - 1)) ∧ w = w'))
    (N4 : Hid (∀ w, BTab w → Calls Tryd.prog 11 #[.int .u64 0, .int .i64 0, .int .i64 k] w fun e w' => e = .returned (.int .i64 (k - 1)) ∧ w = w'))
    (N5 : Hid (∀ w, BTab w → Calls Tryd.prog 11 #[.int .u64 kx, .int .i64 0, .int .i64 k] w fun e w' => e = .returned (.int .i64 (k - 1)) ∧ w = w'))
    (P1 : Hid (∀ (A : Addr) (B : Nat) w, Seen w B (some A) 1 [.int .i64 x] → Calls Tryd.prog 15 #[.int .u64 t, .slice (some A) 1 1] w fun e w' => e = .returned (.int .u64 tx) ∧ w = w'))
    (P2 : Hid (∀ (A : Addr) (B : Nat) w, Seen w B (some A) 1 [.int .i64 k] → Calls Tryd.prog 15 #[.int .u64 0, .slice (some A) 1 1] w fun e w' => e = .returned (.int .u64 kx) ∧ w = w'))
    (h1 : 1 ≤ k) (h2 : k ≤ 60) (ha : at_ ≤ 59) (hx : x ≤ 59) (hn : nx ≤ 59)
    (hm : (x ≤ at_ ∧ mr = nx) ∨ (at_ < x ∧ x < k ∧ x < nx ∧ x + 1 < k ∧ mr = x) ∨ (at_ < x ∧ x < k ∧ nx ≤ x ∧ x + 1 < k ∧ mr = nx) ∨ (at_ < x ∧ x < k ∧ nx ≤ x ∧ x + 1 = k ∧ mr = nx) ∨ (at_ < x ∧ k ≤ x ∧ mr = nx)) :
    Calls Tryd.prog 7 #[.int .u64 t, .int .i64 c, .int .i64 n, .int .i64 d] w fun e w' => e = .returned (.bool true) ∧ Below w.heap.size w w' := by
  have HT := hide hT
  have HM := hide hm
  have T1 := hide (hT.alloc (.cells #[.int .i64 x] 3))
  clear hT hm
  go_enter Tryd.func7, Tryd.ntmps7
  go_wp2_with fail
  refine (KW.out _).mono ?_
  rintro e w' ⟨rfl, rfl⟩
  go_wp2_with fail
  refine (AW.out _).mono ?_
  rintro e w' ⟨rfl, rfl⟩
  go_wp2_with fail
  refine (XW.out _).mono ?_
  rintro e w' ⟨rfl, rfl⟩
  go_wp2_with fail
  refine (N1.out _ HT.out).mono ?_
  rintro e w' ⟨rfl, rfl⟩
  go_wp2_with fail
  refine (P1.out _ (w.heap.size + 1) _ (Seen.fresh (t := 3) (cs := #[.int .i64 x]) rfl rfl rfl rfl)).mono ?_
  rintro e w' ⟨rfl, rfl⟩
  go_wp2_with fail
  refine (N2.out _ T1.out).mono ?_
  rintro e w' ⟨rfl, rfl⟩
  have B1 := hide ((Below.refl w.heap.size w).alloc (Nat.le_refl _) (.cells #[.int .i64 x] 3))
  generalize w.alloc (.cells #[.int .i64 x] 3) = w1 at T1 B1 ⊢
  rcases HM.out with ⟨c1, rfl⟩ | ⟨c1, c2, c3, c4, rfl⟩ | ⟨c1, c2, c3, c4, rfl⟩ | ⟨c1, c2, c3, c4, rfl⟩ | ⟨c1, c2, rfl⟩
  all_goals
    clear HM
    go_wp2_with fail
    refine (N3.out _ T1.out).mono ?_
    rintro e w' ⟨rfl, rfl⟩
    go_wp2_with fail
    refine (N4.out _ T1.out).mono ?_
    rintro e w' ⟨rfl, rfl⟩
    go_wp2_with fail
    refine (P2.out _ (w1.heap.size + 1) _ (Seen.fresh (t := 3) (cs := #[.int .i64 k]) rfl rfl rfl rfl)).mono ?_
    rintro e w' ⟨rfl, rfl⟩
    go_wp2_with fail
    have T2 := hide (T1.out.alloc (.cells #[.int .i64 k] 3))
    have B2 := hide (B1.out.alloc B1.out.size (.cells #[.int .i64 k] 3))
    generalize w1.alloc (.cells #[.int .i64 k] 3) = w2 at T2 B2 ⊢
    refine (N5.out _ T2.out).mono ?_
    rintro e w' ⟨rfl, rfl⟩
    go_wp2_with fail
    refine (tabsRuns_any _ T2.out).mono ?_
    rintro e w' ⟨rfl, b3⟩
    go_wp2_with fail
    go_ret
    exact ⟨rfl, B2.out.trans (b3.mono B2.out.size)⟩
theorem tabsEnds_any (a : Int) (c n d : Int) (w : World) (wa : (Lit.int .u64 a).wf = true) (wc : (Lit.int .i64 c).wf = true) (wn : (Lit.int .i64 n).wf = true) (wd : (Lit.int .i64 d).wf = true) (hT : BTab w) :
    Calls Tryd.prog 7 #[.int .u64 a, .int .i64 c, .int .i64 n, .int .i64 d] w fun e w' => e = .returned (.bool true) ∧ Below w.heap.size w w' := by
  obtain ⟨a0, a1⟩ := bounds_u64 wa
  obtain ⟨c0, c1⟩ := bounds_i64 wc
  obtain ⟨n0, n1⟩ := bounds_i64 wn
  obtain ⟨d0, d1⟩ := bounds_i64 wd
  obtain ⟨t, rfl⟩ := Int.eq_ofNat_of_zero_le a0
  have ht : TB.Ok t := by unfold TB.Ok; omega
  obtain ⟨k, hk⟩ : ∃ k : Nat, 1 + n % (60 - 1 + 1) = (k : Int) := ⟨(1 + n % (60 - 1 + 1)).toNat, by omega⟩
  obtain ⟨at_, ha⟩ : ∃ k : Nat, 0 + c % (59 - 0 + 1) = (k : Int) := ⟨(0 + c % (59 - 0 + 1)).toNat, by omega⟩
  obtain ⟨x, hx⟩ : ∃ k : Nat, 0 + d % (59 - 0 + 1) = (k : Int) := ⟨(0 + d % (59 - 0 + 1)).toNat, by omega⟩
  have h1 : 1 ≤ k := by omega
  have h2 : k ≤ 60 := by omega
  have hm := TB.next_put (t := t) (x := x) (a := at_) h1
  have hlt := TB.next_lt (t := t) (c := at_) h1
  have e1 := next_end t h1
  refine tabsEnds_t t n c d at_ k x (TB.next t at_ k) (TB.next (TB.put1 t x) at_ k) (TB.put1 t x) (TB.put1 0 k) w hT (fun w' => within_is n 1 60 _ hk w' (by omega) (by omega) (by omega) (by omega) (by omega))
    (fun w' => within_is c 0 59 _ ha w' (by omega) (by omega) (by omega) (by omega) (by omega)) (fun w' => within_is d 0 59 _ hx w' (by omega) (by omega) (by omega) (by omega) (by omega))
    (fun w' h => next_is9 t at_ k _ rfl w' ht h (by omega) h1 (by omega)) (fun w' h => next_is9 _ at_ k _ rfl w' (TB.put1_ok ht (by omega)) h (by omega) h1 (by omega))
    (fun w' h => next_int t (k - 1) k (k - 1) ?_ w' ht h (by omega) (by omega) (by omega) (by omega)) (fun w' h => next_int 0 0 k (k - 1) ?_ w' TB.ok0 h (by omega) (by omega) (by omega) (by omega))
    (fun w' h => next_int _ 0 k (k - 1) ?_ w' (TB.put1_ok TB.ok0 (by omega)) h (by omega) (by omega) (by omega) (by omega))
    (fun A B w' h => put_one t x (by omega) _ rfl ht A B w' h) (fun A B w' h => put_one 0 k (by omega) _ rfl TB.ok0 A B w' h) h1 h2 (by omega) (by omega) (by omega) ?_
  · rw [show ((k : Int) - 1).toNat = k - 1 by omega, Int.toNat_natCast, e1]
    omega
  · rw [Int.toNat_natCast, show (0 : Int).toNat = 0 from rfl, next_zero]
    omega
  · rw [Int.toNat_natCast, show (0 : Int).toNat = 0 from rfl, next_beyond]
    omega
  · rw [hm]
    split <;> omega
end Go.Proofs.YtboegggoeemfdaaDoor
