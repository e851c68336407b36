/- TabsTells: any stops: which there are, the next one; put and dropped. -/
import Derived.Test.YtboegggoeemfdaaDoorTabsEnds
import Derived.Test.YtboegggoeemfdaaDoorRoomy64
import Derived.Test.YtboegggoeemfdaaDoorArgs
set_option maxRecDepth 100000
namespace Go.Proofs.YtboegggoeemfdaaDoor
open Go.RowKit
set_option linter.unusedVariables false
theorem drops_append (t : Nat) : ∀ (a b : List Int), TB.drops t (a ++ b) = TB.drops (TB.drops t a) b
  | [], b => rfl
  | x :: a, b => drops_append _ a b
theorem puts_in (t : Nat) (l : List Int) (i : Nat) (hi : i < 64) : TB.puts t (l ++ [(i : Int)]) = TB.puts t l ||| TB.bitI i := TB.puts_snoc t l i
theorem drops_in (t : Nat) (l : List Int) (i : Nat) (hi : i < 64) : TB.drops t (l ++ [(i : Int)]) = TB.drops t l &&& (18446744073709551615 - TB.bitI i) := by
  rw [drops_append]
  show (if TB.col (i : Int) then TB.drop1 _ (i : Int).toNat else _) = _
  rw [if_pos (by unfold TB.col; omega), Int.toNat_natCast]
  unfold TB.drop1 TB.bitI
  rw [if_pos (by unfold TB.col; omega), Int.toNat_natCast]
theorem puts_out (t : Nat) (l : List Int) (x : Int) (h : ¬ TB.col x) : TB.puts t (l ++ [x]) = TB.puts t l := by
  rw [TB.puts_append]
  show (if TB.col x then _ else _) = _
  rw [if_neg h]
theorem drops_out (t : Nat) (l : List Int) (x : Int) (h : ¬ TB.col x) : TB.drops t (l ++ [x]) = TB.drops t l := by
  rw [drops_append]
  show (if TB.col x then _ else _) = _
  rw [if_neg h]
theorem take_snoc {l : List Int} {k : Nat} {x : Int} (hx : l[k]? = some x) : l.take (k + 1) = l.take k ++ [x] := by rw [List.take_add_one, hx]; rfl
theorem upto_list (t : Nat) : upto t 64 = TB.list t := rfl
/-- the call's own copy of a part of an argument -/
def OwnPart (w : World) (l : List Int) (u : Value) (wx : World) : Prop := ∃ n : Nat, u = u ∧ n ≤ 10 ∧ n = min l.length 10 ∧ wx.ownsRow w.heap.size 3 1 u n (j64s (l.take n)) ∧ Below w.heap.size w wx
set_option maxHeartbeats 8000000 in
theorem tabsTells_t (t : Nat) (A0 : Option Addr) (n0 c0 : Nat) (l0 : List Int) (cc nn : Int) (c k : Nat) (w : World) (hA : Arg .i64 w A0 n0 c0 l0) (hT : BTab w) (ht : TB.Ok t)
    (KW : Hid (∀ w, Calls Tryd.prog 14 #[.int .i64 nn, .int .i64 1, .int .i64 64] w fun e w' => e = .returned (.int .i64 k) ∧ w = w'))
    (CW : Hid (∀ w, Calls Tryd.prog 14 #[.int .i64 cc, .int .i64 0, .int .i64 63] w fun e w' => e = .returned (.int .i64 c) ∧ w = w'))
    (h1 : 1 ≤ k) (h2 : k ≤ 64) (hc : c ≤ 63) :
    Calls Tryd.prog 4 #[.int .u64 t, .slice A0 n0 c0, .int .i64 cc, .int .i64 nn] w fun e w' => e = .returned (.bool true) ∧ Below w.heap.size w w' := by
  obtain ⟨i0, hi, hz0, hz1, hz2⟩ := info_parts info_int9
  have HA := hide hA
  have HT := hide hT
  have HO := hide ht
  have hcap := hA.cap
  have hle := hA.le
  have hlen := hide hA.len
  unfold maxLen at hcap
  clear hA ht hT
  go_enter Tryd.func4, Tryd.ntmps4
  go_upto_region 1 with fail
  go_cut [9] from 19 to 25 (fun u wx => OwnPart w l0 u wx)
  case first =>
    have hs1 : ∀ m, m ≤ n0 → Seen (w.alloc (.cells #[] 3)) w.heap.size A0 m (j64s (l0.take m)) := fun m hm => by
      have := (HA.out.seen.take hm).alloc (Nat.le_refl _) (.cells #[] 3)
      unfold j64s
      rwa [List.map_take]
    have HS := hide hs1
    clear hs1
    by_cases h : n0 ≤ 10
    · go_wp2_with (at_builtin; go_must (refine wpList_appN rfl (.tmp 19) (.tmp 24) 25 rfl w.heap.size 3 i0 _ 8 Tryd.underlying25 hi hz0 hz1 hz2 rfl (.slice (some ⟨w.heap.size, 0, none⟩) 0 0) 0 [] rfl (own_lit0 3 rfl (Nat.le_refl _)) w.heap.size A0 n0 c0 (j64s (l0.take n0)) rfl (HS.out n0 (Nat.le_refl _)) (j64s_one _) (by omega) (by omega) (by simp) ?_); intro v1 w1 hown1 hg1 hm1)
      go_meet
      exact ⟨n0, rfl, h, by have := hlen.out; omega, by simpa using hown1, ((Below.refl w.heap.size w).alloc (Nat.le_refl _) _).grown hg1 (by simp) (fun g hg => by cases hg; exact Nat.le_refl _)⟩
    · go_wp2_with (at_builtin; go_must (refine wpList_appN rfl (.tmp 19) (.tmp 24) 25 rfl w.heap.size 3 i0 _ 8 Tryd.underlying25 hi hz0 hz1 hz2 rfl (.slice (some ⟨w.heap.size, 0, none⟩) 0 0) 0 [] rfl (own_lit0 3 rfl (Nat.le_refl _)) w.heap.size A0 10 c0 (j64s (l0.take 10)) rfl (HS.out 10 (by omega)) (j64s_one _) (by omega) (by omega) (by simp) ?_); intro v1 w1 hown1 hg1 hm1)
      go_meet
      exact ⟨10, rfl, by omega, by have := hlen.out; omega, by simpa using hown1, ((Below.refl w.heap.size w).alloc (Nat.le_refl _) _).grown hg1 (by simp) (fun g hg => by cases hg; exact Nat.le_refl _)⟩
  case rest =>
    obtain ⟨n, _, hn, hmin, ho, b0⟩ := hcut
    obtain ⟨A1, c1, rfl, hnc, hcm, _⟩ := own_form ho
    unfold maxLen at hcm
    have hl : (l0.take n).length = n := by have := hlen.out; simp; omega
    have HX := hide (fun x (hx : x ∈ l0.take n) => bounds_i64 (HA.out.wf x (List.mem_of_mem_take hx)))
    generalize l0.take n = l at ho hl HX
    have S0 := hide (Seen.of_own ho)
    have B0 := hide b0
    have HL := hide hl
    have T0 := hide (HT.out.keep b0)
    clear ho hmin hl HA HT hlen b0 hle hcap
    go_wp2_with fail
    go_loopw [10, 11, 30] (fun p q i wr => ∃ m : Nat, m ≤ n ∧ i = .int .i64 m ∧ p = .int .u64 (TB.puts t (l.take m) : Nat) ∧ q = .int .u64 (TB.drops t (l.take m) : Nat) ∧ wr = wc) (fun _ _ i _ => n - (intOf i).toNat)
    case atStart => exact ⟨0, Nat.zero_le _, rfl, rfl, rfl, rfl⟩
    case round =>
      obtain ⟨m, hm, rfl, rfl, rfl, rfl⟩ := hrel
      by_cases hlt : m < n
      · obtain ⟨ad, u, rfl, _, hu, hcell⟩ := S0.out.at_ hlt
        unfold j64s at hu
        rw [List.getElem?_map] at hu
        obtain ⟨x, hx, rfl⟩ := Option.map_eq_some_iff.1 hu
        obtain ⟨x0, x1⟩ := HX.out x (List.mem_of_getElem? hx)
        have hts := take_snoc hx
        have P0 := TB.puts_ok (l := l.take m) HO.out
        have D0 := TB.drops_ok (l := l.take m) HO.out
        have cs : x < 0 ∨ (0 ≤ x ∧ 64 ≤ x) ∨ (0 ≤ x ∧ x < 64) := by omega
        rcases cs with h | ⟨h, h'⟩ | ⟨h, h'⟩
        · have E1 := hide (show TB.puts t (l.take (m + 1)) = TB.puts t (l.take m) by rw [hts, puts_out _ _ _ (by unfold TB.col; omega)])
          have E2 := hide (show TB.drops t (l.take (m + 1)) = TB.drops t (l.take m) by rw [hts, drops_out _ _ _ (by unfold TB.col; omega)])
          generalize TB.puts t (l.take m) = pz at E1
          generalize TB.drops t (l.take m) = dz at E2
          clear hu hx hts P0 D0
          go_wp2_with fail
          go_roundw
          case rel => exact ⟨m + 1, by omega, by go_num, by rw [E1.out], by rw [E2.out], by first | rfl | trivial⟩
          case measure => simp [intOf]; omega
        · have E1 := hide (show TB.puts t (l.take (m + 1)) = TB.puts t (l.take m) by rw [hts, puts_out _ _ _ (by unfold TB.col; omega)])
          have E2 := hide (show TB.drops t (l.take (m + 1)) = TB.drops t (l.take m) by rw [hts, drops_out _ _ _ (by unfold TB.col; omega)])
          generalize TB.puts t (l.take m) = pz at E1
          generalize TB.drops t (l.take m) = dz at E2
          clear hu hx hts P0 D0
          go_wp2_with fail
          go_roundw
          case rel => exact ⟨m + 1, by omega, by go_num, by rw [E1.out], by rw [E2.out], by first | rfl | trivial⟩
          case measure => simp [intOf]; omega
        · obtain ⟨y, rfl⟩ := Int.eq_ofNat_of_zero_le h
          have hy : y < 64 := by omega
          have E1 := hide (show TB.puts t (l.take (m + 1)) = TB.puts t (l.take m) ||| TB.bitI y by rw [hts, puts_in _ _ _ hy])
          have E2 := hide (show TB.drops t (l.take (m + 1)) = TB.drops t (l.take m) &&& (18446744073709551615 - TB.bitI y) by rw [hts, drops_in _ _ _ hy])
          generalize TB.puts t (l.take m) = pz at E1 P0
          generalize TB.drops t (l.take m) = dz at E2 D0
          have P1 := hide P0
          have D1 := hide D0
          clear hu hx hts P0 D0
          go_wp2_with fail
          go_roundw
          case rel => exact ⟨m + 1, by omega, by go_num, by rw [E1.out, wrap_pow_nat hy, u64_or P1.out (TB.bitI_ok _)], by rw [E2.out, wrap_pow_nat hy, u64_andNot D1.out (TB.bitI_ok _)], by first | rfl | trivial⟩
          case measure => simp [intOf]; omega
      · obtain rfl : m = n := by omega
        rw [List.take_of_length_le (by rw [HL.out]; omega)]
        have RM := hide (roomy6_any A1 m c1 l 7 wr S0.out (by omega))
        have PO := hide (TB.puts_ok (l := l) HO.out)
        have HF := hide fun i (hi : i < 64) w' => has_is t (i : Nat) _ (TB.has_bit hi) w' HO.out (by omega) (by omega)
        have HB := hide fun i => bit_test t i HO.out
        have PC := hide fun (A : Option Addr) (c B : Nat) w' (h : Seen w' B A m (j64s l)) => put_is t A m c B l _ rfl w' HO.out h (by omega) HX.out
        have DC := hide fun (A : Option Addr) (c B : Nat) w' (h : Seen w' B A m (j64s l)) => drop_is t A m c B l _ rfl w' HO.out h (by omega) HX.out
        generalize TB.puts t l = pz at PC ⊢
        generalize TB.drops t l = dz at DC ⊢
        clear PO
        go_wp2_with fail
        refine RM.out.mono ?_
        rintro e w1 ⟨AR, cR, rfl, hcR, hR, bR⟩
        have SR := hide hR
        have S1 := hide ((S0.out.below bR).more bR.size)
        have B1 := hide (B0.out.trans (bR.mono B0.out.size))
        have T1 := hide (T0.out.keep bR)
        clear S0 B0 T0 RM hR bR
        go_wp2_with fail
        refine (KW.out _).mono ?_
        rintro e w' ⟨rfl, rfl⟩
        go_wp2_with fail
        refine (CW.out _).mono ?_
        rintro e w' ⟨rfl, rfl⟩
        go_wp2_with fail
        go_loopw [17, 57] (fun v i wr => ∃ j : Nat, j ≤ 64 ∧ i = .int .i64 j ∧ wr.ownsRow w1.heap.size 3 1 v (upto t j).length (nats (upto t j)) ∧ Below w1.heap.size w1 wr) (fun _ i _ => 64 - (intOf i).toNat)
        case atStart => exact ⟨0, by omega, rfl, own_none9 _ _ _, Below.refl _ _⟩
        case round =>
          obtain ⟨j, hj, rfl, hown, hbel⟩ := hrel
          have hsz := hbel.size
          by_cases hlt : j < 64
          · have C := hide (HF.out j hlt)
            have hlen := upto_len t j
            have hsucc := upto_succ t j
            have hbt := HB.out j
            cases hb : t.testBit j with
            | false =>
              rw [hb] at C hsucc hbt
              simp only [Bool.false_eq_true, if_false, List.append_nil] at hsucc
              rw [← hsucc] at hown
              have HW := hide hown
              clear hown hsucc hb hlen
              go_wp2_with fail
              refine (C.out _).mono ?_
              rintro e w' ⟨rfl, rfl⟩
              go_wp2_with fail
              go_roundw
              case rel => exact ⟨j + 1, by omega, by go_num, HW.out, hbel⟩
              case measure => simp [intOf]; omega
            | true =>
              rw [hb] at C hsucc hbt
              simp only [if_true] at hsucc
              have HS := hide hsucc
              generalize upto t j = L at hown hlen HS
              clear hsucc hb
              go_wp2_with (at_builtin; refine wpList_app1 rfl (.tmp 66) (.tmp 68) 25 rfl w1.heap.size 3 i0 _ 8 Tryd.underlying25 hi hz0 hz1 hz2 rfl u17 L.length _ rfl hown _ _ _ rfl (by simp) rfl (by omega) (by omega) (by omega) ?_; intro v1 w2 hown1 hg1 hm1)
              refine (C.out _).mono ?_
              rintro e w' ⟨rfl, rfl⟩
              go_wp2_with fail
              go_roundw
              case rel =>
                refine ⟨j + 1, by omega, by go_num, ?_, hbel.grown hg1 hsz (fun g hg => (hown.lt g hg).1)⟩
                rw [HS.out, List.length_append, nats, List.map_append]
                exact hown1
              case measure => simp [intOf]; omega
          · obtain rfl : j = 64 := by omega
            rw [upto_list] at hown
            obtain ⟨AL, cL, rfl, _⟩ := own_form hown
            have SL := hide (Seen.of_own hown)
            have SR2 := hide ((SR.out.below hbel).more hsz)
            have S2 := hide ((S1.out.below hbel).more hsz)
            have SF := hide (show Seen wr wr.heap.size AR m (j64s l) by
              have := SR2.out.take (k := m) (by omega)
              rwa [List.take_left' (by rw [j64s_len, HL.out])] at this)
            have B2 := hide (B1.out.trans (hbel.mono B1.out.size))
            have T2 := hide (T1.out.keep hbel)
            have LL : (TB.list t).length ≤ 64 := upto_len t 64
            have IN := hide fun w' (h : Seen w' wr.heap.size AR (m + 80) (j64s l ++ List.replicate 80 (.int .i64 7))) (h' : Seen w' wr.heap.size A1 m (j64s l)) (cf : Nat) => intact6_any AR A1 wr.heap.size wr.heap.size m cR c1 l 7 w' h h' hcR (by omega)
            have N1 := hide fun w' h => next_is9 t c k _ rfl w' HO.out h (by omega) h1 (by omega)
            have N2 := hide fun w' => rnext_is t c k _ rfl w' HO.out h1 (by omega) (by omega)
            have LI := hide fun w' => list_any t w' HO.out
            have W1 := hide fun w' => new_is k (TB.news k) (by rw [Int.toNat_natCast]) w' (by omega) (by omega)
            have W2 := hide fun w' => rtabs_is k _ rfl w' (by omega)
            have H64 := hide fun w' => has_is t 64 false (TB.has_no (by decide)) w' HO.out (by omega) (by omega)
            have HM1 := hide fun w' => has_is t (-1) false (TB.has_no (by decide)) w' HO.out (by omega) (by omega)
            generalize TB.next t c k = z at N1 N2
            generalize TB.news k = nw at W1 W2
            generalize TB.list t = ls at SL LI LL
            generalize hll : ls.length = ll at SL LI LL
            clear hown SR S1 B1 T1 hbel
            go_wp2_with fail
            refine (PC.out _ _ _ _ SF.out).mono ?_
            rintro e w' ⟨rfl, rfl⟩
            go_wp2_with fail
            refine (DC.out _ _ _ _ S2.out).mono ?_
            rintro e w' ⟨rfl, rfl⟩
            go_wp2_with fail
            refine (IN.out _ SR2.out S2.out 0).mono ?_
            rintro e w3 ⟨rfl, b3⟩
            have T3 := hide (T2.out.keep b3)
            have B3 := hide (B2.out.trans (b3.mono B2.out.size))
            have SL3 := hide ((SL.out.below b3).more b3.size)
            clear b3 SR2 S2 SF SL T2 B2
            go_wp2_with fail
            refine (N1.out _ T3.out).mono ?_
            rintro e w' ⟨rfl, rfl⟩
            go_wp2_with fail
            refine (N2.out _).mono ?_
            rintro e w' ⟨rfl, rfl⟩
            go_wp2_with fail
            refine (LI.out _).mono ?_
            rintro e w4 ⟨v4, rfl, hv4, b4⟩
            obtain ⟨A4, c4, rfl, _⟩ := own_form hv4
            have S4 := hide (Seen.of_own hv4)
            have SL4 := hide ((SL3.out.below b4).more b4.size)
            have T4 := hide (T3.out.keep b4)
            have B4 := hide (B3.out.trans (b4.mono B3.out.size))
            clear hv4 b4 SL3 T3 B3
            go_wp2_with fail
            refine (same64_is (ls.map fun i : Nat => (i : Int)) A4 AL _ _ ll c4 ll cL _ (by have := S4.out; rw [nats_ints] at this; exact this) (by have := SL4.out; rw [nats_ints] at this; exact this) (by omega)).mono ?_
            rintro e w5 ⟨rfl, b5⟩
            have T5 := hide (T4.out.keep b5)
            have B5 := hide (B4.out.trans (b5.mono B4.out.size))
            clear b5 S4 SL4 T4 B4
            go_wp2_with fail
            refine (W1.out _).mono ?_
            rintro e w' ⟨rfl, rfl⟩
            go_wp2_with fail
            refine (W2.out _).mono ?_
            rintro e w' ⟨rfl, rfl⟩
            go_wp2_with fail
            refine (H64.out _).mono ?_
            rintro e w' ⟨rfl, rfl⟩
            go_wp2_with fail
            refine (HM1.out _).mono ?_
            rintro e w' ⟨rfl, rfl⟩
            go_wp2_with fail
            refine (tabsRuns_any _ T5.out).mono ?_
            rintro e w6 ⟨rfl, b6⟩
            go_wp2_with fail
            go_ret
            exact ⟨rfl, B5.out.trans (b6.mono B5.out.size)⟩
theorem tabsTells_any (a : Int) (A0 : Option Addr) (n0 c0 : Nat) (l0 : List Int) (cc nn : Int) (w : World) (wa : (Lit.int .u64 a).wf = true) (hA : Arg .i64 w A0 n0 c0 l0) (wc : (Lit.int .i64 cc).wf = true) (wn : (Lit.int .i64 nn).wf = true) (hT : BTab w) :
    Calls Tryd.prog 4 #[.int .u64 a, .slice A0 n0 c0, .int .i64 cc, .int .i64 nn] w fun e w' => e = .returned (.bool true) ∧ Below w.heap.size w w' := by
  obtain ⟨a0, a1⟩ := bounds_u64 wa
  obtain ⟨c0', c1⟩ := bounds_i64 wc
  obtain ⟨n0', n1⟩ := bounds_i64 wn
  obtain ⟨t, rfl⟩ := Int.eq_ofNat_of_zero_le a0
  have ht : TB.Ok t := by unfold TB.Ok; omega
  obtain ⟨k, hk⟩ : ∃ k : Nat, 1 + nn % (64 - 1 + 1) = (k : Int) := ⟨(1 + nn % (64 - 1 + 1)).toNat, by omega⟩
  obtain ⟨c, hc⟩ : ∃ k : Nat, 0 + cc % (63 - 0 + 1) = (k : Int) := ⟨(0 + cc % (63 - 0 + 1)).toNat, by omega⟩
  exact tabsTells_t t A0 n0 c0 l0 cc nn c k w hA hT ht (fun w' => within_is nn 1 64 _ hk w' (by omega) (by omega) (by omega) (by omega) (by omega)) (fun w' => within_is cc 0 63 _ hc w' (by omega) (by omega) (by omega) (by omega) (by omega)) (by omega) (by omega) (by omega)
end Go.Proofs.YtboegggoeemfdaaDoor
