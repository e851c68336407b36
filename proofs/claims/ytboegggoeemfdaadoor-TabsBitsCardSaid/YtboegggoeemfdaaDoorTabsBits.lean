/- TabsBits: each stop is by itself; put in any order; what is no column is passed over. -/
import Derived.Test.YtboegggoeemfdaaDoorTabsWalk
import Derived.Test.YtboegggoeemfdaaDoorKnown
import Derived.Test.YtboegggoeemfdaaDoorCases
set_option maxRecDepth 100000
namespace Go.Proofs.YtboegggoeemfdaaDoor
open Go.RowKit
set_option linter.unusedVariables false
theorem has_union {a b : List Int} (c : Int) : TB.has (TB.puts (TB.puts 0 a) b) c = (TB.has (TB.puts 0 a) c || TB.has (TB.puts 0 b) c) := by
  by_cases hc : TB.col c
  · unfold TB.has
    rw [decide_eq_true hc, Bool.true_and, Bool.true_and, Bool.true_and, TB.puts_union (x := 0) (y := 0) TB.ok0 (by unfold TB.col at hc; omega)]
  · rw [TB.has_no hc, TB.has_no hc, TB.has_no hc]
    rfl
theorem drops_union (a b : List Int) : TB.drops (TB.puts (TB.puts 0 a) b) a = TB.drops (TB.puts 0 b) a := TB.ext (TB.drops_ok (TB.puts_ok (TB.puts_ok TB.ok0))) (TB.drops_ok (TB.puts_ok TB.ok0)) fun i hi => by
  rw [TB.drops_bit _ _ i hi, TB.drops_bit _ _ i hi, TB.puts_union (x := 0) (y := 0) TB.ok0 hi, TB.puts_bit a 0 i hi]
  simp only [Nat.zero_testBit, Bool.false_or]
  cases (a.any fun x => decide (x = (i : Int))) <;> simp
theorem puts_none (t : Nat) : TB.puts t [-1, 64, 99] = t := by
  unfold TB.puts TB.puts TB.puts TB.puts
  rw [if_neg (by decide), if_neg (by decide), if_neg (by decide)]
theorem list_zero : TB.list 0 = [] := by decide
set_option maxHeartbeats 8000000 in
theorem tabsBits_t (A0 A1 : Option Addr) (n0 c0 n1 c1 m0 m1 : Nat) (l0 l1 : List Int) (nn : Int) (n : Nat) (w : World) (hA : Arg .i64 w A0 n0 c0 l0) (hB : Arg .i64 w A1 n1 c1 l1) (hT : BTab w)
    (NW : Hid (∀ w, Calls Tryd.prog 14 #[.int .i64 nn, .int .i64 0, .int .i64 60] w fun e w' => e = .returned (.int .i64 n) ∧ w = w'))
    (h2 : n ≤ 60) (hm0 : min n0 9 = m0) (hm1 : min n1 9 = m1) :
    Calls Tryd.prog 6 #[.slice A0 n0 c0, .slice A1 n1 c1, .int .i64 nn] w fun e w' => e = .returned (.bool true) ∧ Below w.heap.size w w' := by
  have hcap0 := hA.cap
  have hle0 := hA.le
  have hcap1 := hB.cap
  have hle1 := hB.le
  unfold maxLen at hcap0 hcap1
  have k0 : m0 ≤ n0 := by omega
  have k1 : m1 ≤ n1 := by omega
  have j0 : m0 ≤ 9 := by omega
  have j1 : m1 ≤ 9 := by omega
  have MN0 := hide (show (if 9 < (n0 : Int) then (9 : Int) else (n0 : Int)) = (m0 : Int) by split <;> omega)
  have MN1 := hide (show (if 9 < (n1 : Int) then (9 : Int) else (n1 : Int)) = (m1 : Int) by split <;> omega)
  have hs0 := hA.seen.take k0
  have hs1 := hB.seen.take k1
  rw [← List.map_take] at hs0 hs1
  have HX0 := hide (fun x (hx : x ∈ l0.take m0) => bounds_i64 (hA.wf x (List.mem_of_mem_take hx)))
  have HX1 := hide (fun x (hx : x ∈ l1.take m1) => bounds_i64 (hB.wf x (List.mem_of_mem_take hx)))
  generalize l0.take m0 = a at hs0 HX0
  generalize l1.take m1 = b at hs1 HX1
  have SA := hide hs0
  have SB := hide hs1
  have HT := hide hT
  clear hA hB hT hs0 hs1 hm0 hm1
  have PX := hide fun w' (h : Seen w' w.heap.size A0 m0 (a.map (Value.int .i64))) => put_is 0 A0 m0 c0 _ a _ rfl w' TB.ok0 h (by omega) HX0.out
  have PY := hide fun w' (h : Seen w' w.heap.size A1 m1 (b.map (Value.int .i64))) => put_is 0 A1 m1 c1 _ b _ rfl w' TB.ok0 h (by omega) HX1.out
  have hX : TB.Ok (TB.puts 0 a) := TB.puts_ok TB.ok0
  have hY : TB.Ok (TB.puts 0 b) := TB.puts_ok TB.ok0
  have hZ : TB.Ok (TB.puts (TB.puts 0 a) b) := TB.puts_ok hX
  have PZ1 := hide fun w' (h : Seen w' w.heap.size A1 m1 (b.map (Value.int .i64))) => put_is (TB.puts 0 a) A1 m1 c1 _ b _ rfl w' hX h (by omega) HX1.out
  have DZ := hide fun w' (h : Seen w' w.heap.size A0 m0 (a.map (Value.int .i64))) => drop_is _ A0 m0 c0 _ a _ (drops_union a b) w' hZ h (by omega) HX0.out
  have DY := hide fun w' (h : Seen w' w.heap.size A0 m0 (a.map (Value.int .i64))) => drop_is (TB.puts 0 b) A0 m0 c0 _ a _ rfl w' hY h (by omega) HX0.out
  have PZ := hide fun (g B : Nat) w' (h : Seen w' B (some ⟨g, 0, none⟩) 3 [.int .i64 (-1), .int .i64 64, .int .i64 99]) => put_is _ (some ⟨g, 0, none⟩) 3 3 B [-1, 64, 99] _ (puts_none _) w' hZ h (by omega) (fun x hx => by simp at hx; omega)
  have FX := hide fun c (h0 : -9223372036854775808 ≤ c) (h1 : c ≤ 9223372036854775807) w' => has_is _ c _ rfl w' hX h0 h1
  have FY := hide fun c (h0 : -9223372036854775808 ≤ c) (h1 : c ≤ 9223372036854775807) w' => has_is _ c _ rfl w' hY h0 h1
  have FZ := hide fun c (h0 : -9223372036854775808 ≤ c) (h1 : c ≤ 9223372036854775807) w' => has_is _ c _ (has_union (a := a) (b := b) c) w' hZ h0 h1
  have L0 := hide fun w' => list_any 0 w' TB.ok0
  rw [list_zero] at L0
  clear hX hY hZ
  generalize TB.drops (TB.puts 0 b) a = D at DZ DY
  generalize TB.puts (TB.puts 0 a) b = Z at PZ1 DZ PZ FZ
  generalize TB.puts 0 a = X at PX PZ1 FX FZ
  generalize TB.puts 0 b = Y at PY DY FY FZ
  clear HX0 HX1
  go_enter Tryd.func6, Tryd.ntmps6
  go_upto_region 1 with fail
  go_cut [7, 8] from 15 to 26 (fun u v wx => u = .int .u64 X ∧ v = .int .u64 Y ∧ Below w.heap.size w wx)
  case first =>
    refine wp_region_known (n := 111) [(.slice A0 n0 c0), (.slice A0 n0 c0), (.int .i64 n0), (.int .i64 m0), (.slice A0 m0 c0), (.int .u64 X), (.slice A1 n1 c1), (.slice A1 n1 c1), (.int .i64 n1), (.int .i64 m1), (.slice A1 m1 c1), (.int .u64 Y), (.int .u64 X), (.int .u64 Y)] [] (by kernel_rfl) (by kernel_rfl) (by kernel_rfl) rfl AllStay.nil (cases14 ⟨?_, ?_, ?_, ?_, ?_, ?_, ?_, ?_, ?_, ?_, ?_, ?_, ?_, ?_⟩) ?_
    · intro L a w' hsame hb hdep hphi
      have e0 : a.eval (.tmp 0) = (.slice A0 n0 c0) := eval_base hsame (by kernel_rfl)
      refine StepP.val _ rfl rfl (wanted_none rfl) (.slice A0 n0 c0) w' (fun ρ hρ => ?_) (Below.refl _ _) rfl
      rw [hρ] at e0
      clear hsame hdep hphi hρ
      go_simp
    · intro L a w' hsame hb hdep hphi
      have e0 : a.eval (.tmp 0) = (.slice A0 n0 c0) := eval_base hsame (by kernel_rfl)
      refine StepP.val _ rfl rfl (wanted_none rfl) (.slice A0 n0 c0) w' (fun ρ hρ => ?_) (Below.refl _ _) rfl
      rw [hρ] at e0
      clear hsame hdep hphi hρ
      go_simp
    · intro L a w' hsame hb hdep hphi
      have e0 : a.eval (.tmp 16) = (.slice A0 n0 c0) := eval_slot (j := 1) (by kernel_rfl) (hphi 1 (dep_of hdep 1 (by kernel_rfl)))
      refine StepP.val _ rfl rfl (wanted_none rfl) (.int .i64 n0) w' (fun ρ hρ => ?_) (Below.refl _ _) rfl
      rw [hρ] at e0
      clear hsame hdep hphi hρ
      go_simp
    · intro L a w' hsame hb hdep hphi
      have e0 : a.eval (.tmp 17) = (.int .i64 n0) := eval_slot (j := 2) (by kernel_rfl) (hphi 2 (dep_of hdep 2 (by kernel_rfl)))
      refine StepP.val _ rfl rfl (wanted_none rfl) (.int .i64 m0) w' (fun ρ hρ => ?_) (Below.refl _ _) rfl
      rw [hρ] at e0
      have ec1 : ρ (.const (.int .i64 9)) = (.int .i64 9) := (hρ _).symm
      clear hsame hdep hphi hρ
      go_simp
      exact MN0.out
    · intro L a w' hsame hb hdep hphi
      have e0 : a.eval (.tmp 15) = (.slice A0 n0 c0) := eval_slot (j := 0) (by kernel_rfl) (hphi 0 (dep_of hdep 0 (by kernel_rfl)))
      have e1 : a.eval (.tmp 18) = (.int .i64 m0) := eval_slot (j := 3) (by kernel_rfl) (hphi 3 (dep_of hdep 3 (by kernel_rfl)))
      refine StepP.val _ rfl rfl (wanted_none rfl) (.slice A0 m0 c0) w' (fun ρ hρ => ?_) (Below.refl _ _) rfl
      rw [hρ] at e0 e1
      clear hsame hdep hphi hρ
      go_simp
      intro h
      omega
    · intro L a w' hsame hb hdep hphi
      have e1 : a.eval (.tmp 19) = (.slice A0 m0 c0) := eval_slot (j := 4) (by kernel_rfl) (hphi 4 (dep_of hdep 4 (by kernel_rfl)))
      refine StepP.call _ rfl rfl (wanted_none rfl) 15 #[.int .u64 0, .slice A0 m0 c0] (fun ρ hρ => ?_) ?_
      · skip
        rw [hρ] at e1
        have ec0 : ρ (.const (.int .u64 0)) = (.int .u64 0) := (hρ _).symm
        have ef : ρ (.func 15) = .func (.func 15) #[] #[] := (hρ _).symm
        clear hsame hdep hphi hρ
        go_simp
      · refine (PX.out _ (SA.out.below hb)).mono ?_
        rintro e w2 ⟨rfl, rfl⟩
        exact ⟨_, rfl, Below.refl _ _, rfl⟩
    · intro L a w' hsame hb hdep hphi
      have e0 : a.eval (.tmp 1) = (.slice A1 n1 c1) := eval_base hsame (by kernel_rfl)
      refine StepP.val _ rfl rfl (wanted_none rfl) (.slice A1 n1 c1) w' (fun ρ hρ => ?_) (Below.refl _ _) rfl
      rw [hρ] at e0
      clear hsame hdep hphi hρ
      go_simp
    · intro L a w' hsame hb hdep hphi
      have e0 : a.eval (.tmp 1) = (.slice A1 n1 c1) := eval_base hsame (by kernel_rfl)
      refine StepP.val _ rfl rfl (wanted_none rfl) (.slice A1 n1 c1) w' (fun ρ hρ => ?_) (Below.refl _ _) rfl
      rw [hρ] at e0
      clear hsame hdep hphi hρ
      go_simp
    · intro L a w' hsame hb hdep hphi
      have e0 : a.eval (.tmp 22) = (.slice A1 n1 c1) := eval_slot (j := 7) (by kernel_rfl) (hphi 7 (dep_of hdep 7 (by kernel_rfl)))
      refine StepP.val _ rfl rfl (wanted_none rfl) (.int .i64 n1) w' (fun ρ hρ => ?_) (Below.refl _ _) rfl
      rw [hρ] at e0
      clear hsame hdep hphi hρ
      go_simp
    · intro L a w' hsame hb hdep hphi
      have e0 : a.eval (.tmp 23) = (.int .i64 n1) := eval_slot (j := 8) (by kernel_rfl) (hphi 8 (dep_of hdep 8 (by kernel_rfl)))
      refine StepP.val _ rfl rfl (wanted_none rfl) (.int .i64 m1) w' (fun ρ hρ => ?_) (Below.refl _ _) rfl
      rw [hρ] at e0
      have ec1 : ρ (.const (.int .i64 9)) = (.int .i64 9) := (hρ _).symm
      clear hsame hdep hphi hρ
      go_simp
      exact MN1.out
    · intro L a w' hsame hb hdep hphi
      have e0 : a.eval (.tmp 21) = (.slice A1 n1 c1) := eval_slot (j := 6) (by kernel_rfl) (hphi 6 (dep_of hdep 6 (by kernel_rfl)))
      have e1 : a.eval (.tmp 24) = (.int .i64 m1) := eval_slot (j := 9) (by kernel_rfl) (hphi 9 (dep_of hdep 9 (by kernel_rfl)))
      refine StepP.val _ rfl rfl (wanted_none rfl) (.slice A1 m1 c1) w' (fun ρ hρ => ?_) (Below.refl _ _) rfl
      rw [hρ] at e0 e1
      clear hsame hdep hphi hρ
      go_simp
      intro h
      omega
    · intro L a w' hsame hb hdep hphi
      have e1 : a.eval (.tmp 25) = (.slice A1 m1 c1) := eval_slot (j := 10) (by kernel_rfl) (hphi 10 (dep_of hdep 10 (by kernel_rfl)))
      refine StepP.call _ rfl rfl (wanted_none rfl) 15 #[.int .u64 0, .slice A1 m1 c1] (fun ρ hρ => ?_) ?_
      · skip
        rw [hρ] at e1
        have ec0 : ρ (.const (.int .u64 0)) = (.int .u64 0) := (hρ _).symm
        have ef : ρ (.func 15) = .func (.func 15) #[] #[] := (hρ _).symm
        clear hsame hdep hphi hρ
        go_simp
      · refine (PY.out _ (SB.out.below hb)).mono ?_
        rintro e w2 ⟨rfl, rfl⟩
        exact ⟨_, rfl, Below.refl _ _, rfl⟩
    · intro L a w' hsame hb hdep hphi
      have e0 : a.eval (.tmp 20) = (.int .u64 X) := eval_slot (j := 5) (by kernel_rfl) (hphi 5 (dep_of hdep 5 (by kernel_rfl)))
      refine StepP.val _ rfl rfl (wanted_none rfl) (.int .u64 X) w' (fun ρ hρ => ?_) (Below.refl _ _) rfl
      rw [hρ] at e0
      clear hsame hdep hphi hρ
      go_simp
    · intro L a w' hsame hb hdep hphi
      have e0 : a.eval (.tmp 26) = (.int .u64 Y) := eval_slot (j := 11) (by kernel_rfl) (hphi 11 (dep_of hdep 11 (by kernel_rfl)))
      refine StepP.val _ rfl rfl (wanted_none rfl) (.int .u64 Y) w' (fun ρ hρ => ?_) (Below.refl _ _) rfl
      rw [hρ] at e0
      clear hsame hdep hphi hρ
      go_simp
    · intro u w' hb hall
      have f0 := hall 0 (by decide)
      have f1 := hall 1 (by decide)
      have f2 := hall 2 (by decide)
      have f3 := hall 3 (by decide)
      have f4 := hall 4 (by decide)
      have f5 := hall 5 (by decide)
      have f6 := hall 6 (by decide)
      have f7 := hall 7 (by decide)
      have f8 := hall 8 (by decide)
      have f9 := hall 9 (by decide)
      have f10 := hall 10 (by decide)
      have f11 := hall 11 (by decide)
      have f12 := hall 12 (by decide)
      have f13 := hall 13 (by decide)
      clear hall
      change Exit.then _ _ Exit.normal (Act.put (Act.put (Act.put (Act.put (Act.put (Act.put (Act.put (Act.put (Act.put (Act.put (Act.put (Act.put (Act.put (Act.put (putAll _ u 0 _) (some 15) (u 0)) (some 16) (u 1)) (some 17) (u 2)) (some 18) (u 3)) (some 19) (u 4)) (some 20) (u 5)) (some 21) (u 6)) (some 22) (u 7)) (some 23) (u 8)) (some 24) (u 9)) (some 25) (u 10)) (some 26) (u 11)) (some 7) (u 12)) (some 8) (u 13)) _
      simp only [putAll]
      generalize u 0 = u0 at f0 ⊢
      generalize u 1 = u1 at f1 ⊢
      generalize u 2 = u2 at f2 ⊢
      generalize u 3 = u3 at f3 ⊢
      generalize u 4 = u4 at f4 ⊢
      generalize u 5 = u5 at f5 ⊢
      generalize u 6 = u6 at f6 ⊢
      generalize u 7 = u7 at f7 ⊢
      generalize u 8 = u8 at f8 ⊢
      generalize u 9 = u9 at f9 ⊢
      generalize u 10 = u10 at f10 ⊢
      generalize u 11 = u11 at f11 ⊢
      generalize u 12 = u12 at f12 ⊢
      generalize u 13 = u13 at f13 ⊢
      go_simp
      go_step
      go_meet
      exact ⟨f12, f13, hb⟩
  case rest =>
    obtain ⟨rfl, rfl, b1⟩ := hcut
    have sb1 := SB.out.below b1
    have SB1 := hide sb1
    clear sb1 SB PX PY
    go_upto_region 2 with fail
    go_cut [9] from 27 to 33 (fun u wx => u = .int .u64 Z ∧ wx = wc)
    case first =>
      by_cases h : n1 ≤ 9
      · obtain rfl : m1 = n1 := by
          have := MN1.out
          rw [if_neg (by omega)] at this
          omega
        go_wp2_with fail
        refine (PZ1.out _ SB1.out).mono ?_
        rintro e w2 ⟨rfl, rfl⟩
        go_wp2_with fail
        go_meet
        exact ⟨rfl, by first | rfl | trivial⟩
      · obtain rfl : m1 = 9 := by
          have := MN1.out
          rw [if_pos (by omega)] at this
          omega
        go_wp2_with fail
        refine (PZ1.out _ SB1.out).mono ?_
        rintro e w2 ⟨rfl, rfl⟩
        go_wp2_with fail
        go_meet
        exact ⟨rfl, by first | rfl | trivial⟩
    case rest =>
      obtain ⟨rfl, rfl⟩ := hcut
      clear SB1 PZ1
      have B1 := hide b1
      have SA1 := hide (SA.out.below b1)
      have TB1 := hide (HT.out.keep b1)
      clear b1 SA HT
      go_wp2_with fail
      go_loopw [10] (fun i wr => ∃ c : Int, -1 ≤ c ∧ c ≤ 65 ∧ i = .int .i64 c ∧ wr = wc) (fun i _ => (66 - intOf i).toNat)
      case atStart => exact ⟨-1, by omega, by omega, rfl, rfl⟩
      case round =>
        obtain ⟨c, hc0, hc1, rfl, rfl⟩ := hrel
        by_cases hlt : c ≤ 64
        · have CX := hide (FX.out c (by omega) (by omega))
          have CY := hide (FY.out c (by omega) (by omega))
          have CZ := hide (FZ.out c (by omega) (by omega))
          cases hx : TB.has X c with
          | true =>
            rw [hx] at CX CZ
            rw [Bool.true_or] at CZ
            clear hx
            go_wp2_with fail
            refine (CZ.out _).mono ?_
            rintro e w2 ⟨rfl, rfl⟩
            go_wp2_with fail
            refine (CX.out _).mono ?_
            rintro e w2 ⟨rfl, rfl⟩
            go_wp2_with fail
            go_roundw
            case rel => exact ⟨c + 1, by omega, by omega, by go_num, by first | rfl | trivial⟩
            case measure => simp [intOf]; omega
          | false =>
            rw [hx] at CX CZ
            rw [Bool.false_or] at CZ
            clear hx
            cases hy : TB.has Y c with
            | true =>
              rw [hy] at CY CZ
              clear hy
              go_wp2_with fail
              refine (CZ.out _).mono ?_
              rintro e w2 ⟨rfl, rfl⟩
              go_wp2_with fail
              refine (CX.out _).mono ?_
              rintro e w2 ⟨rfl, rfl⟩
              go_wp2_with fail
              refine (CY.out _).mono ?_
              rintro e w2 ⟨rfl, rfl⟩
              go_wp2_with fail
              go_roundw
              case rel => exact ⟨c + 1, by omega, by omega, by go_num, by first | rfl | trivial⟩
              case measure => simp [intOf]; omega
            | false =>
              rw [hy] at CY CZ
              clear hy
              go_wp2_with fail
              refine (CZ.out _).mono ?_
              rintro e w2 ⟨rfl, rfl⟩
              go_wp2_with fail
              refine (CX.out _).mono ?_
              rintro e w2 ⟨rfl, rfl⟩
              go_wp2_with fail
              refine (CY.out _).mono ?_
              rintro e w2 ⟨rfl, rfl⟩
              go_wp2_with fail
              go_roundw
              case rel => exact ⟨c + 1, by omega, by omega, by go_num, by first | rfl | trivial⟩
              case measure => simp [intOf]; omega
        · obtain rfl : c = 65 := by omega
          have W1 := hide fun w' => new_is n (TB.news n) (by rw [Int.toNat_natCast]) w' (by omega) (by omega)
          have LI := hide fun w' => list_any (TB.news n) w' (TB.news_ok n)
          have EL := hide (TB.list_news h2)
          generalize TB.news n = nw at W1 LI EL
          clear FX FY FZ
          go_wp2_with fail
          refine (NW.out _).mono ?_
          rintro e w' ⟨rfl, rfl⟩
          go_wp2_with fail
          refine (W1.out _).mono ?_
          rintro e w' ⟨rfl, rfl⟩
          go_wp2_with fail
          refine (LI.out _).mono ?_
          rintro e w2 ⟨v2, rfl, hv2, b2⟩
          rw [EL.out] at hv2
          obtain ⟨ll, hll, hl1, hl2⟩ : ∃ ll, (n - 1) / 8 = ll ∧ 8 * ll < n + 8 ∧ n ≤ 8 * ll + 8 := ⟨_, rfl, by omega, by omega⟩
          have hl3 : ll ≤ 7 := by omega
          have hl4 : ∀ q, q < ll → 8 * (q + 1) < n := fun q hq => by omega
          have HL4 := hide hl4
          rw [hll, List.length_map, List.length_range] at hv2
          obtain ⟨AL, cL, rfl, _⟩ := own_form hv2
          have S2 := hide (Seen.of_own hv2)
          have B2 := hide (B1.out.trans (b2.mono B1.out.size))
          have SA2 := hide (SA1.out.below (b2.mono B1.out.size))
          have TB2 := hide (TB1.out.keep b2)
          clear hv2 b2 hll B1 SA1 TB1 LI EL hl4
          go_wp2_with fail
          go_loopw [57] (fun i wx => ∃ q : Nat, q ≤ ll ∧ i = .int .i64 q ∧ wx = w2) (fun i _ => ll - (intOf i).toNat)
          case atStart => exact ⟨0, by omega, rfl, rfl⟩
          case round =>
            obtain ⟨q, hq, rfl, rfl⟩ := hrel
            by_cases hlt2 : q < ll
            · obtain ⟨ad, u, rfl, _, hu, hcell⟩ := S2.out.at_ hlt2
              have hln := HL4.out q hlt2
              have hu' : u = .int .i64 (8 * ((q : Int) + 1)) := by
                unfold nats at hu
                rw [List.getElem?_map, List.getElem?_map, List.getElem?_range hlt2] at hu
                simp only [Option.map_some, Option.some.injEq] at hu
                rw [← hu]
                simp
              subst hu'
              have d1 : decide ((n : Int) ≤ 8 * ((q : Int) + 1)) = false := decide_eq_false (by omega)
              clear hu
              go_wp2_with fail
              go_roundw
              case rel => exact ⟨q + 1, by omega, by go_num, by first | rfl | trivial⟩
              case measure => simp [intOf]; omega
            · obtain rfl : q = ll := by omega
              have d2 : (n : Int) ≤ 8 * ((q : Int) + 1) := by omega
              go_upto_region 16 with fail
              go_cut [6] from 73 to 110 (fun u wx => u = .bool true ∧ Below w.heap.size w wx)
              case first =>
                refine wp_region_known (n := 111) [(.int .u64 Z), (.slice A0 n0 c0), (.slice A0 n0 c0), (.int .i64 n0), (.int .i64 m0), (.slice A0 m0 c0), (.int .u64 D), (.int .u64 Y), (.slice A0 n0 c0), (.slice A0 n0 c0), (.int .i64 n0), (.int .i64 m0), (.slice A0 m0 c0), (.int .u64 D), (.bool true), (.bool true), (.int .i64 n), (.slice AL q cL), (.int .i64 q), (.int .i64 ((q : Int) + 1)), (.int .i64 (8 * ((q : Int) + 1))), (.bool true), (.bool true), (.bool true), (.int .u64 Z), undef, (.int .u64 Z), (.int .u64 Z), (.bool true), (.bool true), (.bool true), undef, (.int .i64 0), (.bool true), (.bool true), (.bool true), (.bool true), (.bool true), (.bool true)] [none, none, none, none, none, none, none, none, none, none, none, none, none, none, none, none, none, none, none, none, none, none, none, none, none, some (fun v wx => ∃ g : Nat, v = .slice (some ⟨g, 0, none⟩) 3 3 ∧ Seen wx wx.heap.size (some ⟨g, 0, none⟩) 3 [.int .i64 (-1), .int .i64 64, .int .i64 99]), none, none, none, none, none, some (fun v wx => ∃ (A : Option Addr) (c : Nat), v = .slice A 0 c)] (by kernel_rfl) (by kernel_rfl) (by kernel_rfl) rfl (AllStay.none_ (AllStay.none_ (AllStay.none_ (AllStay.none_ (AllStay.none_ (AllStay.none_ (AllStay.none_ (AllStay.none_ (AllStay.none_ (AllStay.none_ (AllStay.none_ (AllStay.none_ (AllStay.none_ (AllStay.none_ (AllStay.none_ (AllStay.none_ (AllStay.none_ (AllStay.none_ (AllStay.none_ (AllStay.none_ (AllStay.none_ (AllStay.none_ (AllStay.none_ (AllStay.none_ (AllStay.none_ (AllStay.some_ (fun v x y ⟨g, h1, h2⟩ hb => ⟨g, h1, (h2.below hb).more hb.size⟩) (AllStay.none_ (AllStay.none_ (AllStay.none_ (AllStay.none_ (AllStay.none_ (AllStay.some_ (fun v x y h hb => h) AllStay.nil)))))))))))))))))))))))))))))))) (cases39 ⟨?_, ?_, ?_, ?_, ?_, ?_, ?_, ?_, ?_, ?_, ?_, ?_, ?_, ?_, ?_, ?_, ?_, ?_, ?_, ?_, ?_, ?_, ?_, ?_, ?_, ?_, ?_, ?_, ?_, ?_, ?_, ?_, ?_, ?_, ?_, ?_, ?_, ?_, ?_⟩) ?_
                · intro L a w' hsame hb hdep hphi
                  have e0 : a.eval (.tmp 9) = (.int .u64 Z) := eval_base hsame (by kernel_rfl)
                  refine StepP.val _ rfl rfl (wanted_none rfl) (.int .u64 Z) w' (fun ρ hρ => ?_) (Below.refl _ _) rfl
                  rw [hρ] at e0
                  clear hsame hdep hphi hρ
                  go_simp
                · intro L a w' hsame hb hdep hphi
                  have e0 : a.eval (.tmp 0) = (.slice A0 n0 c0) := eval_base hsame (by kernel_rfl)
                  refine StepP.val _ rfl rfl (wanted_none rfl) (.slice A0 n0 c0) w' (fun ρ hρ => ?_) (Below.refl _ _) rfl
                  rw [hρ] at e0
                  clear hsame hdep hphi hρ
                  go_simp
                · intro L a w' hsame hb hdep hphi
                  have e0 : a.eval (.tmp 0) = (.slice A0 n0 c0) := eval_base hsame (by kernel_rfl)
                  refine StepP.val _ rfl rfl (wanted_none rfl) (.slice A0 n0 c0) w' (fun ρ hρ => ?_) (Below.refl _ _) rfl
                  rw [hρ] at e0
                  clear hsame hdep hphi hρ
                  go_simp
                · intro L a w' hsame hb hdep hphi
                  have e0 : a.eval (.tmp 75) = (.slice A0 n0 c0) := eval_slot (j := 2) (by kernel_rfl) (hphi 2 (dep_of hdep 2 (by kernel_rfl)))
                  refine StepP.val _ rfl rfl (wanted_none rfl) (.int .i64 n0) w' (fun ρ hρ => ?_) (Below.refl _ _) rfl
                  rw [hρ] at e0
                  clear hsame hdep hphi hρ
                  go_simp
                · intro L a w' hsame hb hdep hphi
                  have e0 : a.eval (.tmp 76) = (.int .i64 n0) := eval_slot (j := 3) (by kernel_rfl) (hphi 3 (dep_of hdep 3 (by kernel_rfl)))
                  refine StepP.val _ rfl rfl (wanted_none rfl) (.int .i64 m0) w' (fun ρ hρ => ?_) (Below.refl _ _) rfl
                  rw [hρ] at e0
                  have ec1 : ρ (.const (.int .i64 9)) = (.int .i64 9) := (hρ _).symm
                  clear hsame hdep hphi hρ
                  go_simp
                  exact MN0.out
                · intro L a w' hsame hb hdep hphi
                  have e0 : a.eval (.tmp 74) = (.slice A0 n0 c0) := eval_slot (j := 1) (by kernel_rfl) (hphi 1 (dep_of hdep 1 (by kernel_rfl)))
                  have e1 : a.eval (.tmp 77) = (.int .i64 m0) := eval_slot (j := 4) (by kernel_rfl) (hphi 4 (dep_of hdep 4 (by kernel_rfl)))
                  refine StepP.val _ rfl rfl (wanted_none rfl) (.slice A0 m0 c0) w' (fun ρ hρ => ?_) (Below.refl _ _) rfl
                  rw [hρ] at e0 e1
                  clear hsame hdep hphi hρ
                  go_simp
                  intro h
                  omega
                · intro L a w' hsame hb hdep hphi
                  have e0 : a.eval (.tmp 73) = (.int .u64 Z) := eval_slot (j := 0) (by kernel_rfl) (hphi 0 (dep_of hdep 0 (by kernel_rfl)))
                  have e1 : a.eval (.tmp 78) = (.slice A0 m0 c0) := eval_slot (j := 5) (by kernel_rfl) (hphi 5 (dep_of hdep 5 (by kernel_rfl)))
                  refine StepP.call _ rfl rfl (wanted_none rfl) 16 #[.int .u64 Z, .slice A0 m0 c0] (fun ρ hρ => ?_) ?_
                  · skip
                    rw [hρ] at e0 e1
                    have ef : ρ (.func 16) = .func (.func 16) #[] #[] := (hρ _).symm
                    clear hsame hdep hphi hρ
                    go_simp
                  · refine (DZ.out _ (SA2.out.below (hb.mono B2.out.size))).mono ?_
                    rintro e w2 ⟨rfl, rfl⟩
                    exact ⟨_, rfl, Below.refl _ _, rfl⟩
                · intro L a w' hsame hb hdep hphi
                  have e0 : a.eval (.tmp 8) = (.int .u64 Y) := eval_base hsame (by kernel_rfl)
                  refine StepP.val _ rfl rfl (wanted_none rfl) (.int .u64 Y) w' (fun ρ hρ => ?_) (Below.refl _ _) rfl
                  rw [hρ] at e0
                  clear hsame hdep hphi hρ
                  go_simp
                · intro L a w' hsame hb hdep hphi
                  have e0 : a.eval (.tmp 0) = (.slice A0 n0 c0) := eval_base hsame (by kernel_rfl)
                  refine StepP.val _ rfl rfl (wanted_none rfl) (.slice A0 n0 c0) w' (fun ρ hρ => ?_) (Below.refl _ _) rfl
                  rw [hρ] at e0
                  clear hsame hdep hphi hρ
                  go_simp
                · intro L a w' hsame hb hdep hphi
                  have e0 : a.eval (.tmp 0) = (.slice A0 n0 c0) := eval_base hsame (by kernel_rfl)
                  refine StepP.val _ rfl rfl (wanted_none rfl) (.slice A0 n0 c0) w' (fun ρ hρ => ?_) (Below.refl _ _) rfl
                  rw [hρ] at e0
                  clear hsame hdep hphi hρ
                  go_simp
                · intro L a w' hsame hb hdep hphi
                  have e0 : a.eval (.tmp 82) = (.slice A0 n0 c0) := eval_slot (j := 9) (by kernel_rfl) (hphi 9 (dep_of hdep 9 (by kernel_rfl)))
                  refine StepP.val _ rfl rfl (wanted_none rfl) (.int .i64 n0) w' (fun ρ hρ => ?_) (Below.refl _ _) rfl
                  rw [hρ] at e0
                  clear hsame hdep hphi hρ
                  go_simp
                · intro L a w' hsame hb hdep hphi
                  have e0 : a.eval (.tmp 83) = (.int .i64 n0) := eval_slot (j := 10) (by kernel_rfl) (hphi 10 (dep_of hdep 10 (by kernel_rfl)))
                  refine StepP.val _ rfl rfl (wanted_none rfl) (.int .i64 m0) w' (fun ρ hρ => ?_) (Below.refl _ _) rfl
                  rw [hρ] at e0
                  have ec1 : ρ (.const (.int .i64 9)) = (.int .i64 9) := (hρ _).symm
                  clear hsame hdep hphi hρ
                  go_simp
                  exact MN0.out
                · intro L a w' hsame hb hdep hphi
                  have e0 : a.eval (.tmp 81) = (.slice A0 n0 c0) := eval_slot (j := 8) (by kernel_rfl) (hphi 8 (dep_of hdep 8 (by kernel_rfl)))
                  have e1 : a.eval (.tmp 84) = (.int .i64 m0) := eval_slot (j := 11) (by kernel_rfl) (hphi 11 (dep_of hdep 11 (by kernel_rfl)))
                  refine StepP.val _ rfl rfl (wanted_none rfl) (.slice A0 m0 c0) w' (fun ρ hρ => ?_) (Below.refl _ _) rfl
                  rw [hρ] at e0 e1
                  clear hsame hdep hphi hρ
                  go_simp
                  intro h
                  omega
                · intro L a w' hsame hb hdep hphi
                  have e0 : a.eval (.tmp 80) = (.int .u64 Y) := eval_slot (j := 7) (by kernel_rfl) (hphi 7 (dep_of hdep 7 (by kernel_rfl)))
                  have e1 : a.eval (.tmp 85) = (.slice A0 m0 c0) := eval_slot (j := 12) (by kernel_rfl) (hphi 12 (dep_of hdep 12 (by kernel_rfl)))
                  refine StepP.call _ rfl rfl (wanted_none rfl) 16 #[.int .u64 Y, .slice A0 m0 c0] (fun ρ hρ => ?_) ?_
                  · skip
                    rw [hρ] at e0 e1
                    have ef : ρ (.func 16) = .func (.func 16) #[] #[] := (hρ _).symm
                    clear hsame hdep hphi hρ
                    go_simp
                  · refine (DY.out _ (SA2.out.below (hb.mono B2.out.size))).mono ?_
                    rintro e w2 ⟨rfl, rfl⟩
                    exact ⟨_, rfl, Below.refl _ _, rfl⟩
                · intro L a w' hsame hb hdep hphi
                  have e0 : a.eval (.tmp 79) = (.int .u64 D) := eval_slot (j := 6) (by kernel_rfl) (hphi 6 (dep_of hdep 6 (by kernel_rfl)))
                  have e1 : a.eval (.tmp 86) = (.int .u64 D) := eval_slot (j := 13) (by kernel_rfl) (hphi 13 (dep_of hdep 13 (by kernel_rfl)))
                  refine StepP.val _ rfl rfl (wanted_none rfl) (.bool true) w' (fun ρ hρ => ?_) (Below.refl _ _) rfl
                  rw [hρ] at e0 e1
                  clear hsame hdep hphi hρ
                  go_simp
                · intro L a w' hsame hb hdep hphi
                  have e0 : a.eval (.tmp 87) = (.bool true) := eval_slot (j := 14) (by kernel_rfl) (hphi 14 (dep_of hdep 14 (by kernel_rfl)))
                  refine StepP.val _ rfl rfl (wanted_none rfl) (.bool true) w' (fun ρ hρ => ?_) (Below.refl _ _) rfl
                  rw [hρ] at e0
                  clear hsame hdep hphi hρ
                  go_simp
                · intro L a w' hsame hb hdep hphi
                  have gd : valOf _ 15 a = .bool true := hphi 15 (dep_of hdep 15 (by kernel_rfl))
                  have e0 : a.eval (.tmp 11) = (.int .i64 n) := eval_base hsame (by kernel_rfl)
                  refine StepP.val _ rfl rfl (wanted_some (g := 15) (b := true) rfl gd) (.int .i64 n) w' (fun ρ hρ => ?_) (Below.refl _ _) rfl
                  rw [hρ] at e0
                  clear hsame hdep hphi hρ gd
                  go_simp
                · intro L a w' hsame hb hdep hphi
                  have gd : valOf _ 15 a = .bool true := hphi 15 (dep_of hdep 15 (by kernel_rfl))
                  have e0 : a.eval (.tmp 12) = (.slice AL q cL) := eval_base hsame (by kernel_rfl)
                  refine StepP.val _ rfl rfl (wanted_some (g := 15) (b := true) rfl gd) (.slice AL q cL) w' (fun ρ hρ => ?_) (Below.refl _ _) rfl
                  rw [hρ] at e0
                  clear hsame hdep hphi hρ gd
                  go_simp
                · intro L a w' hsame hb hdep hphi
                  have gd : valOf _ 15 a = .bool true := hphi 15 (dep_of hdep 15 (by kernel_rfl))
                  have e0 : a.eval (.tmp 90) = (.slice AL q cL) := eval_slot (j := 17) (by kernel_rfl) (hphi 17 (dep_of hdep 17 (by kernel_rfl)))
                  refine StepP.val _ rfl rfl (wanted_some (g := 15) (b := true) rfl gd) (.int .i64 q) w' (fun ρ hρ => ?_) (Below.refl _ _) rfl
                  rw [hρ] at e0
                  clear hsame hdep hphi hρ gd
                  go_simp
                · intro L a w' hsame hb hdep hphi
                  have gd : valOf _ 15 a = .bool true := hphi 15 (dep_of hdep 15 (by kernel_rfl))
                  have e0 : a.eval (.tmp 91) = (.int .i64 q) := eval_slot (j := 18) (by kernel_rfl) (hphi 18 (dep_of hdep 18 (by kernel_rfl)))
                  refine StepP.val _ rfl rfl (wanted_some (g := 15) (b := true) rfl gd) (.int .i64 ((q : Int) + 1)) w' (fun ρ hρ => ?_) (Below.refl _ _) rfl
                  rw [hρ] at e0
                  have ec1 : ρ (.const (.int .i64 1)) = (.int .i64 1) := (hρ _).symm
                  clear hsame hdep hphi hρ gd
                  go_simp
                  exact IntWalk.i64_in _ (by omega)
                · intro L a w' hsame hb hdep hphi
                  have gd : valOf _ 15 a = .bool true := hphi 15 (dep_of hdep 15 (by kernel_rfl))
                  have e1 : a.eval (.tmp 92) = (.int .i64 ((q : Int) + 1)) := eval_slot (j := 19) (by kernel_rfl) (hphi 19 (dep_of hdep 19 (by kernel_rfl)))
                  refine StepP.val _ rfl rfl (wanted_some (g := 15) (b := true) rfl gd) (.int .i64 (8 * ((q : Int) + 1))) w' (fun ρ hρ => ?_) (Below.refl _ _) rfl
                  rw [hρ] at e1
                  have ec0 : ρ (.const (.int .i64 8)) = (.int .i64 8) := (hρ _).symm
                  clear hsame hdep hphi hρ gd
                  go_simp
                  exact IntWalk.i64_in _ (by omega)
                · intro L a w' hsame hb hdep hphi
                  have gd : valOf _ 15 a = .bool true := hphi 15 (dep_of hdep 15 (by kernel_rfl))
                  have e0 : a.eval (.tmp 89) = (.int .i64 n) := eval_slot (j := 16) (by kernel_rfl) (hphi 16 (dep_of hdep 16 (by kernel_rfl)))
                  have e1 : a.eval (.tmp 93) = (.int .i64 (8 * ((q : Int) + 1))) := eval_slot (j := 20) (by kernel_rfl) (hphi 20 (dep_of hdep 20 (by kernel_rfl)))
                  refine StepP.val _ rfl rfl (wanted_some (g := 15) (b := true) rfl gd) (.bool true) w' (fun ρ hρ => ?_) (Below.refl _ _) rfl
                  rw [hρ] at e0 e1
                  clear hsame hdep hphi hρ gd
                  go_simp
                · intro L a w' hsame hb hdep hphi
                  have e0 : a.eval (.tmp 88) = (.bool true) := eval_slot (j := 15) (by kernel_rfl) (hphi 15 (dep_of hdep 15 (by kernel_rfl)))
                  have e1 : a.eval (.tmp 94) = (.bool true) := eval_slot (j := 21) (by kernel_rfl) (hphi 21 (dep_of hdep 21 (by kernel_rfl)))
                  refine StepP.val _ rfl rfl (wanted_none rfl) (.bool true) w' (fun ρ hρ => ?_) (Below.refl _ _) rfl
                  rw [hρ] at e0 e1
                  have ec2 : ρ (.const (.bool false)) = (.bool false) := (hρ _).symm
                  clear hsame hdep hphi hρ
                  go_simp
                · intro L a w' hsame hb hdep hphi
                  have e0 : a.eval (.tmp 95) = (.bool true) := eval_slot (j := 22) (by kernel_rfl) (hphi 22 (dep_of hdep 22 (by kernel_rfl)))
                  refine StepP.val _ rfl rfl (wanted_none rfl) (.bool true) w' (fun ρ hρ => ?_) (Below.refl _ _) rfl
                  rw [hρ] at e0
                  clear hsame hdep hphi hρ
                  go_simp
                · intro L a w' hsame hb hdep hphi
                  have gd : valOf _ 23 a = .bool true := hphi 23 (dep_of hdep 23 (by kernel_rfl))
                  have e0 : a.eval (.tmp 9) = (.int .u64 Z) := eval_base hsame (by kernel_rfl)
                  refine StepP.val _ rfl rfl (wanted_some (g := 23) (b := true) rfl gd) (.int .u64 Z) w' (fun ρ hρ => ?_) (Below.refl _ _) rfl
                  rw [hρ] at e0
                  clear hsame hdep hphi hρ gd
                  go_simp
                · intro L a w' hsame hb hdep hphi
                  have gd : valOf _ 23 a = .bool true := hphi 23 (dep_of hdep 23 (by kernel_rfl))
                  refine StepP.val _ rfl rfl (wanted_some (g := 23) (b := true) rfl gd) (.slice (some ⟨w'.heap.size, 0, none⟩) 3 3) (w'.alloc (.cells #[.int .i64 (-1), .int .i64 64, .int .i64 99] 3)) (fun ρ hρ => ?_) ((Below.refl _ _).alloc (Nat.le_refl _) _) (⟨_, rfl, Seen.fresh (t := 3) (cs := #[.int .i64 (-1), .int .i64 64, .int .i64 99]) rfl (by simp) rfl rfl⟩)
                  have ec0 : ρ (.const (.int .i64 (-1))) = (.int .i64 (-1)) := (hρ _).symm
                  have ec1 : ρ (.const (.int .i64 64)) = (.int .i64 64) := (hρ _).symm
                  have ec2 : ρ (.const (.int .i64 99)) = (.int .i64 99) := (hρ _).symm
                  clear hsame hdep hphi hρ gd
                  go_simp
                · intro L a w' hsame hb hdep hphi
                  have gd : valOf _ 23 a = .bool true := hphi 23 (dep_of hdep 23 (by kernel_rfl))
                  have e0 : a.eval (.tmp 97) = (.int .u64 Z) := eval_slot (j := 24) (by kernel_rfl) (hphi 24 (dep_of hdep 24 (by kernel_rfl)))
                  obtain ⟨g, hv25, hs25⟩ := hphi 25 (dep_of hdep 25 (by kernel_rfl))
                  have e1 : a.eval (.tmp 98) = .slice (some ⟨g, 0, none⟩) 3 3 := eval_slot (j := 25) (by kernel_rfl) hv25
                  refine StepP.call _ rfl rfl (wanted_some (g := 23) (b := true) rfl gd) 15 #[.int .u64 Z, .slice (some ⟨g, 0, none⟩) 3 3] (fun ρ hρ => ?_) ?_
                  · skip
                    rw [hρ] at e0 e1
                    have ef : ρ (.func 15) = .func (.func 15) #[] #[] := (hρ _).symm
                    clear hsame hdep hphi hρ gd
                    go_simp
                  · refine (PZ.out g _ _ hs25).mono ?_
                    rintro e w2 ⟨rfl, rfl⟩
                    exact ⟨_, rfl, Below.refl _ _, rfl⟩
                · intro L a w' hsame hb hdep hphi
                  have gd : valOf _ 23 a = .bool true := hphi 23 (dep_of hdep 23 (by kernel_rfl))
                  have e0 : a.eval (.tmp 9) = (.int .u64 Z) := eval_base hsame (by kernel_rfl)
                  refine StepP.val _ rfl rfl (wanted_some (g := 23) (b := true) rfl gd) (.int .u64 Z) w' (fun ρ hρ => ?_) (Below.refl _ _) rfl
                  rw [hρ] at e0
                  clear hsame hdep hphi hρ gd
                  go_simp
                · intro L a w' hsame hb hdep hphi
                  have gd : valOf _ 23 a = .bool true := hphi 23 (dep_of hdep 23 (by kernel_rfl))
                  have e0 : a.eval (.tmp 99) = (.int .u64 Z) := eval_slot (j := 26) (by kernel_rfl) (hphi 26 (dep_of hdep 26 (by kernel_rfl)))
                  have e1 : a.eval (.tmp 100) = (.int .u64 Z) := eval_slot (j := 27) (by kernel_rfl) (hphi 27 (dep_of hdep 27 (by kernel_rfl)))
                  refine StepP.val _ rfl rfl (wanted_some (g := 23) (b := true) rfl gd) (.bool true) w' (fun ρ hρ => ?_) (Below.refl _ _) rfl
                  rw [hρ] at e0 e1
                  clear hsame hdep hphi hρ gd
                  go_simp
                · intro L a w' hsame hb hdep hphi
                  have e0 : a.eval (.tmp 96) = (.bool true) := eval_slot (j := 23) (by kernel_rfl) (hphi 23 (dep_of hdep 23 (by kernel_rfl)))
                  have e1 : a.eval (.tmp 101) = (.bool true) := eval_slot (j := 28) (by kernel_rfl) (hphi 28 (dep_of hdep 28 (by kernel_rfl)))
                  refine StepP.val _ rfl rfl (wanted_none rfl) (.bool true) w' (fun ρ hρ => ?_) (Below.refl _ _) rfl
                  rw [hρ] at e0 e1
                  have ec2 : ρ (.const (.bool false)) = (.bool false) := (hρ _).symm
                  clear hsame hdep hphi hρ
                  go_simp
                · intro L a w' hsame hb hdep hphi
                  have e0 : a.eval (.tmp 102) = (.bool true) := eval_slot (j := 29) (by kernel_rfl) (hphi 29 (dep_of hdep 29 (by kernel_rfl)))
                  refine StepP.val _ rfl rfl (wanted_none rfl) (.bool true) w' (fun ρ hρ => ?_) (Below.refl _ _) rfl
                  rw [hρ] at e0
                  clear hsame hdep hphi hρ
                  go_simp
                · intro L a w' hsame hb hdep hphi
                  have gd : valOf _ 30 a = .bool true := hphi 30 (dep_of hdep 30 (by kernel_rfl))
                  refine StepP.call _ rfl rfl (wanted_some (g := 30) (b := true) rfl gd) 10 #[.int .u64 0] (fun ρ hρ => ?_) ?_
                  · skip
                    have ec0 : ρ (.const (.int .u64 0)) = (.int .u64 0) := (hρ _).symm
                    have ef : ρ (.func 10) = .func (.func 10) #[] #[] := (hρ _).symm
                    clear hsame hdep hphi hρ gd
                    go_simp
                  · refine (L0.out _).mono ?_
                    rintro e w2 ⟨v, rfl, hv, bb⟩
                    obtain ⟨A, c, rfl, _⟩ := own_form hv
                    exact ⟨_, rfl, bb, A, c, rfl⟩
                · intro L a w' hsame hb hdep hphi
                  have gd : valOf _ 30 a = .bool true := hphi 30 (dep_of hdep 30 (by kernel_rfl))
                  obtain ⟨A5, c5, hv31⟩ := hphi 31 (dep_of hdep 31 (by kernel_rfl))
                  have e0 : a.eval (.tmp 104) = .slice A5 0 c5 := eval_slot (j := 31) (by kernel_rfl) hv31
                  refine StepP.val _ rfl rfl (wanted_some (g := 30) (b := true) rfl gd) (.int .i64 0) w' (fun ρ hρ => ?_) (Below.refl _ _) rfl
                  rw [hρ] at e0
                  clear hsame hdep hphi hρ gd
                  go_simp
                · intro L a w' hsame hb hdep hphi
                  have gd : valOf _ 30 a = .bool true := hphi 30 (dep_of hdep 30 (by kernel_rfl))
                  have e0 : a.eval (.tmp 105) = (.int .i64 0) := eval_slot (j := 32) (by kernel_rfl) (hphi 32 (dep_of hdep 32 (by kernel_rfl)))
                  refine StepP.val _ rfl rfl (wanted_some (g := 30) (b := true) rfl gd) (.bool true) w' (fun ρ hρ => ?_) (Below.refl _ _) rfl
                  rw [hρ] at e0
                  have ec1 : ρ (.const (.int .i64 0)) = (.int .i64 0) := (hρ _).symm
                  clear hsame hdep hphi hρ gd
                  go_simp
                · intro L a w' hsame hb hdep hphi
                  have e0 : a.eval (.tmp 103) = (.bool true) := eval_slot (j := 30) (by kernel_rfl) (hphi 30 (dep_of hdep 30 (by kernel_rfl)))
                  have e1 : a.eval (.tmp 106) = (.bool true) := eval_slot (j := 33) (by kernel_rfl) (hphi 33 (dep_of hdep 33 (by kernel_rfl)))
                  refine StepP.val _ rfl rfl (wanted_none rfl) (.bool true) w' (fun ρ hρ => ?_) (Below.refl _ _) rfl
                  rw [hρ] at e0 e1
                  have ec2 : ρ (.const (.bool false)) = (.bool false) := (hρ _).symm
                  clear hsame hdep hphi hρ
                  go_simp
                · intro L a w' hsame hb hdep hphi
                  have e0 : a.eval (.tmp 107) = (.bool true) := eval_slot (j := 34) (by kernel_rfl) (hphi 34 (dep_of hdep 34 (by kernel_rfl)))
                  refine StepP.val _ rfl rfl (wanted_none rfl) (.bool true) w' (fun ρ hρ => ?_) (Below.refl _ _) rfl
                  rw [hρ] at e0
                  clear hsame hdep hphi hρ
                  go_simp
                · intro L a w' hsame hb hdep hphi
                  have gd : valOf _ 35 a = .bool true := hphi 35 (dep_of hdep 35 (by kernel_rfl))
                  refine StepP.call _ rfl rfl (wanted_some (g := 35) (b := true) rfl gd) 3 #[] (fun ρ hρ => ?_) ?_
                  · skip
                    have ef : ρ (.func 3) = .func (.func 3) #[] #[] := (hρ _).symm
                    clear hsame hdep hphi hρ gd
                    go_simp
                  · refine (tabsRuns_any _ (TB2.out.keep hb)).mono ?_
                    rintro e w2 ⟨rfl, bb⟩
                    exact ⟨_, rfl, bb, rfl⟩
                · intro L a w' hsame hb hdep hphi
                  have e0 : a.eval (.tmp 108) = (.bool true) := eval_slot (j := 35) (by kernel_rfl) (hphi 35 (dep_of hdep 35 (by kernel_rfl)))
                  have e1 : a.eval (.tmp 109) = (.bool true) := eval_slot (j := 36) (by kernel_rfl) (hphi 36 (dep_of hdep 36 (by kernel_rfl)))
                  refine StepP.val _ rfl rfl (wanted_none rfl) (.bool true) w' (fun ρ hρ => ?_) (Below.refl _ _) rfl
                  rw [hρ] at e0 e1
                  have ec2 : ρ (.const (.bool false)) = (.bool false) := (hρ _).symm
                  clear hsame hdep hphi hρ
                  go_simp
                · intro L a w' hsame hb hdep hphi
                  have e0 : a.eval (.tmp 110) = (.bool true) := eval_slot (j := 37) (by kernel_rfl) (hphi 37 (dep_of hdep 37 (by kernel_rfl)))
                  refine StepP.val _ rfl rfl (wanted_none rfl) (.bool true) w' (fun ρ hρ => ?_) (Below.refl _ _) rfl
                  rw [hρ] at e0
                  clear hsame hdep hphi hρ
                  go_simp
                · intro u w' hb hall
                  have f0 := hall 0 (by decide)
                  have f1 := hall 1 (by decide)
                  have f2 := hall 2 (by decide)
                  have f3 := hall 3 (by decide)
                  have f4 := hall 4 (by decide)
                  have f5 := hall 5 (by decide)
                  have f6 := hall 6 (by decide)
                  have f7 := hall 7 (by decide)
                  have f8 := hall 8 (by decide)
                  have f9 := hall 9 (by decide)
                  have f10 := hall 10 (by decide)
                  have f11 := hall 11 (by decide)
                  have f12 := hall 12 (by decide)
                  have f13 := hall 13 (by decide)
                  have f14 := hall 14 (by decide)
                  have f15 := hall 15 (by decide)
                  have f16 := hall 16 (by decide)
                  have f17 := hall 17 (by decide)
                  have f18 := hall 18 (by decide)
                  have f19 := hall 19 (by decide)
                  have f20 := hall 20 (by decide)
                  have f21 := hall 21 (by decide)
                  have f22 := hall 22 (by decide)
                  have f23 := hall 23 (by decide)
                  have f24 := hall 24 (by decide)
                  have f25 := hall 25 (by decide)
                  have f26 := hall 26 (by decide)
                  have f27 := hall 27 (by decide)
                  have f28 := hall 28 (by decide)
                  have f29 := hall 29 (by decide)
                  have f30 := hall 30 (by decide)
                  have f31 := hall 31 (by decide)
                  have f32 := hall 32 (by decide)
                  have f33 := hall 33 (by decide)
                  have f34 := hall 34 (by decide)
                  have f35 := hall 35 (by decide)
                  have f36 := hall 36 (by decide)
                  have f37 := hall 37 (by decide)
                  have f38 := hall 38 (by decide)
                  clear hall
                  change Exit.then _ _ Exit.normal (Act.put (Act.put (Act.put (Act.put (Act.put (Act.put (Act.put (Act.put (Act.put (Act.put (Act.put (Act.put (Act.put (Act.put (Act.put (Act.put (Act.put (Act.put (Act.put (Act.put (Act.put (Act.put (Act.put (Act.put (Act.put (Act.put (Act.put (Act.put (Act.put (Act.put (Act.put (Act.put (Act.put (Act.put (Act.put (Act.put (Act.put (Act.put (Act.put (putAll _ u 0 _) (some 73) (u 0)) (some 74) (u 1)) (some 75) (u 2)) (some 76) (u 3)) (some 77) (u 4)) (some 78) (u 5)) (some 79) (u 6)) (some 80) (u 7)) (some 81) (u 8)) (some 82) (u 9)) (some 83) (u 10)) (some 84) (u 11)) (some 85) (u 12)) (some 86) (u 13)) (some 87) (u 14)) (some 88) (u 15)) (some 89) (u 16)) (some 90) (u 17)) (some 91) (u 18)) (some 92) (u 19)) (some 93) (u 20)) (some 94) (u 21)) (some 95) (u 22)) (some 96) (u 23)) (some 97) (u 24)) (some 98) (u 25)) (some 99) (u 26)) (some 100) (u 27)) (some 101) (u 28)) (some 102) (u 29)) (some 103) (u 30)) (some 104) (u 31)) (some 105) (u 32)) (some 106) (u 33)) (some 107) (u 34)) (some 108) (u 35)) (some 109) (u 36)) (some 110) (u 37)) (some 6) (u 38)) _
                  simp only [putAll]
                  generalize u 0 = u0 at f0 ⊢
                  generalize u 1 = u1 at f1 ⊢
                  generalize u 2 = u2 at f2 ⊢
                  generalize u 3 = u3 at f3 ⊢
                  generalize u 4 = u4 at f4 ⊢
                  generalize u 5 = u5 at f5 ⊢
                  generalize u 6 = u6 at f6 ⊢
                  generalize u 7 = u7 at f7 ⊢
                  generalize u 8 = u8 at f8 ⊢
                  generalize u 9 = u9 at f9 ⊢
                  generalize u 10 = u10 at f10 ⊢
                  generalize u 11 = u11 at f11 ⊢
                  generalize u 12 = u12 at f12 ⊢
                  generalize u 13 = u13 at f13 ⊢
                  generalize u 14 = u14 at f14 ⊢
                  generalize u 15 = u15 at f15 ⊢
                  generalize u 16 = u16 at f16 ⊢
                  generalize u 17 = u17 at f17 ⊢
                  generalize u 18 = u18 at f18 ⊢
                  generalize u 19 = u19 at f19 ⊢
                  generalize u 20 = u20 at f20 ⊢
                  generalize u 21 = u21 at f21 ⊢
                  generalize u 22 = u22 at f22 ⊢
                  generalize u 23 = u23 at f23 ⊢
                  generalize u 24 = u24 at f24 ⊢
                  generalize u 25 = u25 at f25 ⊢
                  generalize u 26 = u26 at f26 ⊢
                  generalize u 27 = u27 at f27 ⊢
                  generalize u 28 = u28 at f28 ⊢
                  generalize u 29 = u29 at f29 ⊢
                  generalize u 30 = u30 at f30 ⊢
                  generalize u 31 = u31 at f31 ⊢
                  generalize u 32 = u32 at f32 ⊢
                  generalize u 33 = u33 at f33 ⊢
                  generalize u 34 = u34 at f34 ⊢
                  generalize u 35 = u35 at f35 ⊢
                  generalize u 36 = u36 at f36 ⊢
                  generalize u 37 = u37 at f37 ⊢
                  generalize u 38 = u38 at f38 ⊢
                  go_simp
                  go_step
                  go_meet
                  exact ⟨f38, B2.out.trans (hb.mono B2.out.size)⟩
              case rest =>
                obtain ⟨rfl, b6⟩ := hcut
                go_wp2_with fail
                go_ret
                exact ⟨rfl, b6⟩
theorem tabsBits_any (A0 : Option Addr) (n0 c0 : Nat) (l0 : List Int) (A1 : Option Addr) (n1 c1 : Nat) (l1 : List Int) (nn : Int) (w : World) (hA : Arg .i64 w A0 n0 c0 l0) (hB : Arg .i64 w A1 n1 c1 l1) (wn : (Lit.int .i64 nn).wf = true) (hT : BTab w) :
    Calls Tryd.prog 6 #[.slice A0 n0 c0, .slice A1 n1 c1, .int .i64 nn] w fun e w' => e = .returned (.bool true) ∧ Below w.heap.size w w' := by
  obtain ⟨n0', n1'⟩ := bounds_i64 wn
  obtain ⟨k, hk⟩ : ∃ k : Nat, 0 + nn % (60 - 0 + 1) = (k : Int) := ⟨(0 + nn % (60 - 0 + 1)).toNat, by omega⟩
  exact tabsBits_t A0 A1 n0 c0 n1 c1 _ _ l0 l1 nn k w hA hB hT (fun w' => within_is nn 0 60 _ hk w' (by omega) (by omega) (by omega) (by omega) (by omega)) (by omega) rfl rfl
end Go.Proofs.YtboegggoeemfdaaDoor
