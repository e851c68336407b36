/- Tab stops in plain Lean, as package tabs reckons them: a bit, all bits below, the lowest bit. Names no function of a program. -/
import Derived.Test.YtboegggoeemfdaaDoorTabsSpec
import Derived.Lib.TrailingZeros
namespace Go.Proofs.YtboegggoeemfdaaDoor.TB
set_option linter.unusedVariables false
/-- the stop at a column; none, where there can be none -/
def bitI (c : Int) : Nat := if col c then 2 ^ c.toNat else 0
theorem bitI_ok (c : Int) : Ok (bitI c) := by
  unfold bitI
  split
  · rename_i h
    exact pow_ok (by unfold col at h; omega)
  · unfold Ok; omega
theorem bitI_bit (c : Int) (i : Nat) (hi : i < 64) : (bitI c).testBit i = decide (c = (i : Int)) := by
  unfold bitI
  split
  · rename_i h
    unfold col at h
    rw [Nat.testBit_two_pow]
    by_cases e : c = (i : Int)
    · rw [decide_eq_true e, decide_eq_true (by omega)]
    · rw [decide_eq_false e, decide_eq_false (by omega)]
  · rename_i h
    rw [Nat.zero_testBit, decide_eq_false (fun e => h (by unfold col; omega))]
/-- the stops below a column -/
def belowI (c : Int) : Nat := 2 ^ min c.toNat 64 - 1
theorem belowI_ok (c : Int) : Ok (belowI c) := by
  have h : 2 ^ min c.toNat 64 ≤ 2 ^ 64 := Nat.pow_le_pow_right (by omega) (by omega)
  have e : (2 : Nat) ^ 64 = 18446744073709551616 := by decide
  have p : 0 < 2 ^ min c.toNat 64 := Nat.two_pow_pos _
  unfold Ok belowI
  omega
theorem belowI_bit (c : Int) (i : Nat) (hi : i < 64) : (belowI c).testBit i = decide ((i : Int) < c) := by
  unfold belowI
  rw [Nat.testBit_two_pow_sub_one]
  by_cases e : (i : Int) < c
  · rw [decide_eq_true e, decide_eq_true (by omega)]
  · rw [decide_eq_false e, decide_eq_false (by omega)]
theorem belowI_neg {c : Int} (h : c ≤ 0) : belowI c = 0 := by
  unfold belowI
  rw [show c.toNat = 0 by omega]
  rfl
/-- one less than the bit, in 64 bits -/
theorem belowI_is {c : Int} (h : 0 ≤ c) : ((belowI c : Nat) : Int) = ((bitI c : Nat) : Int) - 1 ∨ (bitI c = 0 ∧ belowI c = 18446744073709551615) := by
  unfold belowI bitI
  by_cases hc : col c
  · left
    rw [if_pos hc]
    unfold col at hc
    rw [show min c.toNat 64 = c.toNat by omega]
    have p : 0 < 2 ^ c.toNat := Nat.two_pow_pos _
    omega
  · right
    rw [if_neg hc]
    unfold col at hc
    rw [show min c.toNat 64 = 64 by omega]
    exact ⟨rfl, by decide⟩
theorem not_bit {y i : Nat} (hy : Ok y) (hi : i < 64) : (18446744073709551615 - y).testBit i = !y.testBit i := by
  have e : 18446744073709551615 - y = 2 ^ 64 - (y + 1) := by
    have : (2 : Nat) ^ 64 = 18446744073709551616 := by decide
    omega
  have h : y < 2 ^ 64 := Nat.lt_of_lt_of_eq hy (by decide)
  rw [e, Nat.testBit_two_pow_sub_succ h, decide_eq_true hi, Bool.true_and]
theorem or_ok {a b : Nat} (ha : Ok a) (hb : Ok b) : Ok (a ||| b) := by
  have e : (18446744073709551616 : Nat) = 2 ^ 64 := by decide
  unfold Ok at *
  rw [e] at *
  exact Nat.or_lt_two_pow ha hb
theorem and_ok {a b : Nat} (ha : Ok a) : Ok (a &&& b) := Nat.lt_of_le_of_lt Nat.and_le_left ha
/-- one more -/
theorem or_bitI (t : Nat) (c : Int) : t ||| bitI c = if col c then put1 t c.toNat else t := by
  unfold bitI put1
  split
  · rfl
  · exact Nat.or_zero t
theorem puts_step (t : Nat) (x : Int) (l : List Int) : puts t (x :: l) = puts (t ||| bitI x) l := by
  rw [or_bitI]
  rfl
theorem puts_snoc (t : Nat) (l : List Int) (x : Int) : puts t (l ++ [x]) = puts t l ||| bitI x := by
  rw [puts_append, puts_step]
  rfl
theorem ok0 : Ok 0 := by unfold Ok; omega
/-- all at once: with them, without them -/
theorem or_puts {t : Nat} (ht : Ok t) (l : List Int) : t ||| puts 0 l = puts t l := ext (or_ok ht (puts_ok ok0)) (puts_ok ht) fun i hi => by
  rw [Nat.testBit_or, puts_bit l 0 i hi, puts_bit l t i hi]
  simp
theorem drop_puts {t : Nat} (ht : Ok t) (l : List Int) : t &&& (18446744073709551615 - puts 0 l) = drops t l := ext (and_ok ht) (drops_ok ht) fun i hi => by
  rw [Nat.testBit_and, not_bit (puts_ok ok0) hi, puts_bit l 0 i hi, drops_bit l t i hi]
  simp
/-- is there a stop -/
def has (t : Nat) (c : Int) : Bool := decide (col c) && t.testBit c.toNat
theorem has_bit {t : Nat} {i : Nat} (hi : i < 64) : has t (i : Int) = t.testBit i := by
  unfold has
  rw [decide_eq_true (by unfold col; omega), Bool.true_and, Int.toNat_natCast]
theorem has_no {t : Nat} {c : Int} (h : ¬ col c) : has t c = false := by
  unfold has
  rw [decide_eq_false h, Bool.false_and]
theorem and_bitI {t : Nat} (ht : Ok t) (c : Int) : (t &&& bitI c = 0) ↔ has t c = false := by
  by_cases hc : col c
  · have hc' := hc
    unfold col at hc
    obtain ⟨i, rfl⟩ : ∃ i : Nat, c = (i : Int) := ⟨c.toNat, by omega⟩
    rw [has_bit (by omega)]
    constructor
    · intro h
      have := congrArg (fun z => z.testBit i) h
      simp only [Nat.testBit_and, bitI_bit _ _ (show i < 64 by omega), Nat.zero_testBit, decide_true, Bool.and_true] at this
      exact this
    · intro h
      refine ext (and_ok ht) ok0 fun j hj => ?_
      rw [Nat.testBit_and, bitI_bit _ j hj, Nat.zero_testBit]
      by_cases e : (i : Int) = (j : Int)
      · obtain rfl : i = j := by omega
        rw [h, Bool.false_and]
      · rw [decide_eq_false e, Bool.and_false]
  · rw [has_no hc]
    unfold bitI
    rw [if_neg hc]
    simp
/-- New -/
theorem news_and {n : Int} (hn : 0 ≤ n) : 72340172838076672 &&& belowI n = news n.toNat := news_is (and_ok (by unfold Ok; omega)) fun i hi => by
  rw [Nat.testBit_and, belowI_bit n i hi]
  have h : ∀ j, j < 64 → (72340172838076672 : Nat).testBit j = decide (j % 8 = 0 ∧ 0 < j) := by decide
  rw [h i hi]
  by_cases c : i % 8 = 0 ∧ 0 < i
  · rw [decide_eq_true c, Bool.true_and]
    by_cases e : (i : Int) < n
    · rw [decide_eq_true e, decide_eq_true (by omega)]
    · rw [decide_eq_false e, decide_eq_false (by omega)]
  · rw [decide_eq_false c, Bool.false_and, decide_eq_false (by omega)]
/-- the stops behind one column, ahead of another -/
def behind (t : Nat) (c k : Int) : Nat := ((t &&& belowI k) &&& (18446744073709551615 - belowI c)) &&& (18446744073709551615 - bitI c)
theorem behind_ok {t : Nat} (ht : Ok t) (c k : Int) : Ok (behind t c k) := and_ok (and_ok (and_ok ht))
theorem behind_bit (t : Nat) (c k : Nat) (i : Nat) (hi : i < 64) : (behind t c k).testBit i = (t.testBit i && decide (c < i ∧ i < k)) := by
  unfold behind
  rw [Nat.testBit_and, Nat.testBit_and, Nat.testBit_and, not_bit (belowI_ok _) hi, not_bit (bitI_ok _) hi, belowI_bit _ i hi, belowI_bit _ i hi, bitI_bit _ i hi]
  by_cases h : c < i ∧ i < k
  · rw [decide_eq_true h, decide_eq_true (by omega : (i : Int) < (k : Int)), decide_eq_false (by omega : ¬ (i : Int) < (c : Int)), decide_eq_false (by omega : ¬ (c : Int) = (i : Int))]
    simp
  · rw [decide_eq_false h, Bool.and_false]
    by_cases h1 : (i : Int) < (k : Int)
    · by_cases h2 : (i : Int) < (c : Int)
      · rw [decide_eq_true h2]
        simp
      · rw [decide_eq_true (by omega : (c : Int) = (i : Int))]
        simp
    · rw [decide_eq_false h1]
      simp
theorem behind_none {t c k : Nat} (hk : k ≤ 64) (h : behind t c k = 0) : next t c k = k - 1 := next_none fun i h1 h2 => by
  have := behind_bit t c k i (by omega)
  rw [h, Nat.zero_testBit, decide_eq_true ⟨h1, h2⟩, Bool.and_true] at this
  exact this.symm
/-- the lowest bit -/
theorem ctz_low {x : Nat} (h0 : x ≠ 0) (h : Ok x) : x.testBit (Lib.ctz 64 x) = true ∧ Lib.ctz 64 x < 64 ∧ ∀ i, i < Lib.ctz 64 x → x.testBit i = false := by
  obtain ⟨m, hm, hk⟩ := Lib.ctzFrom_spec 64 x (by omega) (Nat.lt_of_lt_of_eq h (by decide))
  have e : Lib.ctz 64 x = Lib.ctzFrom 64 x := by simp [Lib.ctz, h0]
  rw [e]
  generalize Lib.ctzFrom 64 x = k at *
  subst hm
  refine ⟨?_, hk, fun i hi => ?_⟩
  · rw [Nat.mul_comm, Nat.testBit_mul_two_pow]
    simp
  · rw [Nat.mul_comm, Nat.testBit_mul_two_pow, decide_eq_false (by omega), Bool.false_and]
theorem behind_some {t c k : Nat} (ht : Ok t) (h : behind t c k ≠ 0) : Lib.ctz 64 (behind t c k) = next t c k := by
  obtain ⟨h1, h2, h3⟩ := ctz_low h (behind_ok ht _ _)
  generalize Lib.ctz 64 (behind t c k) = z at *
  rw [behind_bit t c k z h2] at h1
  simp only [Bool.and_eq_true, decide_eq_true_eq] at h1
  refine (next_is h1.2.1 h1.2.2 h1.1 fun i hc hi => ?_).symm
  have := h3 i hi
  rw [behind_bit t c k i (by omega), decide_eq_true ⟨hc, by omega⟩, Bool.and_true] at this
  exact this
end Go.Proofs.YtboegggoeemfdaaDoor.TB
