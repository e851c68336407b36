/- Tab stops as bits, in plain Lean: put, dropped, listed, the next one. Names no function of a program. -/
import Derived.Test.YtboegggoeemfdaaDoorBits
namespace Go.Proofs.YtboegggoeemfdaaDoor.TB
set_option linter.unusedVariables false
/-- 64 bits -/
def Ok (t : Nat) : Prop := t < 18446744073709551616
def put1 (t c : Nat) : Nat := t ||| 2 ^ c
def drop1 (t c : Nat) : Nat := t &&& (18446744073709551615 - 2 ^ c)
theorem pow_ok {c : Nat} (h : c < 64) : 2 ^ c < 18446744073709551616 := by
  have : 2 ^ c ≤ 2 ^ 63 := Nat.pow_le_pow_right (by omega) (by omega)
  have e : (2 : Nat) ^ 63 = 9223372036854775808 := by decide
  omega
theorem put1_ok {t c : Nat} (h : Ok t) (hc : c < 64) : Ok (put1 t c) := by
  have e : (18446744073709551616 : Nat) = 2 ^ 64 := by decide
  unfold Ok put1 at *
  rw [e] at h ⊢
  exact Nat.or_lt_two_pow h (by rw [← e]; exact pow_ok hc)
theorem drop1_ok {t c : Nat} (h : Ok t) : Ok (drop1 t c) := Nat.lt_of_le_of_lt Nat.and_le_left h
theorem put1_bit (t c i : Nat) : (put1 t c).testBit i = (t.testBit i || decide (c = i)) := by
  unfold put1
  rw [Nat.testBit_or, Nat.testBit_two_pow]
theorem drop1_bit {t c i : Nat} (hc : c < 64) (hi : i < 64) : (drop1 t c).testBit i = (t.testBit i && !decide (c = i)) := by
  have e : 18446744073709551615 - 2 ^ c = 2 ^ 64 - (2 ^ c + 1) := by
    have : (2 : Nat) ^ 64 = 18446744073709551616 := by decide
    omega
  have h : (2 : Nat) ^ c < 2 ^ 64 := Nat.pow_lt_pow_right (by omega) hc
  unfold drop1
  rw [Nat.testBit_and, e, Nat.testBit_two_pow_sub_succ h, Nat.testBit_two_pow, decide_eq_true hi, Bool.true_and]
theorem bit_high {t i : Nat} (h : Ok t) (hi : 64 ≤ i) : t.testBit i = false := Nat.testBit_lt_two_pow (Nat.lt_of_lt_of_le h (by
  have : (2 : Nat) ^ 64 ≤ 2 ^ i := Nat.pow_le_pow_right (by omega) hi
  have e : (2 : Nat) ^ 64 = 18446744073709551616 := by decide
  omega))
theorem ext {a b : Nat} (ha : Ok a) (hb : Ok b) (h : ∀ i, i < 64 → a.testBit i = b.testBit i) : a = b := Nat.eq_of_testBit_eq fun i => by
  by_cases hi : i < 64
  · exact h i hi
  · rw [bit_high ha (by omega), bit_high hb (by omega)]
/-- a column may be a stop -/
def col (x : Int) : Prop := 0 ≤ x ∧ x < 64
instance (x : Int) : Decidable (col x) := inferInstanceAs (Decidable (_ ∧ _))
def puts (t : Nat) : List Int → Nat
  | [] => t
  | x :: l => puts (if col x then put1 t x.toNat else t) l
def drops (t : Nat) : List Int → Nat
  | [] => t
  | x :: l => drops (if col x then drop1 t x.toNat else t) l
theorem puts_ok : ∀ {l : List Int} {t : Nat}, Ok t → Ok (puts t l)
  | [], t, h => h
  | x :: l, t, h => puts_ok (t := if col x then put1 t x.toNat else t) (by
    split
    · rename_i hx
      exact put1_ok h (by unfold col at hx; omega)
    · exact h)
theorem drops_ok : ∀ {l : List Int} {t : Nat}, Ok t → Ok (drops t l)
  | [], t, h => h
  | x :: l, t, h => drops_ok (t := if col x then drop1 t x.toNat else t) (by
    split
    · exact drop1_ok h
    · exact h)
theorem puts_bit : ∀ (l : List Int) (t i : Nat), i < 64 → (puts t l).testBit i = (t.testBit i || l.any fun x => decide (x = (i : Int)))
  | [], t, i, hi => by simp [puts]
  | x :: l, t, i, hi => by
    show (puts _ l).testBit i = _
    rw [puts_bit l _ i hi, List.any_cons]
    by_cases hx : col x
    · rw [if_pos hx, put1_bit]
      have e : decide (x.toNat = i) = decide (x = (i : Int)) := by
        unfold col at hx
        by_cases h : x = (i : Int)
        · rw [decide_eq_true h, decide_eq_true (by omega)]
        · rw [decide_eq_false h, decide_eq_false (by omega)]
      rw [e, Bool.or_assoc]
    · rw [if_neg hx]
      have e : decide (x = (i : Int)) = false := decide_eq_false (fun h => hx (by unfold col; omega))
      rw [e, Bool.false_or]
theorem drops_bit : ∀ (l : List Int) (t i : Nat), i < 64 → (drops t l).testBit i = (t.testBit i && !(l.any fun x => decide (x = (i : Int))))
  | [], t, i, hi => by simp [drops]
  | x :: l, t, i, hi => by
    show (drops _ l).testBit i = _
    rw [drops_bit l _ i hi, List.any_cons]
    by_cases hx : col x
    · rw [if_pos hx, drop1_bit (by unfold col at hx; omega) hi]
      have e : decide (x.toNat = i) = decide (x = (i : Int)) := by
        unfold col at hx
        by_cases h : x = (i : Int)
        · rw [decide_eq_true h, decide_eq_true (by omega)]
        · rw [decide_eq_false h, decide_eq_false (by omega)]
      rw [e, Bool.not_or, Bool.and_assoc]
    · rw [if_neg hx]
      have e : decide (x = (i : Int)) = false := decide_eq_false (fun h => hx (by unfold col; omega))
      rw [e, Bool.false_or]
/-- put and put again: in any order -/
theorem puts_append (t : Nat) : ∀ (a b : List Int), puts t (a ++ b) = puts (puts t a) b
  | [], b => rfl
  | x :: a, b => puts_append _ a b
theorem puts_union {x y t : Nat} {a b : List Int} (ht : Ok t) {i : Nat} (hi : i < 64) : (puts (puts t a) b).testBit i = ((puts t a).testBit i || (puts 0 b).testBit i) := by
  rw [puts_bit b _ i hi, puts_bit b 0 i hi]
  simp
/-- all stops, rising -/
def list (t : Nat) : List Nat := (List.range 64).filter fun i => t.testBit i
/-- the next stop -/
def next (t c k : Nat) : Nat := (((List.range k).filter fun i => decide (c < i) && t.testBit i).head?).getD (k - 1)
theorem next_lt {t c k : Nat} (hk : 1 ≤ k) : next t c k < k := by
  unfold next
  cases h : ((List.range k).filter fun i => decide (c < i) && t.testBit i).head? with
  | none => show k - 1 < k; omega
  | some x =>
    have := List.mem_of_mem_head? (by rw [h]; rfl : x ∈ _)
    rw [List.mem_filter, List.mem_range] at this
    exact this.1
theorem next_is {t c k x : Nat} (h1 : c < x) (h2 : x < k) (h3 : t.testBit x = true) (h4 : ∀ i, c < i → i < x → t.testBit i = false) : next t c k = x := by
  unfold next
  rw [List.head?_filter]
  have : (List.range k).find? (fun i => decide (c < i) && t.testBit i) = some x := by
    rw [List.find?_range_eq_some]
    refine ⟨by simp [h1, h3], by simpa using h2, fun j hj => ?_⟩
    by_cases hc : c < j
    · simp [h4 j hc hj]
    · simp [hc]
  rw [this]
  rfl
theorem next_none {t c k : Nat} (h : ∀ i, c < i → i < k → t.testBit i = false) : next t c k = k - 1 := by
  unfold next
  rw [List.head?_filter]
  have : (List.range k).find? (fun i => decide (c < i) && t.testBit i) = none := by
    rw [List.find?_eq_none]
    intro j hj
    rw [List.mem_range] at hj
    by_cases hc : c < j
    · simp [h j hc hj]
    · simp [hc]
  rw [this]
  rfl
/-- there is one, the least, or none -/
theorem next_cases (t c k : Nat) : (∃ x, c < x ∧ x < k ∧ t.testBit x = true ∧ (∀ i, c < i → i < x → t.testBit i = false) ∧ next t c k = x) ∨ ((∀ i, c < i → i < k → t.testBit i = false) ∧ next t c k = k - 1) := by
  cases h : (List.range k).find? (fun i => decide (c < i) && t.testBit i) with
  | none =>
    right
    have hn : ∀ i, c < i → i < k → t.testBit i = false := fun i h1 h2 => by
      have := List.find?_eq_none.1 h i (by simpa using h2)
      simpa [h1] using this
    exact ⟨hn, next_none hn⟩
  | some x =>
    left
    obtain ⟨h1, h2, h3⟩ := List.find?_range_eq_some.1 h
    simp only [Bool.and_eq_true, decide_eq_true_eq] at h1
    rw [List.mem_range] at h2
    have h4 : ∀ i, c < i → i < x → t.testBit i = false := fun i hc hi => by
      have := h3 i hi
      simpa [hc] using this
    exact ⟨x, h1.1, h2, h1.2, h4, next_is h1.1 h2 h1.2 h4⟩
theorem list_mem {t i : Nat} : i ∈ list t ↔ i < 64 ∧ t.testBit i = true := by
  unfold list
  rw [List.mem_filter, List.mem_range]
/-- all stops dropped -/
theorem drop_all {t : Nat} (h : Ok t) : drops t ((list t).map fun i : Nat => (i : Int)) = 0 := by
  refine ext (drops_ok h) (by unfold Ok; omega) fun i hi => ?_
  rw [drops_bit _ _ i hi, Nat.zero_testBit]
  cases hb : t.testBit i with
  | false => rfl
  | true =>
    have hm : i ∈ list t := list_mem.2 ⟨hi, hb⟩
    have : ((list t).map fun i : Nat => (i : Int)).any (fun x => decide (x = (i : Int))) = true := by
      rw [List.any_eq_true]
      exact ⟨(i : Int), List.mem_map.2 ⟨i, hm, rfl⟩, by simp⟩
    rw [this]
    rfl
/-- the stops behind a, ahead of k -/
def mets (t a k : Nat) : List Nat := (List.range k).filter fun i => decide (a < i) && t.testBit i
theorem mets_succ (t a k : Nat) : mets t a (k + 1) = mets t a k ++ (if a < k ∧ t.testBit k = true then [k] else []) := by
  unfold mets
  rw [List.range_succ, List.filter_append]
  congr 1
  by_cases h : a < k ∧ t.testBit k = true
  · rw [if_pos h]
    simp [h.1, h.2]
  · rw [if_neg h]
    simp
    intro h1
    cases hb : t.testBit k with
    | false => rfl
    | true => exact absurd ⟨h1, hb⟩ h
theorem mets_nil {t a : Nat} : ∀ {k : Nat}, (∀ i, a < i → i < k → t.testBit i = false) → mets t a k = []
  | 0, _ => rfl
  | k + 1, h => by
    rw [mets_succ, mets_nil (fun i h1 h2 => h i h1 (by omega)), if_neg (fun x => by have := h k x.1 (by omega); rw [this] at x; cases x.2)]
    rfl
theorem mets_cons {t a x : Nat} (h1 : a < x) (h3 : t.testBit x = true) (h4 : ∀ i, a < i → i < x → t.testBit i = false) : ∀ {k : Nat}, x < k → mets t a k = x :: mets t x k
  | 0, h => absurd h (by omega)
  | k + 1, h => by
    rw [mets_succ, mets_succ t x k]
    by_cases e : k = x
    · subst e
      rw [if_pos ⟨h1, h3⟩, if_neg (fun y => by omega), mets_nil h4, mets_nil (fun i _ _ => by omega)]
      rfl
    · rw [mets_cons h1 h3 h4 (k := k) (by omega)]
      have : (a < k ∧ t.testBit k = true) ↔ (x < k ∧ t.testBit k = true) := ⟨fun y => ⟨by omega, y.2⟩, fun y => ⟨by omega, y.2⟩⟩
      by_cases hc : x < k ∧ t.testBit k = true
      · rw [if_pos hc, if_pos (this.2 hc)]
        rfl
      · rw [if_neg hc, if_neg (fun y => hc (this.1 y))]
        simp
/-- all of them, where 0 is none -/
theorem mets_all {t k : Nat} (h0 : t.testBit 0 = false) (hk : k ≤ 64) : mets t 0 k = (list t).filter fun i => decide (i < k) := by
  unfold mets list
  rw [List.filter_filter]
  have h : ∀ n, n ≤ 64 → k ≤ n → (List.range k).filter (fun i => decide (0 < i) && t.testBit i) = (List.range n).filter fun i => decide (i < k) && t.testBit i := by
    intro n
    induction n with
    | zero =>
      intro _ h
      have h0 : k = 0 := by omega
      rw [h0]
      simp
    | succ n ih =>
      intro hn hkn
      by_cases e : k = n + 1
      · subst e
        refine List.filter_congr fun i hi => ?_
        rw [List.mem_range] at hi
        rw [decide_eq_true hi]
        by_cases hz : i = 0
        · subst hz
          simp [h0]
        · rw [decide_eq_true (by omega : 0 < i)]
      · rw [List.range_succ, List.filter_append, ← ih (by omega) (by omega)]
        have : decide (n < k) = false := decide_eq_false (by omega)
        simp [this]
  exact h 64 (by omega) hk
/-- one stop more -/
theorem next_put {t x a k : Nat} (hk : 1 ≤ k) : next (put1 t x) a k = if a < x ∧ x < next t a k then x else next t a k := by
  rcases next_cases t a k with ⟨y, h1, h2, h3, h4, e⟩ | ⟨h, e⟩
  · rw [e]
    by_cases hc : a < x ∧ x < y
    · rw [if_pos hc]
      refine next_is hc.1 (by omega) (by rw [put1_bit]; simp) fun i hi hx => ?_
      rw [put1_bit, h4 i hi (by omega), decide_eq_false (by omega)]
      rfl
    · rw [if_neg hc]
      refine next_is h1 h2 (by rw [put1_bit, h3]; rfl) fun i hi hx => ?_
      rw [put1_bit, h4 i hi hx, decide_eq_false (by omega)]
      rfl
  · rw [e]
    by_cases hc : a < x ∧ x < k - 1
    · rw [if_pos hc]
      refine next_is hc.1 (by omega) (by rw [put1_bit]; simp) fun i hi hx => ?_
      rw [put1_bit, h i hi (by omega), decide_eq_false (by omega)]
      rfl
    · rw [if_neg hc]
      by_cases h2 : a < x ∧ x = k - 1
      · obtain ⟨h2, rfl⟩ := h2
        refine next_is h2 (by omega) (by rw [put1_bit]; simp) fun i hi hx => ?_
        rw [put1_bit, h i hi (by omega), decide_eq_false (by omega)]
        rfl
      · refine next_none fun i hi hx => ?_
        rw [put1_bit, h i hi hx, decide_eq_false (by omega)]
        rfl
/-- New's stops: 8, 16, .. below n -/
def newB (n : Nat) : Nat → Nat
  | 0 => 0
  | k + 1 => if 8 * (k + 1) < n then put1 (newB n k) (8 * (k + 1)) else newB n k
def news (n : Nat) : Nat := newB n 7
theorem newB_ok (n : Nat) : ∀ k, k ≤ 7 → Ok (newB n k)
  | 0, _ => by unfold newB Ok; omega
  | k + 1, h => by
    unfold newB
    split
    · exact put1_ok (newB_ok n k (by omega)) (by omega)
    · exact newB_ok n k (by omega)
theorem newB_bit (n i : Nat) : ∀ k, (newB n k).testBit i = decide (i % 8 = 0 ∧ 0 < i ∧ i ≤ 8 * k ∧ i < n)
  | 0 => by
    unfold newB
    rw [Nat.zero_testBit, decide_eq_false (by omega)]
  | k + 1 => by
    unfold newB
    by_cases h : 8 * (k + 1) < n
    · rw [if_pos h, put1_bit, newB_bit n i k]
      by_cases e : 8 * (k + 1) = i
      · rw [decide_eq_true e, Bool.or_true, decide_eq_true (by omega)]
      · rw [decide_eq_false e, Bool.or_false]
        by_cases c : i % 8 = 0 ∧ 0 < i ∧ i ≤ 8 * k ∧ i < n
        · rw [decide_eq_true c, decide_eq_true (by omega)]
        · rw [decide_eq_false c, decide_eq_false (by omega)]
    · rw [if_neg h, newB_bit n i k]
      by_cases c : i % 8 = 0 ∧ 0 < i ∧ i ≤ 8 * k ∧ i < n
      · rw [decide_eq_true c, decide_eq_true (by omega)]
      · rw [decide_eq_false c, decide_eq_false (by omega)]
theorem news_ok (n : Nat) : Ok (news n) := newB_ok n 7 (by omega)
theorem news_bit {n i : Nat} (hi : i < 64) : (news n).testBit i = decide (i % 8 = 0 ∧ 0 < i ∧ i < n) := by
  unfold news
  rw [newB_bit]
  by_cases c : i % 8 = 0 ∧ 0 < i ∧ i < n
  · rw [decide_eq_true c, decide_eq_true (by omega)]
  · rw [decide_eq_false c, decide_eq_false (by omega)]
/-- they are what bits say they are -/
theorem news_is {n t : Nat} (h : Ok t) (hb : ∀ i, i < 64 → t.testBit i = decide (i % 8 = 0 ∧ 0 < i ∧ i < n)) : t = news n := ext h (news_ok n) fun i hi => by rw [hb i hi, news_bit hi]
theorem list_news {n : Nat} (hn : n ≤ 60) : list (news n) = (List.range ((n - 1) / 8)).map fun i => 8 * (i + 1) := by
  have e : list (news n) = (List.range 64).filter fun i => decide (i % 8 = 0 ∧ 0 < i ∧ i < n) := List.filter_congr fun i hi => by rw [news_bit (by simpa using hi)]
  rw [e]
  have h : ∀ m, m ≤ 60 → ((List.range 64).filter fun i => decide (i % 8 = 0 ∧ 0 < i ∧ i < m)) = (List.range ((m - 1) / 8)).map fun i => 8 * (i + 1) := by decide
  exact h n hn
/-- a bit, shifted down and masked -/
theorem shr_bit (t c : Nat) : (t / 2 ^ c) &&& 1 = if t.testBit c = true then 1 else 0 := by
  rw [Nat.and_one_is_mod, Nat.testBit_eq_decide_div_mod_eq]
  by_cases h : t / 2 ^ c % 2 = 1
  · rw [decide_eq_true h, if_pos rfl, h]
  · rw [decide_eq_false h, if_neg (by simp)]
    omega
theorem shr_ok {t c : Nat} (h : Ok t) : Ok (t / 2 ^ c) := Nat.lt_of_le_of_lt (Nat.div_le_self t _) h
/-! as a walk writes them -/
theorem i_shr (t c : Nat) : ((t : Int) / 2 ^ (c : Int).toNat) = ((t / 2 ^ c : Nat) : Int) := by
  rw [Int.toNat_natCast, Int.natCast_ediv, Int.natCast_pow]
  rfl
theorem i_shl {c : Nat} (hc : c < 64) : IntKind.u64.wrap (1 * 2 ^ (c : Int).toNat) = ((2 ^ c : Nat) : Int) := by
  have h := pow_ok hc
  have e : (1 * 2 ^ (c : Int).toNat : Int) = ((2 ^ c : Nat) : Int) := by
    rw [Int.toNat_natCast, Int.one_mul, Int.natCast_pow]
    rfl
  rw [e, IntKind.wrap_u64]
  have h0 : (0 : Int) ≤ ((2 ^ c : Nat) : Int) := Int.natCast_nonneg _
  have h1 : ((2 ^ c : Nat) : Int) < 18446744073709551616 := Int.ofNat_lt.2 h
  exact Int.emod_eq_of_lt h0 h1
theorem i_or {t c : Nat} (ht : Ok t) (hc : c < 64) : bits .or .u64 (t : Int) ((2 ^ c : Nat) : Int) = ((put1 t c : Nat) : Int) := u64_or_nat t (2 ^ c) ht (pow_ok hc)
theorem i_drop {t c : Nat} (ht : Ok t) (hc : c < 64) : bits .andNot .u64 (t : Int) ((2 ^ c : Nat) : Int) = ((drop1 t c : Nat) : Int) := u64_andNot_nat t (2 ^ c) ht (pow_ok hc)
theorem i_bit {t c : Nat} (ht : Ok t) : bits .and .u64 ((t / 2 ^ c : Nat) : Int) 1 = if t.testBit c = true then 1 else 0 := by
  have h := u64_and_nat (t / 2 ^ c) 1 (shr_ok ht) (by omega)
  rw [shr_bit] at h
  rw [show (1 : Int) = ((1 : Nat) : Int) from rfl, h]
  split <;> rfl
end Go.Proofs.YtboegggoeemfdaaDoor.TB
