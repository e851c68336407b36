/- Package color's functions as plain mathematics: a colour's parts, how far two are, the nearest of the first ones. -/
import Derived.WalkKit
namespace Go.Proofs.YtgkjknjcklnngaaDoor
namespace CO
def base : List (Int × Int × Int) := [(0, 0, 0), (205, 0, 0), (0, 205, 0), (205, 205, 0), (0, 0, 238), (205, 0, 205), (0, 205, 205), (229, 229, 229), (127, 127, 127), (255, 0, 0), (0, 255, 0), (255, 255, 0), (92, 92, 255), (255, 0, 255), (0, 255, 255), (255, 255, 255)]
def step : List Int := [0, 95, 135, 175, 215, 255]
def stepAt (i : Int) : Int := step.getD i.toNat 0
def baseAt (i : Int) : Int × Int × Int := base.getD i.toNat (0, 0, 0)
/-- has it parts -/
def has (c : Int) : Bool := decide ((0 ≤ c ∧ c ≤ 255) ∨ (16777216 ≤ c ∧ c < 33554432))
theorem has_iff {c : Int} : has c = true ↔ ((0 ≤ c ∧ c ≤ 255) ∨ (16777216 ≤ c ∧ c < 33554432)) := by simp [has]
/-- red, green, blue; nought of what has none -/
def rgb (c : Int) : Int × Int × Int :=
  if 16777216 ≤ c ∧ c < 33554432 then (c / 65536 % 256, c / 256 % 256, c % 256)
  else if c < 0 ∨ 255 < c then (0, 0, 0)
  else if c < 16 then baseAt c
  else if c < 232 then (stepAt ((c - 16) / 36), stepAt ((c - 16) / 6 % 6), stepAt ((c - 16) % 6))
  else (8 + 10 * (c - 232), 8 + 10 * (c - 232), 8 + 10 * (c - 232))
def sq (x : Int) : Int := x * x
def dist (p q : Int × Int × Int) : Int := sq (p.1 - q.1) + sq (p.2.1 - q.2.1) + sq (p.2.2 - q.2.2)
def far (a b : Int) : Int := if has a = true ∧ has b = true then dist (rgb a) (rgb b) else 0
theorem sq_neg (x y : Int) : sq (x - y) = sq (y - x) := by
  unfold sq
  rw [show x - y = -(y - x) by omega, Int.neg_mul_neg]
theorem sq_nonneg (x : Int) : 0 ≤ sq x := by
  unfold sq
  rcases Int.le_total 0 x with h | h
  · exact Int.mul_nonneg h h
  · rw [← Int.neg_mul_neg]
    exact Int.mul_nonneg (by omega) (by omega)
theorem sq_zero {x : Int} : sq x = 0 ↔ x = 0 := by
  unfold sq
  rw [Int.mul_eq_zero, or_self]
theorem dist_comm (p q : Int × Int × Int) : dist p q = dist q p := by
  unfold dist
  rw [sq_neg p.1, sq_neg p.2.1, sq_neg p.2.2]
theorem dist_nonneg (p q : Int × Int × Int) : 0 ≤ dist p q := by
  unfold dist
  have := sq_nonneg (p.1 - q.1)
  have := sq_nonneg (p.2.1 - q.2.1)
  have := sq_nonneg (p.2.2 - q.2.2)
  omega
theorem dist_zero {p q : Int × Int × Int} : dist p q = 0 ↔ p = q := by
  unfold dist
  have h1 := sq_nonneg (p.1 - q.1)
  have h2 := sq_nonneg (p.2.1 - q.2.1)
  have h3 := sq_nonneg (p.2.2 - q.2.2)
  constructor
  · intro h
    have e1 : p.1 - q.1 = 0 := sq_zero.1 (by omega)
    have e2 : p.2.1 - q.2.1 = 0 := sq_zero.1 (by omega)
    have e3 : p.2.2 - q.2.2 = 0 := sq_zero.1 (by omega)
    exact Prod.ext (by omega) (Prod.ext (by omega) (by omega))
  · rintro rfl
    simp [sq]
theorem far_comm (a b : Int) : far a b = far b a := by
  unfold far
  by_cases h : has a = true ∧ has b = true
  · rw [if_pos h, if_pos ⟨h.2, h.1⟩, dist_comm]
  · rw [if_neg h, if_neg fun k => h ⟨k.2, k.1⟩]
theorem far_nonneg (a b : Int) : 0 ≤ far a b := by
  unfold far
  split
  · exact dist_nonneg _ _
  · omega
theorem far_self (a : Int) : far a a = 0 := by
  unfold far
  split
  · exact dist_zero.2 rfl
  · rfl
theorem small_bd {l : List Int} (h : ∀ x ∈ l, 0 ≤ x ∧ x ≤ 255) (i : Nat) : 0 ≤ l.getD i 0 ∧ l.getD i 0 ≤ 255 := by
  rw [List.getD_eq_getElem?_getD]
  cases e : l[i]? with
  | none => simp
  | some x => exact h x (List.mem_of_getElem? e)
theorem stepAt_bd (i : Int) : 0 ≤ stepAt i ∧ stepAt i ≤ 255 := small_bd (by decide) _
theorem baseAt_bd (i : Int) : (0 ≤ (baseAt i).1 ∧ (baseAt i).1 ≤ 255) ∧ (0 ≤ (baseAt i).2.1 ∧ (baseAt i).2.1 ≤ 255) ∧ (0 ≤ (baseAt i).2.2 ∧ (baseAt i).2.2 ≤ 255) := by
  unfold baseAt
  rw [List.getD_eq_getElem?_getD]
  cases e : base[i.toNat]? with
  | none => simp
  | some x =>
    have h : ∀ x ∈ base, (0 ≤ x.1 ∧ x.1 ≤ 255) ∧ (0 ≤ x.2.1 ∧ x.2.1 ≤ 255) ∧ (0 ≤ x.2.2 ∧ x.2.2 ≤ 255) := by decide
    exact h x (List.mem_of_getElem? e)
theorem rgb_bd (c : Int) : (0 ≤ (rgb c).1 ∧ (rgb c).1 ≤ 255) ∧ (0 ≤ (rgb c).2.1 ∧ (rgb c).2.1 ≤ 255) ∧ (0 ≤ (rgb c).2.2 ∧ (rgb c).2.2 ≤ 255) := by
  unfold rgb
  split
  · refine ⟨⟨?_, ?_⟩, ⟨?_, ?_⟩, ⟨?_, ?_⟩⟩ <;> simp only <;> omega
  split
  · simp
  split
  · exact baseAt_bd c
  split
  · exact ⟨stepAt_bd _, stepAt_bd _, stepAt_bd _⟩
  · refine ⟨⟨?_, ?_⟩, ⟨?_, ?_⟩, ⟨?_, ?_⟩⟩ <;> simp only <;> omega
theorem sq_bd {x : Int} (h : -255 ≤ x) (h1 : x ≤ 255) : sq x ≤ 65025 := by
  unfold sq
  rcases Int.le_total 0 x with k | k
  · exact Int.mul_le_mul h1 h1 k (by omega)
  · rw [← Int.neg_mul_neg]
    have : -x * -x ≤ 255 * 255 := Int.mul_le_mul (by omega) (by omega) (by omega) (by omega)
    omega
theorem dist_bd (a b : Int) : dist (rgb a) (rgb b) ≤ 195075 := by
  obtain ⟨⟨a0, a1⟩, ⟨a2, a3⟩, a4, a5⟩ := rgb_bd a
  obtain ⟨⟨b0, b1⟩, ⟨b2, b3⟩, b4, b5⟩ := rgb_bd b
  unfold dist
  have h1 := sq_bd (x := (rgb a).1 - (rgb b).1) (by omega) (by omega)
  have h2 := sq_bd (x := (rgb a).2.1 - (rgb b).2.1) (by omega) (by omega)
  have h3 := sq_bd (x := (rgb a).2.2 - (rgb b).2.2) (by omega) (by omega)
  omega
theorem far_bd (a b : Int) : far a b ≤ 195075 := by
  unfold far
  split
  · exact dist_bd a b
  · omega
/-- cut to 0 .. 255 -/
def cut (x : Int) : Int := if x < 0 then 0 else if 255 < x then 255 else x
theorem cut_bd (x : Int) : 0 ≤ cut x ∧ cut x ≤ 255 := by
  unfold cut
  split
  · omega
  split <;> omega
def mk (r g b : Int) : Int := 16777216 + cut r * 65536 + cut g * 256 + cut b
theorem has_mk (r g b : Int) : has (mk r g b) = true := by
  have := cut_bd r
  have := cut_bd g
  have := cut_bd b
  rw [has_iff]
  unfold mk
  omega
theorem rgb_mk (r g b : Int) : rgb (mk r g b) = (cut r, cut g, cut b) := by
  have := cut_bd r
  have := cut_bd g
  have := cut_bd b
  unfold rgb mk
  rw [if_pos (by omega)]
  refine Prod.ext ?_ (Prod.ext ?_ ?_) <;> simp only <;> omega
/-- the first ones looked through: the best so far, how far it is -/
def look (c : Int) : Nat → Int × Int
  | 0 => (0, 0)
  | k + 1 => if k = 0 ∨ far c (k : Int) < (look c k).2 then ((k : Int), far c (k : Int)) else look c k
theorem look_best (c : Int) : ∀ k : Nat, 0 < k → ∃ m : Nat, m < k ∧ look c k = ((m : Int), far c (m : Int)) ∧ (∀ i : Nat, i < k → far c (m : Int) ≤ far c (i : Int)) ∧ ∀ i : Nat, i < m → far c (m : Int) < far c (i : Int)
  | 0, h => absurd h (by omega)
  | k + 1, _ => by
    unfold look
    by_cases h0 : k = 0
    · subst h0
      rw [if_pos (.inl rfl)]
      refine ⟨0, by omega, rfl, fun i hi => ?_, fun i hi => absurd hi (by omega)⟩
      have e : i = 0 := by omega
      subst e
      exact Int.le_refl _
    · obtain ⟨m, hm, he, h1, h2⟩ := look_best c k (by omega)
      rw [he]
      by_cases hl : far c (k : Int) < far c (m : Int)
      · rw [if_pos (.inr hl)]
        refine ⟨k, by omega, rfl, fun i hi => ?_, fun i hi => ?_⟩
        · by_cases e : i = k
          · subst e; exact Int.le_refl _
          · have := h1 i (by omega); omega
        · have := h1 i hi; omega
      · rw [if_neg (by rintro (h | h) <;> omega)]
        refine ⟨m, by omega, rfl, fun i hi => ?_, h2⟩
        by_cases e : i = k
        · subst e; omega
        · exact h1 i (by omega)
/-- the nearest of the first n colours -/
def near (c n : Int) : Int := if has c = true ∧ 1 ≤ n ∧ n ≤ 256 then (look c n.toNat).1 else -1
theorem near_best {c n : Int} (hc : has c = true) (h0 : 1 ≤ n) (h1 : n ≤ 256) : 0 ≤ near c n ∧ near c n < n ∧ (∀ i : Int, 0 ≤ i → i < n → far c (near c n) ≤ far c i) ∧ ∀ i : Int, 0 ≤ i → i < near c n → far c (near c n) < far c i := by
  obtain ⟨m, hm, he, h2, h3⟩ := look_best c n.toNat (by omega)
  have e : near c n = (m : Int) := by unfold near; rw [if_pos ⟨hc, h0, h1⟩, he]
  rw [e]
  refine ⟨by omega, by omega, fun i i0 i1 => ?_, fun i i0 i1 => ?_⟩
  · have := h2 i.toNat (by omega)
    rwa [Int.toNat_of_nonneg i0] at this
  · have := h3 i.toNat (by omega)
    rwa [Int.toNat_of_nonneg i0] at this
/-- the nearest is the only one that is so -/
theorem near_only {c n m : Int} (hc : has c = true) (h0 : 1 ≤ n) (h1 : n ≤ 256) (m0 : 0 ≤ m) (m1 : m < n) (h2 : ∀ i : Int, 0 ≤ i → i < n → far c m ≤ far c i) (h3 : ∀ i : Int, 0 ≤ i → i < m → far c m < far c i) : near c n = m := by
  obtain ⟨a, b, d, e⟩ := near_best hc h0 h1
  rcases Int.lt_trichotomy (near c n) m with h | h | h
  · have := h3 _ a h
    have := d m m0 m1
    omega
  · exact h
  · have := e m m0 h
    have := h2 _ a b
    omega
def lower (c n : Int) : Int := if n < 1 then -1 else if c < 0 then c else if c < n then c else near c n
end CO
end Go.Proofs.YtgkjknjcklnngaaDoor
