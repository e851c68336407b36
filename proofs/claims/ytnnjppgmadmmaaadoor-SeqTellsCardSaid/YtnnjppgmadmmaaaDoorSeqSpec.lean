/- What package seq computes, as plain functions: which events are right, their bytes; and a parser in the ground makes of these bytes the event, and nothing else. Names no function of a program. Is an event right? as a truth that a program may give back; for events of any numbers. -/
import Derived.Test.YtnnjppgmadmmaaaDoorParseMore
import Derived.Test.YtnnjppgmadmmaaaDoorUtfLemmas
namespace Go.Proofs.YtnnjppgmadmmaaaDoor.PA
def okRune (r : Int) : Prop := (32 ≤ r ∧ r ≤ 126) ∨ (128 ≤ r ∧ r ≤ 1114111 ∧ (r < 55296 ∨ 57343 < r))
def okInter (i : Int) : Prop := i = 0 ∨ (32 ≤ i ∧ i ≤ 47)
def opens (f : Int) : Prop := f = 91 ∨ f = 93 ∨ f = 80 ∨ f = 88 ∨ f = 94 ∨ f = 95
def okPriv (p : Int) : Prop := p = 0 ∨ (60 ≤ p ∧ p ≤ 63)
instance (f : Int) : Decidable (opens f) := by unfold opens; infer_instance
/-- is it an event that a parser makes? -/
def Right (e : Ev) : Prop :=
  (∃ r, e = pr r ∧ okRune r) ∨
  (∃ b, e = ⟨2, 0, 0, 0, b, [], []⟩ ∧ 0 ≤ b ∧ b < 32 ∧ b ≠ 24 ∧ b ≠ 26 ∧ b ≠ 27) ∨
  (∃ i f, e = ⟨3, 0, 0, i, f, [], []⟩ ∧ okInter i ∧ 48 ≤ f ∧ f ≤ 126 ∧ (i = 0 → ¬ opens f)) ∨
  (∃ p i f ps, e = ⟨4, 0, p, i, f, ps, []⟩ ∧ okPriv p ∧ okInter i ∧ 64 ≤ f ∧ f ≤ 126 ∧ ps.length ≤ 16 ∧ (∀ x ∈ ps, -1 ≤ x ∧ x ≤ 65535) ∧ ps ≠ [-1]) ∨
  (∃ t, e = ⟨5, 0, 0, 0, 0, [], t⟩ ∧ t.length ≤ 4096 ∧ ∀ x ∈ t, 32 ≤ x ∧ x < 256)
/-- a number in decimals -/
def dec10F : Nat → Nat → List Int
  | 0, n => [48 + (n : Int)]
  | k + 1, n => if n < 10 then [48 + (n : Int)] else dec10F k (n / 10) ++ [48 + ((n % 10 : Nat) : Int)]
/-- enough for any number that a parameter may be -/
def dec10 (n : Nat) : List Int := dec10F 20 n
def num (x : Int) : List Int := if x = -1 then [] else dec10 x.toNat
def joined : List Int → List Int
  | [] => []
  | [x] => num x
  | x :: y :: l => num x ++ 59 :: joined (y :: l)
def some0 (i : Int) : List Int := if i = 0 then [] else [i]
def bytesOf (e : Ev) : List Int :=
  if e.kind = 1 then U.en e.rune
  else if e.kind = 2 then [e.final]
  else if e.kind = 3 then 27 :: some0 e.inter ++ [e.final]
  else if e.kind = 4 then 27 :: 91 :: some0 e.priv ++ joined e.params ++ some0 e.inter ++ [e.final]
  else 27 :: 93 :: e.text ++ [7]
/-! digits -/
theorem dec10F_more : ∀ (k n : Nat), n < 10 ^ (k + 1) → dec10F (k + 1) n = dec10F k n
  | 0, n, h => by
    have : n < 10 := by simpa using h
    unfold dec10F
    rw [if_pos this]
  | k + 1, n, h => by
    rw [dec10F]
    conv => rhs; rw [dec10F]
    split
    · rfl
    · rw [dec10F_more k (n / 10) (by rw [Nat.pow_succ] at h; omega)]
theorem dec10_small {n : Nat} (h : n < 10) : dec10 n = [48 + (n : Int)] := by
  unfold dec10 dec10F
  rw [if_pos h]
theorem dec10_step {n : Nat} (h : ¬ n < 10) (hn : n ≤ 65535) : dec10 n = dec10 (n / 10) ++ [48 + ((n % 10 : Nat) : Int)] := by
  have e : dec10F 20 (n / 10) = dec10F 19 (n / 10) := dec10F_more 19 _ (Nat.lt_of_le_of_lt (show n / 10 ≤ 6553 by omega) (by decide))
  unfold dec10
  rw [e]
  conv => lhs; rw [dec10F]
  rw [if_neg h]
theorem up_digit {m : Nat} {d : Int} (_h0 : 0 ≤ d) (h : (m : Int) * 10 + d ≤ 65535) : up (m : Int) d = (m : Int) * 10 + d := by
  unfold up
  have hm : ¬ (m : Int) < 0 := by omega
  simp only [if_neg hm]
  split <;> omega
theorem up_first {d : Int} (h0 : 0 ≤ d) (h : d ≤ 9) : up (-1) d = d := by
  unfold up
  rw [if_pos (by omega), if_pos (by omega)]
  omega
/-- a CSI, so far -/
def csiAt (st p : Int) (k : Nat) (ps : List Int) : S := ⟨st, U.z, ⟨p, 0, k, ps, []⟩⟩
theorem take_digit {st p d : Int} {k : Nat} {ps : List Int} (hs : st = 5 ∨ st = 6) (h0 : 0 ≤ d) (h1 : d ≤ 9) : take (csiAt st p k ps) (48 + d) = (⟨6, U.z, D.digit ⟨p, 0, k, ps, []⟩ d⟩, []) := by
  have k5 := U.byAll (p := fun b => 48 ≤ b ∧ b ≤ 57 → act 5 b = 80 ∧ nxt 5 b = 6) (by decide +kernel) (48 + d) (by omega) (by omega) ⟨by omega, by omega⟩
  have k6 := U.byAll (p := fun b => 48 ≤ b ∧ b ≤ 57 → act 6 b = 80 ∧ nxt 6 b = 6) (by decide +kernel) (48 + d) (by omega) (by omega) ⟨by omega, by omega⟩
  have hd : 48 + d - 48 = d := by omega
  have e : doo ⟨6, U.z, ⟨p, 0, k, ps, []⟩⟩ 80 (48 + d) = (⟨6, U.z, D.digit ⟨p, 0, k, ps, []⟩ d⟩, []) := by
    show ((⟨6, U.z, D.digit ⟨p, 0, k, ps, []⟩ (48 + d - 48)⟩ : S), ([] : List Ev)) = _
    rw [hd]
  unfold csiAt
  rcases hs with rfl | rfl
  · rw [take_z _ k5.1 k5.2 (by omega), e]
    rfl
  · rw [take_z _ k6.1 k6.2 (by omega), e]
    rfl
theorem digit_none {p d : Int} (h0 : 0 ≤ d) (h1 : d ≤ 9) : D.digit ⟨p, 0, 0, [], []⟩ d = ⟨p, 0, 1, [d], []⟩ := by
  have e1 : D.first ⟨p, 0, 0, [], []⟩ = ⟨p, 0, 1, [-1], []⟩ := rfl
  unfold D.digit
  rw [e1]
  unfold D.put
  rw [if_neg (by simp)]
  simp [up_first h0 h1]
theorem digit_last {p d x : Int} {k : Nat} {qs : List Int} (hq : qs.length = k) (hk : k + 1 ≤ 16) : D.digit ⟨p, 0, k + 1, qs ++ [x], []⟩ d = ⟨p, 0, k + 1, qs ++ [up x d], []⟩ := by
  have e1 : D.first ⟨p, 0, k + 1, qs ++ [x], []⟩ = ⟨p, 0, k + 1, qs ++ [x], []⟩ := by unfold D.first; rw [if_neg (by simp)]
  unfold D.digit
  rw [e1]
  unfold D.put
  rw [if_neg (by simp only []; omega)]
  simp only [Nat.add_sub_cancel]
  rw [← hq]
  simp
/-- a number behind a parameter that is begun -/
theorem feed_dec_last {p : Int} {k : Nat} {qs : List Int} (hq : qs.length = k) (hk : k + 1 ≤ 16) : ∀ (n : Nat), n ≤ 65535 → feed (csiAt 6 p (k + 1) (qs ++ [-1])) (dec10 n) = (csiAt 6 p (k + 1) (qs ++ [(n : Int)]), []) := by
  intro n
  induction n using Nat.strongRecOn with
  | ind n ih =>
    intro hn
    by_cases h : n < 10
    · rw [dec10_small h, feed_one, take_digit (.inr rfl) (by omega) (by omega), digit_last hq hk, up_first (by omega) (by omega)]
      rfl
    · rw [dec10_step h hn, feed_append, ih (n / 10) (by omega) (by omega), feed_one, take_digit (.inr rfl) (by omega) (by omega), digit_last hq hk, up_digit (by omega) (by omega)]
      have : ((n / 10 : Nat) : Int) * 10 + ((n % 10 : Nat) : Int) = (n : Int) := by omega
      rw [this]
      rfl
/-- a number where none has begun -/
theorem feed_dec_first {st p : Int} (hs : st = 5 ∨ st = 6) : ∀ (n : Nat), n ≤ 65535 → feed (csiAt st p 0 []) (dec10 n) = (csiAt 6 p 1 [(n : Int)], []) := by
  intro n
  induction n using Nat.strongRecOn with
  | ind n ih =>
    intro hn
    by_cases h : n < 10
    · rw [dec10_small h, feed_one, take_digit hs (by omega) (by omega), digit_none (by omega) (by omega)]
      rfl
    · have := digit_last (p := p) (d := ((n % 10 : Nat) : Int)) (x := ((n / 10 : Nat) : Int)) (qs := []) (k := 0) rfl (by omega)
      simp only [List.nil_append, Nat.zero_add] at this
      rw [dec10_step h hn, feed_append, ih (n / 10) (by omega) (by omega), feed_one, take_digit (.inr rfl) (by omega) (by omega), this, up_digit (by omega) (by omega)]
      have : ((n / 10 : Nat) : Int) * 10 + ((n % 10 : Nat) : Int) = (n : Int) := by omega
      rw [this]
      rfl
theorem feed_num_last {p x : Int} {k : Nat} {qs : List Int} (hq : qs.length = k) (hk : k + 1 ≤ 16) (h0 : -1 ≤ x) (h1 : x ≤ 65535) : feed (csiAt 6 p (k + 1) (qs ++ [-1])) (num x) = (csiAt 6 p (k + 1) (qs ++ [x]), []) := by
  unfold num
  split
  · rename_i h
    subst h
    rfl
  · rename_i h
    have := feed_dec_last (p := p) hq hk x.toNat (by omega)
    rw [show (x.toNat : Int) = x by omega] at this
    exact this
theorem take_semi {st p : Int} {k : Nat} {ps : List Int} (hs : st = 5 ∨ st = 6) : take (csiAt st p k ps) 59 = (⟨6, U.z, D.semi ⟨p, 0, k, ps, []⟩⟩, []) := by
  have k5 : act 5 59 = 96 ∧ nxt 5 59 = 6 := by decide +kernel
  have k6 : act 6 59 = 96 ∧ nxt 6 59 = 6 := by decide +kernel
  unfold csiAt
  rcases hs with rfl | rfl
  · rw [take_z _ k5.1 k5.2 (by omega)]
    rfl
  · rw [take_z _ k6.1 k6.2 (by omega)]
    rfl
theorem semi_last {p : Int} {k : Nat} {ps : List Int} (hk : k + 1 < 16) : D.semi ⟨p, 0, k + 1, ps, []⟩ = ⟨p, 0, k + 2, ps ++ [-1], []⟩ := by
  have e1 : D.first ⟨p, 0, k + 1, ps, []⟩ = ⟨p, 0, k + 1, ps, []⟩ := by unfold D.first; rw [if_neg (by simp)]
  unfold D.semi
  rw [e1]
  unfold D.begin_
  simp only []
  rw [if_pos hk]
/-- the parameters behind the first one -/
theorem feed_more {p : Int} : ∀ (l : List Int) (y : Int) (k : Nat) (qs : List Int), qs.length = k → k + 1 + l.length ≤ 16 → (∀ x ∈ y :: l, -1 ≤ x ∧ x ≤ 65535) →
    feed (csiAt 6 p (k + 1) (qs ++ [-1])) (joined (y :: l)) = (csiAt 6 p (k + 1 + l.length) (qs ++ y :: l), [])
  | [], y, k, qs, hq, hk, hn => by
    have := hn y (by simp)
    exact feed_num_last hq (by simpa using hk) this.1 this.2
  | z :: l, y, k, qs, hq, hk, hn => by
    have hy := hn y (by simp)
    simp only [List.length_cons] at hk
    rw [joined, feed_append, feed_num_last hq (by omega) hy.1 hy.2, feed, take_semi (.inr rfl), semi_last (by omega)]
    have ih := feed_more (p := p) l z (k + 1) (qs ++ [y]) (by simp [hq]) (by omega) (fun x hx => hn x (by simp only [List.mem_cons] at hx ⊢; exact .inr hx))
    show (_, [] ++ ([] ++ (feed (csiAt 6 p (k + 1 + 1) (qs ++ [y] ++ [-1])) (joined (z :: l))).2)) = _
    show ((feed (csiAt 6 p (k + 1 + 1) (qs ++ [y] ++ [-1])) (joined (z :: l))).1, [] ++ ([] ++ (feed (csiAt 6 p (k + 1 + 1) (qs ++ [y] ++ [-1])) (joined (z :: l))).2)) = _
    rw [ih]
    rw [show k + 1 + 1 + l.length = k + 1 + (z :: l).length from by simp only [List.length_cons]; omega]
    simp
theorem semi_none {p : Int} : D.semi ⟨p, 0, 0, [], []⟩ = ⟨p, 0, 2, [-1, -1], []⟩ := rfl
/-- all parameters, but a lone one that is left out -/
theorem feed_params_all {st p : Int} (hs : st = 5 ∨ st = 6) (ps : List Int) (hl : ps.length ≤ 16) (hn : ∀ x ∈ ps, -1 ≤ x ∧ x ≤ 65535) (h : ps ≠ [-1]) : ∃ st', (st' = 5 ∨ st' = 6) ∧ feed (csiAt st p 0 []) (joined ps) = (csiAt st' p ps.length ps, []) := by
  rcases ps with _ | ⟨x, _ | ⟨y, l⟩⟩
  · exact ⟨st, hs, rfl⟩
  · have hx := hn x (by simp)
    refine ⟨6, .inr rfl, ?_⟩
    show feed (csiAt st p 0 []) (num x) = _
    unfold num
    rw [if_neg (fun e => h (by rw [e]))]
    have hx1 : x ≠ -1 := fun e => h (by rw [e])
    have := feed_dec_first (p := p) hs x.toNat (by omega)
    rw [show (x.toNat : Int) = x by omega] at this
    exact this
  · have hx := hn x (by simp)
    refine ⟨6, .inr rfl, ?_⟩
    simp only [List.length_cons] at hl
    have key : feed (csiAt st p 0 []) (num x ++ [59]) = (csiAt 6 p 2 ([x] ++ [-1]), []) := by
      rw [feed_append, feed_one]
      unfold num
      split
      · rename_i e
        subst e
        show (((take (csiAt st p 0 []) 59).1 : S), [] ++ (take (csiAt st p 0 []) 59).2) = _
        rw [take_semi hs, semi_none]
        rfl
      · rename_i e
        have h1 := feed_dec_first (p := p) hs x.toNat (by omega)
        rw [show (x.toNat : Int) = x by omega] at h1
        rw [h1]
        show (((take (csiAt 6 p 1 [x]) 59).1 : S), [] ++ (take (csiAt 6 p 1 [x]) 59).2) = _
        rw [take_semi (.inr rfl), semi_last (k := 0) (by omega)]
        rfl
    have more := feed_more (p := p) l y 1 [x] rfl (by omega) (fun z hz => hn z (by simp only [List.mem_cons] at hz ⊢; exact .inr hz))
    rw [joined, show num x ++ 59 :: joined (y :: l) = (num x ++ [59]) ++ joined (y :: l) from by simp, feed_append, key, more, show 1 + 1 + l.length = (x :: y :: l).length from by simp only [List.length_cons]; omega]
    simp
theorem feed_csi_end {st p i f : Int} {k : Nat} {ps : List Int} (hs : st = 5 ∨ st = 6) (hi : okInter i) (h0 : 64 ≤ f) (h1 : f ≤ 126) : feed (csiAt st p k ps) (some0 i ++ [f]) = (s0, [⟨4, 0, p, i, f, ps, []⟩]) := by
  have f5 := U.byAll (p := fun b => 64 ≤ b ∧ b ≤ 126 → act 5 b = 160 ∧ nxt 5 b = 1) (by decide +kernel) f (by omega) (by omega) ⟨h0, h1⟩
  have f6 := U.byAll (p := fun b => 64 ≤ b ∧ b ≤ 126 → act 6 b = 160 ∧ nxt 6 b = 1) (by decide +kernel) f (by omega) (by omega) ⟨h0, h1⟩
  have f7 := U.byAll (p := fun b => 64 ≤ b ∧ b ≤ 126 → act 7 b = 160 ∧ nxt 7 b = 1) (by decide +kernel) f (by omega) (by omega) ⟨h0, h1⟩
  unfold some0
  split
  · rename_i e
    subst e
    rw [List.nil_append, feed_one]
    unfold csiAt
    rcases hs with rfl | rfl
    · rw [take_z _ f5.1 f5.2 (by omega)]
      rfl
    · rw [take_z _ f6.1 f6.2 (by omega)]
      rfl
  · rename_i e
    have hi' : 32 ≤ i ∧ i ≤ 47 := hi.resolve_left e
    have i5 := U.byAll (p := fun b => 32 ≤ b ∧ b ≤ 47 → act 5 b = 112 ∧ nxt 5 b = 7) (by decide +kernel) i (by omega) (by omega) hi'
    have i6 := U.byAll (p := fun b => 32 ≤ b ∧ b ≤ 47 → act 6 b = 112 ∧ nxt 6 b = 7) (by decide +kernel) i (by omega) (by omega) hi'
    have step : take (csiAt st p k ps) i = (⟨7, U.z, ⟨p, i, k, ps, []⟩⟩, []) := by
      unfold csiAt
      rcases hs with rfl | rfl
      · rw [take_z _ i5.1 i5.2 (by omega)]
        rfl
      · rw [take_z _ i6.1 i6.2 (by omega)]
        rfl
    show feed (csiAt st p k ps) [i, f] = _
    rw [feed, step, feed_one, take_z _ f7.1 f7.2 (by omega)]
    rfl
theorem feed_csi_head {p : Int} (hp : okPriv p) : ∃ st, (st = 5 ∨ st = 6) ∧ feed s0 (27 :: 91 :: some0 p) = (csiAt st p 0 [], []) := by
  have h0 : feed s0 [27, 91] = (csiAt 5 0 0 [], []) := by kernel_rfl
  unfold some0
  split
  · rename_i e
    subst e
    exact ⟨5, .inl rfl, h0⟩
  · rename_i e
    have hp' : 60 ≤ p ∧ p ≤ 63 := hp.resolve_left e
    have k5 := U.byAll (p := fun b => 60 ≤ b ∧ b ≤ 63 → act 5 b = 64 ∧ nxt 5 b = 6) (by decide +kernel) p (by omega) (by omega) hp'
    refine ⟨6, .inr rfl, ?_⟩
    rw [show (27 : Int) :: 91 :: [p] = [27, 91] ++ [p] from rfl, feed_append, h0, feed_one]
    unfold csiAt
    show (((take ⟨5, U.z, ⟨0, 0, 0, [], []⟩⟩ p).1 : S), [] ++ (take ⟨5, U.z, ⟨0, 0, 0, [], []⟩⟩ p).2) = _
    rw [take_z _ k5.1 k5.2 (by omega)]
    rfl
/-! runes -/
theorem take_high (d : U.St) {b : Int} (h0 : 128 ≤ b) (h1 : b < 256) : take ⟨1, d, d0⟩ b = (⟨1, (U.it d b).1, d0⟩, (U.it d b).2.map pr) := by
  have k := U.byAll (p := fun b => 128 ≤ b → act 1 b = 48 ∧ nxt 1 b = 1) (by decide +kernel) b (by omega) h1 h0
  have hb : brk ⟨1, d, d0⟩ b = (⟨1, d, d0⟩, []) := by
    unfold brk
    rw [if_neg (fun e => by omega)]
  have hm : mid ⟨1, d, d0⟩ b = (48, ⟨1, d, d0⟩) := by
    unfold mid
    show (if act 1 b = 192 then _ else ((act 1 b, (⟨nxt 1 b, d, d0⟩ : S)) : Int × S)) = _
    rw [if_neg (by omega), k.1, k.2]
  unfold take
  rw [hb, hm]
  rfl
theorem feed_high (l : List Int) (h : ∀ x ∈ l, 128 ≤ x ∧ x < 256) (d : U.St) : feed ⟨1, d, d0⟩ l = (⟨1, (U.dec d l).1, d0⟩, (U.dec d l).2.map pr) := by
  induction l generalizing d with
  | nil => rfl
  | cons b l ih =>
    have hb := h b (by simp)
    rw [feed, take_high d hb.1 hb.2, ih (fun x hx => h x (by simp [hx]))]
    simp [U.dec]
theorem en_high {r : Int} (h : 128 ≤ r) (hr : U.isR r = true) : ∀ x ∈ U.en r, 128 ≤ x ∧ x < 256 := by
  have hu := U.en_u8 r hr
  intro x hx
  refine ⟨?_, (hu x hx).2⟩
  unfold U.en U.tl at hx
  rw [if_neg (by omega)] at hx
  split at hx
  · simp at hx; omega
  split at hx
  · simp at hx; rcases hx with rfl | rfl | rfl <;> omega
  · simp at hx; rcases hx with rfl | rfl | rfl | rfl <;> omega
/-- WHAT IS PRINTED IS PARSED: the event, and the ground again -/
theorem feed_bytes {e : Ev} (h : Right e) : feed s0 (bytesOf e) = (s0, [e]) := by
  rcases h with ⟨r, rfl, h⟩ | ⟨b, rfl, h0, h1, h2, h3, h4⟩ | ⟨i, f, rfl, hi, h0, h1, h⟩ | ⟨p, i, f, ps, rfl, hp, hi, h0, h1, hl, hn, h⟩ | ⟨t, rfl, hl, h⟩
  · show feed s0 (U.en r) = _
    rcases h with h | ⟨h0, h1, h2⟩
    · have : U.en r = [r] := by unfold U.en; rw [if_pos (by omega)]
      rw [this, feed_one, take_plain h.1 h.2]
    · have hr : U.isR r = true := by
        unfold U.isR
        simp
        omega
      have hd := U.dec_en r hr
      have := feed_high (U.en r) (en_high h0 hr) U.z
      rw [hd] at this
      exact this
  · have k := U.byAll (p := fun b => b < 32 ∧ b ≠ 24 ∧ b ≠ 26 ∧ b ≠ 27 → act 1 b = 32 ∧ nxt 1 b = 1) (by decide +kernel) b h0 (by omega) ⟨h1, h2, h3, h4⟩
    show feed s0 [b] = _
    rw [feed_one]
    show take ⟨1, U.z, d0⟩ b = _
    rw [take_z _ k.1 k.2 (by omega)]
    rfl
  · have e27 : take s0 27 = (⟨2, U.z, d0⟩, []) := by kernel_rfl
    show feed s0 (27 :: (some0 i ++ [f])) = _
    rw [feed, e27]
    unfold some0
    split
    · rename_i e
      subst e
      have k := U.byAll (p := fun b => 48 ≤ b ∧ b ≤ 126 ∧ ¬ opens b → act 2 b = 144 ∧ nxt 2 b = 1) (by decide +kernel) f (by omega) (by omega) ⟨h0, h1, h rfl⟩
      rw [List.nil_append, feed_one, take_z _ k.1 k.2 (by omega)]
      rfl
    · rename_i e
      have hi' : 32 ≤ i ∧ i ≤ 47 := hi.resolve_left e
      have i2 := U.byAll (p := fun b => 32 ≤ b ∧ b ≤ 47 → act 2 b = 112 ∧ nxt 2 b = 3) (by decide +kernel) i (by omega) (by omega) hi'
      have k := U.byAll (p := fun b => 48 ≤ b ∧ b ≤ 126 → act 3 b = 144 ∧ nxt 3 b = 1) (by decide +kernel) f (by omega) (by omega) ⟨h0, h1⟩
      have step : take ⟨2, U.z, d0⟩ i = (⟨3, U.z, ⟨0, i, 0, [], []⟩⟩, []) := by
        rw [take_z _ i2.1 i2.2 (by omega)]
        rfl
      show (_, [] ++ (feed ⟨2, U.z, d0⟩ [i, f]).2) = _
      show ((feed ⟨2, U.z, d0⟩ [i, f]).1, [] ++ (feed ⟨2, U.z, d0⟩ [i, f]).2) = _
      rw [feed, step, feed_one, take_z _ k.1 k.2 (by omega)]
      rfl
  · obtain ⟨st, hs, e1⟩ := feed_csi_head hp
    obtain ⟨st', hs', e2⟩ := feed_params_all (p := p) hs ps hl hn h
    show feed s0 (27 :: 91 :: some0 p ++ joined ps ++ some0 i ++ [f]) = _
    rw [show 27 :: 91 :: some0 p ++ joined ps ++ some0 i ++ [f] = (27 :: 91 :: some0 p) ++ (joined ps ++ (some0 i ++ [f])) from by simp, feed_append, e1, feed_append, e2, feed_csi_end hs' hi h0 h1]
    rfl
  · show feed s0 (27 :: 93 :: t ++ [7]) = _
    have e1 : feed (osc t) [7] = (s0, [⟨5, 0, 0, 0, 0, [], t⟩]) := by kernel_rfl
    rw [show (27 : Int) :: 93 :: t ++ [7] = [27, 93] ++ (t ++ [7]) from rfl, feed_append, head_osc, feed_append, feed_osc t [] h (by simpa using hl), List.nil_append, e1]
    rfl
def bytesAll (es : List Ev) : List Int := es.flatMap bytesOf
theorem feed_all (es : List Ev) (h : ∀ e ∈ es, Right e) : feed s0 (bytesAll es) = (s0, es) := by
  induction es with
  | nil => rfl
  | cons e es ih =>
    show feed s0 (bytesOf e ++ bytesAll es) = _
    rw [feed_append, feed_bytes (h e (by simp)), ih (fun x hx => h x (by simp [hx]))]
    rfl
/-- two right events have the same bytes just if they are the same -/
theorem bytes_inj {x y : Ev} (hx : Right x) (hy : Right y) (h : bytesOf x = bytesOf y) : x = y := by
  have a := feed_bytes hx
  rw [h, feed_bytes hy] at a
  simpa using (congrArg Prod.snd a).symm
end Go.Proofs.YtnnjppgmadmmaaaDoor.PA
namespace Go.Proofs.YtnnjppgmadmmaaaDoor.PA
instance (r : Int) : Decidable (okRune r) := by unfold okRune; infer_instance
instance (i : Int) : Decidable (okInter i) := by unfold okInter; infer_instance
instance (p : Int) : Decidable (okPriv p) := by unfold okPriv; infer_instance
def rightB (e : Ev) : Bool :=
  if e.kind = 1 then decide (okRune e.rune ∧ e.priv = 0 ∧ e.inter = 0 ∧ e.final = 0 ∧ e.params = [] ∧ e.text = [])
  else if e.kind = 2 then decide (e.rune = 0 ∧ e.priv = 0 ∧ e.inter = 0 ∧ e.params = [] ∧ e.text = [] ∧ 0 ≤ e.final ∧ e.final < 32 ∧ e.final ≠ 24 ∧ e.final ≠ 26 ∧ e.final ≠ 27)
  else if e.kind = 3 then decide (e.rune = 0 ∧ e.priv = 0 ∧ e.params = [] ∧ e.text = [] ∧ okInter e.inter ∧ 48 ≤ e.final ∧ e.final ≤ 126 ∧ (e.inter = 0 → ¬ opens e.final))
  else if e.kind = 4 then decide (e.rune = 0 ∧ e.text = [] ∧ okPriv e.priv ∧ okInter e.inter ∧ 64 ≤ e.final ∧ e.final ≤ 126 ∧ e.params.length ≤ 16 ∧ (∀ x ∈ e.params, -1 ≤ x ∧ x ≤ 65535) ∧ e.params ≠ [-1])
  else if e.kind = 5 then decide (e.rune = 0 ∧ e.priv = 0 ∧ e.inter = 0 ∧ e.final = 0 ∧ e.params = [] ∧ e.text.length ≤ 4096 ∧ ∀ x ∈ e.text, 32 ≤ x ∧ x < 256)
  else false
theorem rightB_right {e : Ev} (h : rightB e = true) : Right e := by
  obtain ⟨k, r, p, i, f, ps, t⟩ := e
  unfold rightB at h
  simp only [] at h
  by_cases h1 : k = 1
  · rw [if_pos h1] at h
    obtain ⟨a, rfl, rfl, rfl, rfl, rfl⟩ := of_decide_eq_true h
    subst h1
    exact .inl ⟨r, rfl, a⟩
  rw [if_neg h1] at h
  by_cases h2 : k = 2
  · rw [if_pos h2] at h
    obtain ⟨rfl, rfl, rfl, rfl, rfl, a⟩ := of_decide_eq_true h
    subst h2
    exact .inr (.inl ⟨f, rfl, a⟩)
  rw [if_neg h2] at h
  by_cases h3 : k = 3
  · rw [if_pos h3] at h
    obtain ⟨rfl, rfl, rfl, rfl, a⟩ := of_decide_eq_true h
    subst h3
    exact .inr (.inr (.inl ⟨i, f, rfl, a⟩))
  rw [if_neg h3] at h
  by_cases h4 : k = 4
  · rw [if_pos h4] at h
    obtain ⟨rfl, rfl, a⟩ := of_decide_eq_true h
    subst h4
    exact .inr (.inr (.inr (.inl ⟨p, i, f, ps, rfl, a⟩)))
  rw [if_neg h4] at h
  by_cases h5 : k = 5
  · rw [if_pos h5] at h
    obtain ⟨rfl, rfl, rfl, rfl, rfl, a⟩ := of_decide_eq_true h
    subst h5
    exact .inr (.inr (.inr (.inr ⟨t, rfl, a⟩)))
  rw [if_neg h5] at h
  cases h
theorem right_rightB {e : Ev} (h : Right e) : rightB e = true := by
  rcases h with ⟨r, rfl, h⟩ | ⟨b, rfl, h⟩ | ⟨i, f, rfl, h⟩ | ⟨p, i, f, ps, rfl, h⟩ | ⟨t, rfl, h⟩
  · exact decide_eq_true ⟨h, rfl, rfl, rfl, rfl, rfl⟩
  · exact decide_eq_true ⟨rfl, rfl, rfl, rfl, rfl, h⟩
  · exact decide_eq_true ⟨rfl, rfl, rfl, rfl, h⟩
  · exact decide_eq_true ⟨rfl, rfl, h⟩
  · exact decide_eq_true ⟨rfl, rfl, rfl, rfl, rfl, h⟩
theorem rightB_iff (e : Ev) : rightB e = true ↔ Right e := ⟨rightB_right, right_rightB⟩
/-- what is printed of a right event is something -/
theorem bytes_ne {e : Ev} (h : Right e) : bytesOf e ≠ [] := fun hn => by
  have := feed_bytes h
  rw [hn] at this
  cases congrArg Prod.snd this
/-- the bytes of a right event are bytes -/
theorem dec10F_u8 : ∀ (k n : Nat), n < 10 ^ (k + 1) → ∀ x ∈ dec10F k n, 48 ≤ x ∧ x ≤ 57
  | 0, n, h, x, hx => by
    have : n < 10 := by simpa using h
    simp [dec10F] at hx
    omega
  | k + 1, n, h, x, hx => by
    unfold dec10F at hx
    split at hx
    · simp at hx; omega
    · rcases List.mem_append.1 hx with hx | hx
      · exact dec10F_u8 k (n / 10) (by rw [Nat.pow_succ] at h; omega) x hx
      · simp at hx; omega
theorem num_u8 {y : Int} (h0 : -1 ≤ y) (h1 : y ≤ 65535) : ∀ x ∈ num y, 0 ≤ x ∧ x < 256 := by
  intro x hx
  unfold num at hx
  split at hx
  · cases hx
  · have := dec10F_u8 20 y.toNat (Nat.lt_of_le_of_lt (show y.toNat ≤ 65535 by omega) (by decide)) x hx
    omega
theorem joined_u8 : ∀ (l : List Int), (∀ y ∈ l, -1 ≤ y ∧ y ≤ 65535) → ∀ x ∈ joined l, 0 ≤ x ∧ x < 256
  | [], _, x, hx => by cases hx
  | [y], h, x, hx => num_u8 (h y (by simp)).1 (h y (by simp)).2 x hx
  | y :: z :: l, h, x, hx => by
    rw [joined] at hx
    rcases List.mem_append.1 hx with hx | hx
    · exact num_u8 (h y (by simp)).1 (h y (by simp)).2 x hx
    · rcases List.mem_cons.1 hx with rfl | hx
      · omega
      · exact joined_u8 (z :: l) (fun w hw => h w (by simp only [List.mem_cons] at hw ⊢; exact .inr hw)) x hx
theorem some0_u8 {i : Int} (h0 : 0 ≤ i) (h1 : i < 256) : ∀ x ∈ some0 i, 0 ≤ x ∧ x < 256 := by
  intro x hx
  unfold some0 at hx
  split at hx
  · cases hx
  · simp at hx; omega
theorem bytes_u8 {e : Ev} (h : Right e) : ∀ x ∈ bytesOf e, 0 ≤ x ∧ x < 256 := by
  rcases h with ⟨r, rfl, h⟩ | ⟨b, rfl, h⟩ | ⟨i, f, rfl, hi, h0, h1, h⟩ | ⟨p, i, f, ps, rfl, hp, hi, h0, h1, hl, hn, h⟩ | ⟨t, rfl, hl, h⟩
  · have hr : U.isR r = true := by
      unfold U.isR
      unfold okRune at h
      simp
      omega
    exact U.en_u8 r hr
  · intro x hx
    have hx : x ∈ [b] := hx
    simp at hx
    omega
  · intro x hx
    have hx : x ∈ 27 :: some0 i ++ [f] := hx
    have hi8 : 0 ≤ i ∧ i < 256 := by unfold okInter at hi; omega
    simp only [List.cons_append, List.mem_cons, List.mem_append, List.not_mem_nil, or_false] at hx
    rcases hx with rfl | hx | rfl
    · omega
    · exact some0_u8 hi8.1 hi8.2 x hx
    · omega
  · intro x hx
    have hx : x ∈ 27 :: 91 :: some0 p ++ joined ps ++ some0 i ++ [f] := hx
    have hi8 : 0 ≤ i ∧ i < 256 := by unfold okInter at hi; omega
    have hp8 : 0 ≤ p ∧ p < 256 := by unfold okPriv at hp; omega
    simp only [List.cons_append, List.mem_cons, List.mem_append, List.not_mem_nil, or_false] at hx
    rcases hx with rfl | rfl | ((hx | hx) | hx) | rfl
    · omega
    · omega
    · exact some0_u8 hp8.1 hp8.2 x hx
    · exact joined_u8 ps hn x hx
    · exact some0_u8 hi8.1 hi8.2 x hx
    · omega
  · intro x hx
    have hx : x ∈ 27 :: 93 :: t ++ [7] := hx
    simp only [List.cons_append, List.mem_cons, List.mem_append, List.not_mem_nil, or_false] at hx
    rcases hx with rfl | rfl | hx | rfl
    · omega
    · omega
    · have := h x hx; omega
    · omega
end Go.Proofs.YtnnjppgmadmmaaaDoor.PA
