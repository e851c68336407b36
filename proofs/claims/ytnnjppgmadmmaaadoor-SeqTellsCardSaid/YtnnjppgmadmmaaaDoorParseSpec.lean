/- What package parse computes, as plain functions: a byte's class, what it does in a state, the parser behind it and the events that it completes. -/
import Derived.Test.YtnnjppgmadmmaaaDoorUtfSpec
namespace Go.Proofs.YtnnjppgmadmmaaaDoor.PA
def lasts : List Int := [6, 7, 23, 24, 25, 26, 27, 31, 47, 57, 58, 59, 63, 79, 80, 87, 88, 90, 91, 92, 93, 95, 126, 127]
def kinds : List Int := [0, 1, 0, 2, 0, 2, 3, 0, 4, 5, 6, 7, 8, 13, 11, 13, 11, 13, 9, 12, 10, 11, 13, 14]
def lastAt (k : Nat) : Int := lasts.getD k 0
def kindAt (k : Nat) : Int := kinds.getD k 15
/-- the first run that has b; 24, if none has -/
def place (b : Int) : Nat := (lasts.takeWhile (fun l => l < b)).length
def cls (b : Int) : Int := kindAt (place b)
def tab : List Int := [
  0, 0, 0, 0, 0, 0, 0, 0, 0, 0, 0, 0, 0, 0, 0, 0,
  32, 32, 0, 2, 16, 16, 16, 16, 16, 16, 16, 16, 16, 16, 0, 48,
  32, 32, 1, 2, 115, 145, 145, 145, 145, 5, 9, 11, 145, 145, 0, 49,
  32, 32, 1, 2, 4, 145, 145, 145, 145, 145, 145, 145, 145, 145, 0, 49,
  32, 32, 1, 2, 0, 1, 1, 1, 1, 1, 1, 1, 1, 1, 0, 49,
  32, 32, 1, 2, 119, 86, 8, 102, 70, 161, 161, 161, 161, 161, 0, 49,
  32, 32, 1, 2, 119, 80, 8, 96, 8, 161, 161, 161, 161, 161, 0, 49,
  32, 32, 1, 2, 8, 8, 8, 8, 8, 161, 161, 161, 161, 161, 0, 49,
  32, 32, 1, 2, 0, 0, 0, 0, 0, 1, 1, 1, 1, 1, 0, 49,
  0, 177, 1, 10, 128, 128, 128, 128, 128, 128, 128, 128, 128, 128, 128, 128,
  194, 194, 194, 194, 194, 194, 194, 194, 194, 194, 194, 194, 177, 194, 194, 194,
  0, 1, 1, 12, 0, 0, 0, 0, 0, 0, 0, 0, 0, 0, 0, 0,
  194, 194, 194, 194, 194, 194, 194, 194, 194, 194, 194, 194, 1, 194, 194, 194]
/-- the move of class c in state st -/
def cellAt (st c : Int) : Int := tab.getD (st.toNat * 16 + c.toNat) 0
def mv (st b : Int) : Int := cellAt st (cls b)
def act (st b : Int) : Int := mv st b - mv st b % 16
def nxt (st b : Int) : Int := if mv st b % 16 = 0 then st else mv st b % 16

/-- a draft: priv, inter, parameters begun, those kept, the text -/
structure D where
  priv : Int
  inter : Int
  parts : Nat
  params : List Int
  text : List Int
def d0 : D := ⟨0, 0, 0, [], []⟩
structure S where
  st : Int
  dec : U.St
  d : D
def s0 : S := ⟨1, U.z, d0⟩
structure Ev where
  kind : Int
  rune : Int
  priv : Int
  inter : Int
  final : Int
  params : List Int
  text : List Int
def pr (r : Int) : Ev := ⟨1, r, 0, 0, 0, [], []⟩
def D.begin_ (d : D) : D := ⟨d.priv, d.inter, d.parts + 1, if d.parts < 16 then d.params ++ [-1] else d.params, d.text⟩
def up (x n : Int) : Int := if (if x < 0 then 0 else x) * 10 + n < 65535 then (if x < 0 then 0 else x) * 10 + n else 65535
def D.first (d : D) : D := if d.parts = 0 then d.begin_ else d
def D.put (d : D) (n : Int) : D := if 16 < d.parts then d else ⟨d.priv, d.inter, d.parts, d.params.set (d.parts - 1) (up (d.params.getD (d.parts - 1) 0) n), d.text⟩
def D.digit (d : D) (n : Int) : D := d.first.put n
def D.semi (d : D) : D := d.first.begin_
/-- the action a, with byte b -/
def doo (s : S) (a b : Int) : S × List Ev :=
  if a = 16 then (s, [pr b])
  else if a = 32 then (s, [⟨2, 0, 0, 0, b, [], []⟩])
  else if a = 48 then (⟨s.st, (U.it s.dec b).1, s.d⟩, (U.it s.dec b).2.map pr)
  else if a = 64 then (⟨s.st, s.dec, ⟨b, s.d.inter, s.d.parts, s.d.params, s.d.text⟩⟩, [])
  else if a = 80 then (⟨s.st, s.dec, s.d.digit (b - 48)⟩, [])
  else if a = 96 then (⟨s.st, s.dec, s.d.semi⟩, [])
  else if a = 112 then (⟨s.st, s.dec, ⟨s.d.priv, b, s.d.parts, s.d.params, s.d.text⟩⟩, [])
  else if a = 128 then ((if s.d.text.length = 4096 then ⟨11, s.dec, s.d⟩ else ⟨s.st, s.dec, ⟨s.d.priv, s.d.inter, s.d.parts, s.d.params, s.d.text ++ [b]⟩⟩), [])
  else if a = 144 then (s, [⟨3, 0, 0, s.d.inter, b, [], []⟩])
  else if a = 160 then (s, [⟨4, 0, s.d.priv, s.d.inter, b, s.d.params, []⟩])
  else if a = 176 then (s, [⟨5, 0, 0, 0, 0, [], s.d.text⟩])
  else (s, [])
/-- a held rune that a plain byte ends -/
def brk (s : S) (b : Int) : S × List Ev := if b < 128 ∧ 0 < s.dec.need then (⟨s.st, U.z, s.d⟩, [pr 65533]) else (s, [])
/-- is the draft let go in that state? -/
def lets (st : Int) : Bool := decide (st = 1 ∨ st = 2 ∨ st = 4 ∨ st = 8 ∨ st = 11)
def clr (s : S) : S := if lets s.st = true then ⟨s.st, s.dec, d0⟩ else s
/-- with what byte b is done: action, state, draft -/
def mid (s : S) (b : Int) : Int × S :=
  if act s.st b = 192 then (act (nxt s.st b) b, ⟨nxt (nxt s.st b) b, s.dec, d0⟩) else (act s.st b, ⟨nxt s.st b, s.dec, s.d⟩)
def take (s : S) (b : Int) : S × List Ev :=
  (clr (doo (mid (brk s b).1 b).2 (mid (brk s b).1 b).1 b).1, (brk s b).2 ++ (doo (mid (brk s b).1 b).2 (mid (brk s b).1 b).1 b).2)
def feed : S → List Int → S × List Ev
  | s, [] => (s, [])
  | s, b :: l => ((feed (take s b).1 l).1, (take s b).2 ++ (feed (take s b).1 l).2)
def ground (s : S) : Bool := decide (s.st = 1 ∧ ¬ 0 < s.dec.need)

/-! sizes, bounds -/
structure D.ok (d : D) : Prop where
  priv : 0 ≤ d.priv ∧ d.priv < 256
  inter : 0 ≤ d.inter ∧ d.inter < 256
  len : d.params.length = min d.parts 16
  nums : ∀ x ∈ d.params, -1 ≤ x ∧ x ≤ 65535
  tlen : d.text.length ≤ 4096
  bytes : ∀ x ∈ d.text, 0 ≤ x ∧ x < 256
structure S.ok (s : S) : Prop where
  st : 1 ≤ s.st ∧ s.st ≤ 12
  dec : s.dec.ok
  d : s.d.ok
theorem d0_ok : d0.ok := ⟨by simp [d0], by simp [d0], by simp [d0], by simp [d0], by simp [d0], by simp [d0]⟩
theorem s0_ok : s0.ok := ⟨by simp [s0], U.z_ok, d0_ok⟩

theorem byAll2 {p : Int → Int → Prop} [∀ a b, Decidable (p a b)] (h : ∀ (s : Fin 12) (n : Fin 256), p ((s.val : Int) + 1) (n.val : Int)) (st b : Int) (h0 : 1 ≤ st) (h1 : st ≤ 12) (h2 : 0 ≤ b) (h3 : b < 256) : p st b := by
  obtain ⟨n, rfl⟩ := Int.eq_ofNat_of_zero_le h2
  obtain ⟨m, hm⟩ := Int.eq_ofNat_of_zero_le (show 0 ≤ st - 1 by omega)
  obtain rfl : st = (m : Int) + 1 := by omega
  exact h ⟨m, by omega⟩ ⟨n, by omega⟩
theorem mv_bd (st b : Int) (h0 : 1 ≤ st) (h1 : st ≤ 12) (h2 : 0 ≤ b) (h3 : b < 256) : 0 ≤ mv st b ∧ mv st b < 256 :=
  byAll2 (p := fun st b => 0 ≤ mv st b ∧ mv st b < 256) (by decide +kernel) st b h0 h1 h2 h3
theorem cls_bd (b : Int) (h2 : 0 ≤ b) (h3 : b < 256) : 0 ≤ cls b ∧ cls b < 16 :=
  U.byAll (p := fun b => 0 ≤ cls b ∧ cls b < 16) (by decide +kernel) b h2 h3
theorem nxt_bd (st b : Int) (h0 : 1 ≤ st) (h1 : st ≤ 12) (h2 : 0 ≤ b) (h3 : b < 256) : 1 ≤ nxt st b ∧ nxt st b ≤ 12 :=
  byAll2 (p := fun st b => 1 ≤ nxt st b ∧ nxt st b ≤ 12) (by decide +kernel) st b h0 h1 h2 h3
def isAct (a : Int) : Prop := a = 0 ∨ a = 16 ∨ a = 32 ∨ a = 48 ∨ a = 64 ∨ a = 80 ∨ a = 96 ∨ a = 112 ∨ a = 128 ∨ a = 144 ∨ a = 160 ∨ a = 176
instance (a : Int) : Decidable (isAct a) := by unfold isAct; infer_instance
theorem act_is (st b : Int) (h0 : 1 ≤ st) (h1 : st ≤ 12) (h2 : 0 ≤ b) (h3 : b < 256) : isAct (act st b) ∨ act st b = 192 :=
  byAll2 (p := fun st b => isAct (act st b) ∨ act st b = 192) (by decide +kernel) st b h0 h1 h2 h3
theorem act_again (st b : Int) (h0 : 1 ≤ st) (h1 : st ≤ 12) (h2 : 0 ≤ b) (h3 : b < 256) : act st b = 192 → nxt st b = 2 ∧ isAct (act 2 b) :=
  byAll2 (p := fun st b => act st b = 192 → nxt st b = 2 ∧ isAct (act 2 b)) (by decide +kernel) st b h0 h1 h2 h3
/-- digits alone are counted; an ECsi ends in the ground -/
theorem act_digit (st b : Int) (h0 : 1 ≤ st) (h1 : st ≤ 12) (h2 : 0 ≤ b) (h3 : b < 256) : (act st b = 80 → 48 ≤ b ∧ b ≤ 57) ∧ (act st b = 160 → nxt st b = 1) ∧ (act st b = 16 → b < 128) :=
  byAll2 (p := fun st b => (act st b = 80 → 48 ≤ b ∧ b ≤ 57) ∧ (act st b = 160 → nxt st b = 1) ∧ (act st b = 16 → b < 128)) (by decide +kernel) st b h0 h1 h2 h3

theorem begin_ok {d : D} (h : d.ok) : d.begin_.ok := by
  obtain ⟨h1, h2, h3, h4, h5, h6⟩ := h
  unfold D.begin_
  refine ⟨h1, h2, ?_, ?_, h5, h6⟩
  · simp only []
    split
    · rw [List.length_append, h3]; simp; omega
    · rw [h3]; omega
  · simp only []
    intro x hx
    split at hx
    · rcases List.mem_append.1 hx with hx | hx
      · exact h4 x hx
      · simp at hx; omega
    · exact h4 x hx
theorem first_ok {d : D} (h : d.ok) : d.first.ok := by
  unfold D.first
  split
  · exact begin_ok h
  · exact h
theorem first_parts (d : D) : 1 ≤ d.first.parts ∧ d.parts ≤ d.first.parts ∧ d.first.parts ≤ d.parts + 1 := by
  unfold D.first
  split
  · simp [D.begin_]
  · omega
theorem up_bd {x n : Int} (hx : x ≤ 65535) (h0 : 0 ≤ n) (h1 : n ≤ 9) : 0 ≤ up x n ∧ up x n ≤ 65535 := by
  unfold up
  by_cases hx0 : x < 0
  · simp only [if_pos hx0]
    split <;> omega
  · simp only [if_neg hx0]
    split <;> omega
theorem put_ok {d : D} (h : d.ok) {n : Int} (h0 : 0 ≤ n) (h1 : n ≤ 9) : (d.put n).ok := by
  unfold D.put
  split
  · exact h
  · obtain ⟨a1, a2, a3, a4, a5, a6⟩ := h
    refine ⟨a1, a2, by simpa using a3, ?_, a5, a6⟩
    intro x hx
    rcases List.mem_or_eq_of_mem_set hx with hx | rfl
    · exact a4 x hx
    · have : d.params.getD (d.parts - 1) 0 ≤ 65535 := by
        rw [List.getD_eq_getElem?_getD]
        rcases hq : d.params[d.parts - 1]? with _ | y
        · simp
        · simpa using (a4 y (List.mem_of_getElem? hq)).2
      have := up_bd this h0 h1
      omega
theorem digit_ok {d : D} (h : d.ok) {n : Int} (h0 : 0 ≤ n) (h1 : n ≤ 9) : (d.digit n).ok := put_ok (first_ok h) h0 h1
theorem semi_ok {d : D} (h : d.ok) : d.semi.ok := begin_ok (first_ok h)
theorem put_parts (d : D) (n : Int) : (d.put n).parts = d.parts := by unfold D.put; split <;> rfl
theorem digit_parts (d : D) (n : Int) : (d.digit n).parts ≤ d.parts + 1 := by
  unfold D.digit; rw [put_parts]; exact (first_parts d).2.2
theorem semi_parts (d : D) : d.semi.parts ≤ d.parts + 2 := by
  have := (first_parts d).2.2
  unfold D.semi D.begin_
  simp only []
  omega
theorem doo_by {P : S × List Ev → Prop} (s : S) (a b : Int)
    (h16 : a = 16 → P (s, [pr b]))
    (h32 : a = 32 → P (s, [⟨2, 0, 0, 0, b, [], []⟩]))
    (h48 : a = 48 → P (⟨s.st, (U.it s.dec b).1, s.d⟩, (U.it s.dec b).2.map pr))
    (h64 : a = 64 → P (⟨s.st, s.dec, ⟨b, s.d.inter, s.d.parts, s.d.params, s.d.text⟩⟩, []))
    (h80 : a = 80 → P (⟨s.st, s.dec, s.d.digit (b - 48)⟩, []))
    (h96 : a = 96 → P (⟨s.st, s.dec, s.d.semi⟩, []))
    (h112 : a = 112 → P (⟨s.st, s.dec, ⟨s.d.priv, b, s.d.parts, s.d.params, s.d.text⟩⟩, []))
    (h128 : a = 128 → P ((if s.d.text.length = 4096 then ⟨11, s.dec, s.d⟩ else ⟨s.st, s.dec, ⟨s.d.priv, s.d.inter, s.d.parts, s.d.params, s.d.text ++ [b]⟩⟩), []))
    (h144 : a = 144 → P (s, [⟨3, 0, 0, s.d.inter, b, [], []⟩]))
    (h160 : a = 160 → P (s, [⟨4, 0, s.d.priv, s.d.inter, b, s.d.params, []⟩]))
    (h176 : a = 176 → P (s, [⟨5, 0, 0, 0, 0, [], s.d.text⟩]))
    (hz : P (s, [])) : P (doo s a b) := by
  unfold doo
  by_cases e16 : a = 16
  · rw [if_pos e16]; exact h16 e16
  rw [if_neg e16]
  by_cases e32 : a = 32
  · rw [if_pos e32]; exact h32 e32
  rw [if_neg e32]
  by_cases e48 : a = 48
  · rw [if_pos e48]; exact h48 e48
  rw [if_neg e48]
  by_cases e64 : a = 64
  · rw [if_pos e64]; exact h64 e64
  rw [if_neg e64]
  by_cases e80 : a = 80
  · rw [if_pos e80]; exact h80 e80
  rw [if_neg e80]
  by_cases e96 : a = 96
  · rw [if_pos e96]; exact h96 e96
  rw [if_neg e96]
  by_cases e112 : a = 112
  · rw [if_pos e112]; exact h112 e112
  rw [if_neg e112]
  by_cases e128 : a = 128
  · rw [if_pos e128]; exact h128 e128
  rw [if_neg e128]
  by_cases e144 : a = 144
  · rw [if_pos e144]; exact h144 e144
  rw [if_neg e144]
  by_cases e160 : a = 160
  · rw [if_pos e160]; exact h160 e160
  rw [if_neg e160]
  by_cases e176 : a = 176
  · rw [if_pos e176]; exact h176 e176
  rw [if_neg e176]
  exact hz
theorem doo_parts (s : S) (a b : Int) : (doo s a b).1.d.parts ≤ s.d.parts + 2 := by
  have h1 := digit_parts s.d (b - 48)
  have h2 := semi_parts s.d
  refine doo_by (P := fun r => r.1.d.parts ≤ s.d.parts + 2) s a b (fun _ => Nat.le_add_right _ _) (fun _ => Nat.le_add_right _ _) (fun _ => Nat.le_add_right _ _) (fun _ => Nat.le_add_right _ _)
    (fun _ => Nat.le_trans h1 (by omega)) (fun _ => h2) (fun _ => Nat.le_add_right _ _) (fun _ => ?_) (fun _ => Nat.le_add_right _ _) (fun _ => Nat.le_add_right _ _) (fun _ => Nat.le_add_right _ _) (Nat.le_add_right _ _)
  show (if _ then _ else _ : S).d.parts ≤ _
  split <;> exact Nat.le_add_right _ _
theorem doo_ok {s : S} (h : s.ok) {a b : Int} (h0 : 0 ≤ b) (h1 : b < 256) (ha : a = 80 → 48 ≤ b ∧ b ≤ 57) : (doo s a b).1.ok := by
  obtain ⟨hs, hd, hr⟩ := id h
  refine doo_by (P := fun r => r.1.ok) s a b (fun _ => h) (fun _ => h) (fun _ => ⟨hs, U.it_ok hd b h1, hr⟩) (fun _ => ⟨hs, hd, ⟨⟨h0, h1⟩, hr.inter, hr.len, hr.nums, hr.tlen, hr.bytes⟩⟩)
    (fun e => ?_) (fun _ => ⟨hs, hd, semi_ok hr⟩) (fun _ => ⟨hs, hd, ⟨hr.priv, ⟨h0, h1⟩, hr.len, hr.nums, hr.tlen, hr.bytes⟩⟩) (fun _ => ?_) (fun _ => h) (fun _ => h) (fun _ => h) h
  · have := ha e
    exact ⟨hs, hd, digit_ok hr (by omega) (by omega)⟩
  · show S.ok (if _ then _ else _)
    split
    · exact ⟨by simp, hd, hr⟩
    · have := hr.tlen
      refine ⟨hs, hd, ⟨hr.priv, hr.inter, hr.len, hr.nums, by simp; omega, fun x hx => ?_⟩⟩
      rcases List.mem_append.1 hx with hx | hx
      · exact hr.bytes x hx
      · simp at hx; omega
theorem brk_ok {s : S} (h : s.ok) (b : Int) : (brk s b).1.ok := by
  unfold brk
  split
  · exact ⟨h.st, U.z_ok, h.d⟩
  · exact h
theorem mid_ok {s : S} (h : s.ok) {b : Int} (h0 : 0 ≤ b) (h1 : b < 256) : (mid s b).2.ok ∧ isAct (mid s b).1 ∧ ((mid s b).1 = 80 → 48 ≤ b ∧ b ≤ 57) ∧ ((mid s b).1 = 160 → (mid s b).2.st = 1) := by
  have k1 := nxt_bd s.st b h.st.1 h.st.2 h0 h1
  have k2 := nxt_bd (nxt s.st b) b k1.1 k1.2 h0 h1
  have k3 := act_is s.st b h.st.1 h.st.2 h0 h1
  have k4 := act_again s.st b h.st.1 h.st.2 h0 h1
  have k5 := act_digit s.st b h.st.1 h.st.2 h0 h1
  have k6 := act_digit (nxt s.st b) b k1.1 k1.2 h0 h1
  unfold mid
  split
  · rename_i e
    have k4 := k4 e
    refine ⟨⟨k2, h.dec, d0_ok⟩, ?_, k6.1, k6.2.1⟩
    rw [k4.1]
    exact k4.2
  · rename_i e
    exact ⟨⟨k1, h.dec, h.d⟩, k3.resolve_right e, k5.1, k5.2.1⟩
theorem clr_ok {s : S} (h : s.ok) : (clr s).ok := by
  unfold clr
  split
  · exact ⟨h.st, h.dec, d0_ok⟩
  · exact h
theorem take_ok {s : S} (h : s.ok) {b : Int} (h0 : 0 ≤ b) (h1 : b < 256) : (take s b).1.ok := by
  have k := mid_ok (brk_ok h b) h0 h1
  exact clr_ok (doo_ok k.1 h0 h1 k.2.2.1)
theorem feed_ok {s : S} (h : s.ok) (l : List Int) (hl : ∀ x ∈ l, 0 ≤ x ∧ x < 256) : (feed s l).1.ok := by
  induction l generalizing s with
  | nil => exact h
  | cons b l ih => exact ih (take_ok h (hl b (by simp)).1 (hl b (by simp)).2) (fun x hx => hl x (by simp [hx]))
theorem brk_parts (s : S) (b : Int) : (brk s b).1.d = s.d := by unfold brk; split <;> rfl
theorem mid_parts (s : S) (b : Int) : (mid s b).2.d.parts ≤ s.d.parts := by
  unfold mid
  split
  · simp [d0]
  · simp
theorem clr_parts (s : S) : (clr s).d.parts ≤ s.d.parts := by
  unfold clr
  split
  · simp [d0]
  · simp
theorem take_parts (s : S) (b : Int) : (take s b).1.d.parts ≤ s.d.parts + 2 := by
  have k1 := clr_parts (doo (mid (brk s b).1 b).2 (mid (brk s b).1 b).1 b).1
  have k2 := doo_parts (mid (brk s b).1 b).2 (mid (brk s b).1 b).1 b
  have k3 := mid_parts (brk s b).1 b
  rw [brk_parts] at k3
  show (clr _).d.parts ≤ _
  omega
theorem feed_parts (s : S) (l : List Int) : (feed s l).1.d.parts ≤ s.d.parts + 2 * l.length := by
  induction l generalizing s with
  | nil => simp [feed]
  | cons b l ih =>
    have h1 := take_parts s b
    have h2 := ih (take s b).1
    simp only [feed, List.length_cons]
    omega
theorem feed_append (s : S) (l m : List Int) : feed s (l ++ m) = ((feed (feed s l).1 m).1, (feed s l).2 ++ (feed (feed s l).1 m).2) := by
  induction l generalizing s with
  | nil => simp [feed]
  | cons b l ih => simp [feed, ih]
theorem feed_one (s : S) (b : Int) : feed s [b] = take s b := by simp [feed]
theorem feed_snoc (s : S) (l : List Int) (b : Int) : feed s (l ++ [b]) = ((take (feed s l).1 b).1, (feed s l).2 ++ (take (feed s l).1 b).2) := by
  rw [feed_append, feed_one]
theorem doo_len (s : S) (a b : Int) : (doo s a b).2.length ≤ 2 := by
  have := U.it_len s.dec b
  exact doo_by (P := fun r => r.2.length ≤ 2) s a b (fun _ => by simp) (fun _ => by simp) (fun _ => by simpa using this) (fun _ => by simp) (fun _ => by simp) (fun _ => by simp) (fun _ => by simp) (fun _ => by simp) (fun _ => by simp) (fun _ => by simp) (fun _ => by simp) (by simp)
theorem brk_len (s : S) (b : Int) : (brk s b).2.length ≤ 1 := by unfold brk; split <;> simp
theorem take_len (s : S) (b : Int) : (take s b).2.length ≤ 3 := by
  have h1 := brk_len s b
  have h2 := doo_len (mid (brk s b).1 b).2 (mid (brk s b).1 b).1 b
  simp only [take, List.length_append]
  omega
theorem feed_len (s : S) (l : List Int) : (feed s l).2.length ≤ 3 * l.length := by
  induction l generalizing s with
  | nil => simp [feed]
  | cons b l ih =>
    have h1 := take_len s b
    have h2 := ih (take s b).1
    simp only [feed, List.length_append, List.length_cons]
    omega
/-- the run that has b -/
theorem place_le (b : Int) : place b ≤ 24 := by
  have := List.takeWhile_sublist (l := lasts) (fun l => decide (l < b))
  exact this.length_le
theorem place_lt {b : Int} {k : Nat} (h0 : 0 ≤ b) (h1 : b < 256) (hk : k < place b) : lastAt k < b := by
  have h : ∀ b : Fin 256, ∀ k : Fin 24, k.val < place (b.val : Int) → lastAt k.val < (b.val : Int) := by decide +kernel
  obtain ⟨n, rfl⟩ := Int.eq_ofNat_of_zero_le h0
  have := place_le (n : Int)
  exact h ⟨n, by omega⟩ ⟨k, by omega⟩ hk
theorem place_at {b : Int} (h0 : 0 ≤ b) (h1 : b < 256) (hk : place b < 24) : b ≤ lastAt (place b) := by
  have h : ∀ b : Fin 256, place (b.val : Int) < 24 → (b.val : Int) ≤ lastAt (place (b.val : Int)) := by decide +kernel
  obtain ⟨n, rfl⟩ := Int.eq_ofNat_of_zero_le h0
  exact h ⟨n, by omega⟩ hk
theorem cls_none {b : Int} (hk : place b = 24) : cls b = 15 := by unfold cls; rw [hk]; rfl
end Go.Proofs.YtnnjppgmadmmaaaDoor.PA
