/- Grids in plain Lean: cells in rows; what New, Put, Wipe, Resize, Mend make of them; which are right; what follows. Names no function of a program. A row's text in plain Lean: how many runes, and the row built anew by Put from left to right. Names no function of a program. -/
import Derived.Test.YtcbmjdacdjcggaaDoorCellSpec
namespace Go.Proofs.YtcbmjdacdjcggaaDoor.PG
set_option linter.unusedVariables false
/-- a pen: fore, back, flags; a cell: rune, kind, pen -/
abbrev Pn := Int × Int × Int
abbrev Cl := Int × Int × Pn
def rn (c : Cl) : Int := c.1
def kd (c : Cl) : Int := c.2.1
def pn (c : Cl) : Pn := c.2.2
def okPen (p : Pn) : Prop := C.right p.1 p.2.1 p.2.2 = true
def blank (p : Pn) : Cl := (32, 0, p)
def plain : Pn := (-1, -1, 0)
theorem rn_blank (p : Pn) : rn (blank p) = 32 := rfl
theorem kd_blank (p : Pn) : kd (blank p) = 0 := rfl
theorem pn_blank (p : Pn) : pn (blank p) = p := rfl
theorem plain_ok : okPen plain := by unfold okPen plain; decide
theorem cl_ext {a b : Cl} (h1 : rn a = rn b) (h2 : kd a = kd b) (h3 : pn a = pn b) : a = b := by
  obtain ⟨_, _, _⟩ := a
  obtain ⟨_, _, _⟩ := b
  simp only [rn, kd, pn] at h1 h2 h3
  rw [h1, h2, h3]
/-- a row: what stands in its n places -/
def mend (f : Nat → Cl) (n : Nat) (j : Nat) : Cl :=
  if (kd (f j) = 1 ∧ ¬ (j + 1 < n ∧ kd (f (j + 1)) = 2)) ∨ (kd (f j) = 2 ∧ ¬ (0 < j ∧ kd (f (j - 1)) = 1)) then blank (pn (f j)) else f j
def wiped (f : Nat → Cl) (a b : Nat) (p : Pn) (j : Nat) : Cl := if a ≤ j ∧ j < b then blank p else f j
def putRow (f : Nat → Cl) (c : Nat) (x : Int) (p : Pn) (w : Nat) (j : Nat) : Cl :=
  if j = c then (x, if w = 2 then 1 else 0, p)
  else if w = 2 ∧ j = c + 1 then (0, 2, p)
  else if j + 1 = c ∧ kd (f c) = 2 then blank (pn (f j))
  else if j = c + w ∧ kd (f (c + w - 1)) = 1 then blank (pn (f j))
  else f j
/-- may a row be? -/
def RightRow (f : Nat → Cl) (n : Nat) : Prop := ∀ j, j < n → okPen (pn (f j)) ∧
  ((kd (f j) = 0 ∧ C.width (rn (f j)) = 1) ∨
   (kd (f j) = 1 ∧ C.width (rn (f j)) = 2 ∧ j + 1 < n ∧ kd (f (j + 1)) = 2 ∧ pn (f (j + 1)) = pn (f j)) ∨
   (kd (f j) = 2 ∧ rn (f j) = 0 ∧ 0 < j ∧ kd (f (j - 1)) = 1))
theorem width_blank : C.width 32 = 1 := by decide
theorem right_blank (p : Pn) (hp : okPen p) (n : Nat) : RightRow (fun _ => blank p) n := fun j _ => ⟨hp, .inl ⟨rfl, width_blank⟩⟩
/-- behind a Left one a Right one, ahead of a Right one a Left one -/
theorem RightRow.left {f : Nat → Cl} {n j : Nat} (h : RightRow f n) (hj : j < n) (hk : kd (f j) = 1) : C.width (rn (f j)) = 2 ∧ j + 1 < n ∧ kd (f (j + 1)) = 2 ∧ pn (f (j + 1)) = pn (f j) := by
  rcases (h j hj).2 with h | h | h
  · omega
  · exact h.2
  · omega
theorem RightRow.rightHalf {f : Nat → Cl} {n j : Nat} (h : RightRow f n) (hj : j < n) (hk : kd (f j) = 2) : rn (f j) = 0 ∧ 0 < j ∧ kd (f (j - 1)) = 1 := by
  rcases (h j hj).2 with h | h | h
  · omega
  · omega
  · exact h.2
theorem RightRow.kind {f : Nat → Cl} {n j : Nat} (h : RightRow f n) (hj : j < n) : kd (f j) = 0 ∨ kd (f j) = 1 ∨ kd (f j) = 2 := by
  rcases (h j hj).2 with h | h | h
  · exact .inl h.1
  · exact .inr (.inl h.1)
  · exact .inr (.inr h.1)
/-- a right row is mended -/
theorem mend_right {f : Nat → Cl} {n j : Nat} (h : RightRow f n) (hj : j < n) : mend f n j = f j := by
  unfold mend
  rw [if_neg]
  rintro (⟨h1, h2⟩ | ⟨h1, h2⟩)
  · have := h.left hj h1
    exact h2 ⟨this.2.1, this.2.2.1⟩
  · have := h.rightHalf hj h1
    exact h2 ⟨this.2.1, this.2.2⟩
/-- cells of a right row, and blanks, mended are right -/
theorem right_mend {f h : Nat → Cl} {n m : Nat} (hf : RightRow f n) (hh : ∀ j, j < m → (h j = f j ∧ j < n) ∨ ∃ p, okPen p ∧ h j = blank p) : RightRow (mend h m) m := by
  intro j hj
  have hkind : ∀ i, kd (mend h m i) = (if (kd (h i) = 1 ∧ ¬ (i + 1 < m ∧ kd (h (i + 1)) = 2)) ∨ (kd (h i) = 2 ∧ ¬ (0 < i ∧ kd (h (i - 1)) = 1)) then 0 else kd (h i)) := fun i => by
    unfold mend
    split <;> rfl
  have hpn : ∀ i, pn (mend h m i) = pn (h i) := fun i => by
    unfold mend
    split <;> rfl
  rcases hh j hj with ⟨e, hjn⟩ | ⟨p, hp, e⟩
  · have hr := hf j hjn
    refine ⟨by rw [hpn, e]; exact hr.1, ?_⟩
    by_cases hb : (kd (h j) = 1 ∧ ¬ (j + 1 < m ∧ kd (h (j + 1)) = 2)) ∨ (kd (h j) = 2 ∧ ¬ (0 < j ∧ kd (h (j - 1)) = 1))
    · left
      refine ⟨by rw [hkind, if_pos hb], ?_⟩
      unfold mend
      rw [if_pos hb]
      exact width_blank
    · have hm : mend h m j = h j := by unfold mend; rw [if_neg hb]
      rw [hm, e]
      rcases hf.kind hjn with h0 | h1 | h2
      · left
        refine ⟨h0, ?_⟩
        rcases hr.2 with h | h | h
        · exact h.2
        · omega
        · omega
      · right; left
        have hl := hf.left hjn h1
        have hn : j + 1 < m ∧ kd (h (j + 1)) = 2 := by
          by_cases hx : j + 1 < m ∧ kd (h (j + 1)) = 2
          · exact hx
          · exact absurd (.inl ⟨by rw [e]; exact h1, hx⟩) hb
        refine ⟨h1, hl.1, hn.1, ?_, ?_⟩
        · rw [hkind, if_neg, hn.2]
          rintro (⟨a, _⟩ | ⟨_, b⟩)
          · omega
          · exact b ⟨by omega, by rw [Nat.add_sub_cancel, e]; exact h1⟩
        · rw [hpn]
          rcases hh (j + 1) hn.1 with ⟨e', _⟩ | ⟨p, _, e'⟩
          · rw [e']; exact hl.2.2.2
          · rw [e'] at hn; have := hn.2; rw [kd_blank] at this; omega
      · right; right
        have hl := hf.rightHalf hjn h2
        have hn : 0 < j ∧ kd (h (j - 1)) = 1 := by
          by_cases hx : 0 < j ∧ kd (h (j - 1)) = 1
          · exact hx
          · exact absurd (.inr ⟨by rw [e]; exact h2, hx⟩) hb
        refine ⟨h2, hl.1, hn.1, ?_⟩
        rw [hkind, if_neg, hn.2]
        rintro (⟨_, b⟩ | ⟨a, _⟩)
        · exact b ⟨by omega, by rw [show j - 1 + 1 = j from by omega, e]; exact h2⟩
        · omega
  · have hm : mend h m j = blank p := by
      unfold mend
      rw [e]
      rw [if_neg (by rw [kd_blank]; omega)]
    rw [hm]
    exact ⟨hp, .inl ⟨rfl, width_blank⟩⟩
theorem right_wipe {f : Nat → Cl} {n : Nat} (hf : RightRow f n) (a b : Nat) {p : Pn} (hp : okPen p) : RightRow (mend (wiped f a b p) n) n := by
  refine right_mend hf fun j hj => ?_
  unfold wiped
  by_cases h : a ≤ j ∧ j < b
  · rw [if_pos h]; exact .inr ⟨p, hp, rfl⟩
  · rw [if_neg h]; exact .inl ⟨rfl, hj⟩
/-- what Put leaves may be a row -/
theorem right_put {f : Nat → Cl} {n c : Nat} {x : Int} {p : Pn} {w : Nat} (hf : RightRow f n) (hp : okPen p) (hw : C.width x = (w : Int)) (hw0 : 1 ≤ w) (hw2 : w ≤ 2) (hc : c + w ≤ n) : RightRow (putRow f c x p w) n := by
  intro j hj
  have hfj := hf j hj
  -- the kinds of what stands there
  have hat : ∀ i, putRow f c x p w i = if i = c then (x, if w = 2 then 1 else 0, p) else if w = 2 ∧ i = c + 1 then (0, 2, p) else if i + 1 = c ∧ kd (f c) = 2 then blank (pn (f i)) else if i = c + w ∧ kd (f (c + w - 1)) = 1 then blank (pn (f i)) else f i := fun _ => rfl
  by_cases h1 : j = c
  · have e : putRow f c x p w j = (x, if w = 2 then 1 else 0, p) := by rw [hat, if_pos h1]
    rw [e]
    refine ⟨hp, ?_⟩
    by_cases h2 : w = 2
    · right; left
      refine ⟨by simp [kd, h2], by show C.width x = 2; rw [hw, h2]; rfl, by omega, ?_, ?_⟩
      · rw [hat, if_neg (by omega), if_pos ⟨h2, by omega⟩]; rfl
      · rw [hat, if_neg (by omega), if_pos ⟨h2, by omega⟩]; rfl
    · left
      refine ⟨by simp [kd, h2], ?_⟩
      show C.width x = 1
      rw [hw]
      omega
  by_cases h2 : w = 2 ∧ j = c + 1
  · have e : putRow f c x p w j = (0, 2, p) := by rw [hat, if_neg h1, if_pos h2]
    rw [e]
    refine ⟨hp, .inr (.inr ⟨rfl, rfl, by omega, ?_⟩)⟩
    rw [hat, if_pos (by omega)]
    simp [kd, h2.1]
  by_cases h3 : j + 1 = c ∧ kd (f c) = 2
  · have e : putRow f c x p w j = blank (pn (f j)) := by rw [hat, if_neg h1, if_neg h2, if_pos h3]
    rw [e]
    exact ⟨hfj.1, .inl ⟨rfl, width_blank⟩⟩
  by_cases h4 : j = c + w ∧ kd (f (c + w - 1)) = 1
  · have e : putRow f c x p w j = blank (pn (f j)) := by rw [hat, if_neg h1, if_neg h2, if_neg h3, if_pos h4]
    rw [e]
    exact ⟨hfj.1, .inl ⟨rfl, width_blank⟩⟩
  have e : putRow f c x p w j = f j := by rw [hat, if_neg h1, if_neg h2, if_neg h3, if_neg h4]
  rw [e]
  refine ⟨hfj.1, ?_⟩
  rcases hfj.2 with h | ⟨k1, k2, k3, k4, k5⟩ | ⟨k1, k2, k3, k4⟩
  · exact .inl h
  · right; left
    -- its Right half is not touched
    have n1 : ¬ j + 1 = c := fun hx => h3 ⟨hx, by rw [← hx]; exact k4⟩
    have n2 : ¬ (w = 2 ∧ j + 1 = c + 1) := fun hx => h1 (by omega)
    have n4 : ¬ (j + 1 = c + w ∧ kd (f (c + w - 1)) = 1) := fun hx => by
      have : j = c ∨ (w = 2 ∧ j = c + 1) := by omega
      rcases this with h | h
      · exact h1 h
      · exact h2 h
    have n3 : ¬ (j + 1 + 1 = c ∧ kd (f c) = 2) := fun hx => by
      have := hf.rightHalf (j := c) (by omega) hx.2
      rw [show c - 1 = j + 1 from by omega] at this
      omega
    have e1 : putRow f c x p w (j + 1) = f (j + 1) := by rw [hat, if_neg n1, if_neg n2, if_neg n3, if_neg n4]
    exact ⟨k1, k2, k3, by rw [e1]; exact k4, by rw [e1]; exact k5⟩
  · right; right
    have n1 : ¬ j - 1 = c := fun hx => by
      by_cases hw2' : w = 2
      · exact h2 ⟨hw2', by omega⟩
      · exact h4 ⟨by omega, by rw [show c + w - 1 = j - 1 from by omega]; exact k4⟩
    have n2 : ¬ (w = 2 ∧ j - 1 = c + 1) := fun hx => h4 ⟨by omega, by rw [show c + w - 1 = j - 1 from by omega]; exact k4⟩
    have n3 : ¬ (j - 1 + 1 = c ∧ kd (f c) = 2) := fun hx => h1 (by omega)
    have n4 : ¬ (j - 1 = c + w ∧ kd (f (c + w - 1)) = 1) := fun hx => by
      have := hf.left (j := c + w - 1) (by omega) hx.2
      rw [show c + w - 1 + 1 = j - 1 from by omega] at this
      omega
    have e1 : putRow f c x p w (j - 1) = f (j - 1) := by rw [hat, if_neg n1, if_neg n2, if_neg n3, if_neg n4]
    exact ⟨k1, k2, k3, by rw [e1]; exact k4⟩
/-- a grid -/
structure Gr where
  rows : Nat
  cols : Nat
  f : Nat → Nat → Cl
def Alike (a b : Gr) : Prop := a.rows = b.rows ∧ a.cols = b.cols ∧ ∀ r c, r < a.rows → c < a.cols → a.f r c = b.f r c
theorem Alike.refl (a : Gr) : Alike a a := ⟨rfl, rfl, fun _ _ _ _ => rfl⟩
theorem Alike.symm {a b : Gr} (h : Alike a b) : Alike b a := ⟨h.1.symm, h.2.1.symm, fun r c hr hc => (h.2.2 r c (by rw [h.1]; exact hr) (by rw [h.2.1]; exact hc)).symm⟩
theorem Alike.trans {a b c : Gr} (h : Alike a b) (k : Alike b c) : Alike a c := ⟨h.1.trans k.1, h.2.1.trans k.2.1, fun r x hr hx => (h.2.2 r x hr hx).trans (k.2.2 r x (by rw [← h.1]; exact hr) (by rw [← h.2.1]; exact hx))⟩
/-- its cells, row behind row -/
def cells (g : Gr) : List Cl := (List.range (g.rows * g.cols)).map fun i => g.f (i / g.cols) (i % g.cols)
theorem cells_len (g : Gr) : (cells g).length = g.rows * g.cols := by simp [cells]
theorem place_lt {R K r c : Nat} (hr : r < R) (hc : c < K) : r * K + c < R * K := by
  have h : (r + 1) * K ≤ R * K := Nat.mul_le_mul_right K hr
  rw [Nat.succ_mul] at h
  omega
theorem place_div {K r c : Nat} (hc : c < K) : (r * K + c) / K = r ∧ (r * K + c) % K = c := by
  constructor
  · rw [Nat.mul_comm, Nat.mul_add_div (by omega), Nat.div_eq_of_lt hc, Nat.add_zero]
  · rw [Nat.mul_comm, Nat.mul_add_mod, Nat.mod_eq_of_lt hc]
theorem cells_at (g : Gr) {r c : Nat} (hr : r < g.rows) (hc : c < g.cols) : (cells g)[r * g.cols + c]? = some (g.f r c) := by
  unfold cells
  rw [List.getElem?_map, List.getElem?_range (place_lt hr hc)]
  obtain ⟨h1, h2⟩ := place_div (r := r) hc
  simp only [Option.map_some, h1, h2]
theorem place_of {R K i : Nat} (h : i < R * K) : 0 < K ∧ i / K < R ∧ i % K < K ∧ i / K * K + i % K = i := by
  have hK : 0 < K := by
    rcases Nat.eq_zero_or_pos K with h0 | h0
    · subst h0; simp at h
    · exact h0
  exact ⟨hK, Nat.div_lt_of_lt_mul (by rw [Nat.mul_comm]; exact h), Nat.mod_lt _ hK, by rw [Nat.mul_comm]; exact Nat.div_add_mod i K⟩
theorem alike_cells {a b : Gr} : Alike a b ↔ (a.rows = b.rows ∧ a.cols = b.cols ∧ cells a = cells b) := by
  constructor
  · rintro ⟨h1, h2, h3⟩
    refine ⟨h1, h2, ?_⟩
    unfold cells
    rw [← h1, ← h2]
    refine List.map_congr_left fun i hi => ?_
    obtain ⟨_, h4, h5, _⟩ := place_of (List.mem_range.1 hi)
    exact h3 _ _ h4 h5
  · rintro ⟨h1, h2, h3⟩
    refine ⟨h1, h2, fun r c hr hc => ?_⟩
    have e1 := cells_at a hr hc
    have e2 := cells_at b (r := r) (c := c) (by rw [← h1]; exact hr) (by rw [← h2]; exact hc)
    rw [← h2, ← h3, e1] at e2
    exact Option.some.inj e2
def newG (R K : Nat) (p : Pn) : Gr := ⟨R, K, fun _ _ => blank p⟩
def putG (g : Gr) (r c : Nat) (x : Int) (p : Pn) : Gr :=
  if r < g.rows ∧ 1 ≤ C.width x ∧ c + (C.width x).toNat ≤ g.cols then ⟨g.rows, g.cols, fun i j => if i = r then putRow (g.f r) c x p (C.width x).toNat j else g.f i j⟩ else g
def wipeG (g : Gr) (r a b : Nat) (p : Pn) : Gr := if r < g.rows then ⟨g.rows, g.cols, fun i j => if i = r then mend (wiped (g.f r) a b p) g.cols j else g.f i j⟩ else g
def resizeG (g : Gr) (R K : Nat) : Gr := ⟨R, K, fun i j => mend (fun j => if i < g.rows ∧ j < g.cols then g.f i j else blank plain) K j⟩
def RightG (g : Gr) : Prop := 1 ≤ g.rows ∧ g.rows ≤ 40 ∧ 1 ≤ g.cols ∧ g.cols ≤ 60 ∧ ∀ r, r < g.rows → RightRow (g.f r) g.cols
theorem width_bd (x : Int) : C.width x = 0 ∨ C.width x = 1 ∨ C.width x = 2 := by
  rw [C.width_ref]
  unfold C.refWidth
  split
  · exact .inl rfl
  · generalize C.wides = l
    induction l with
    | nil => right; left; rfl
    | cons p l ih =>
      obtain ⟨a, b⟩ := p
      unfold C.isWide
      split
      · right; right; rfl
      · exact ih
theorem right_newG {R K : Nat} {p : Pn} (hp : okPen p) (h1 : 1 ≤ R) (h2 : R ≤ 40) (h3 : 1 ≤ K) (h4 : K ≤ 60) : RightG (newG R K p) := ⟨h1, h2, h3, h4, fun _ _ => right_blank p hp K⟩
theorem right_putG {g : Gr} (h : RightG g) {p : Pn} (hp : okPen p) (r c : Nat) (x : Int) : RightG (putG g r c x p) := by
  unfold putG
  by_cases hc : r < g.rows ∧ 1 ≤ C.width x ∧ c + (C.width x).toNat ≤ g.cols
  · rw [if_pos hc]
    refine ⟨h.1, h.2.1, h.2.2.1, h.2.2.2.1, fun i hi => ?_⟩
    by_cases hir : i = r
    · subst hir
      simp only [if_true]
      have hw := width_bd x
      exact right_put (h.2.2.2.2 i hi) hp (by omega) (by omega) (by omega) hc.2.2
    · simp only [if_neg hir]
      exact h.2.2.2.2 i hi
  · rw [if_neg hc]; exact h
theorem right_wipeG {g : Gr} (h : RightG g) {p : Pn} (hp : okPen p) (r a b : Nat) : RightG (wipeG g r a b p) := by
  unfold wipeG
  by_cases hc : r < g.rows
  · rw [if_pos hc]
    refine ⟨h.1, h.2.1, h.2.2.1, h.2.2.2.1, fun i hi => ?_⟩
    by_cases hir : i = r
    · subst hir
      simp only [if_true]
      exact right_wipe (h.2.2.2.2 i hi) a b hp
    · simp only [if_neg hir]
      exact h.2.2.2.2 i hi
  · rw [if_neg hc]; exact h
theorem right_resizeG {g : Gr} (h : RightG g) {R K : Nat} (h1 : 1 ≤ R) (h2 : R ≤ 40) (h3 : 1 ≤ K) (h4 : K ≤ 60) : RightG (resizeG g R K) := by
  refine ⟨h1, h2, h3, h4, fun i hi => ?_⟩
  by_cases hir : i < g.rows
  · refine right_mend (h.2.2.2.2 i hir) fun j hj => ?_
    by_cases hjc : j < g.cols
    · left; simp [hir, hjc]
    · right; exact ⟨plain, plain_ok, by simp [hjc]⟩
  · refine right_mend (right_blank plain plain_ok K) fun j hj => ?_
    left
    simp [hir, hj]
/-! what the laws ask -/
/-- what isn't near stays -/
theorem put_far {g : Gr} {r c i j : Nat} {x : Int} {p : Pn} (h : ¬ (i = r ∧ c ≤ j + 1 ∧ j ≤ c + (C.width x).toNat)) : (putG g r c x p).f i j = g.f i j := by
  unfold putG
  by_cases hc : r < g.rows ∧ 1 ≤ C.width x ∧ c + (C.width x).toNat ≤ g.cols
  · rw [if_pos hc]
    by_cases hir : i = r
    · subst hir
      simp only [if_true]
      unfold putRow
      rw [if_neg (by omega), if_neg (by omega), if_neg (by omega), if_neg (by omega)]
    · simp only [if_neg hir]
  · rw [if_neg hc]
theorem put_at {g : Gr} {r c : Nat} {x : Int} {p : Pn} (h : r < g.rows ∧ 1 ≤ C.width x ∧ c + (C.width x).toNat ≤ g.cols) : (putG g r c x p).f r c = (x, if (C.width x).toNat = 2 then 1 else 0, p) := by
  unfold putG
  rw [if_pos h]
  simp only [if_true]
  unfold putRow
  rw [if_pos rfl]
theorem put_not {g : Gr} {r c : Nat} {x : Int} {p : Pn} (h : ¬ (r < g.rows ∧ 1 ≤ C.width x ∧ c + (C.width x).toNat ≤ g.cols)) : putG g r c x p = g := if_neg h
theorem put_size (g : Gr) (r c : Nat) (x : Int) (p : Pn) : (putG g r c x p).rows = g.rows ∧ (putG g r c x p).cols = g.cols := by
  unfold putG
  split <;> exact ⟨rfl, rfl⟩
theorem wipe_size (g : Gr) (r a b : Nat) (p : Pn) : (wipeG g r a b p).rows = g.rows ∧ (wipeG g r a b p).cols = g.cols := by
  unfold wipeG
  split <;> exact ⟨rfl, rfl⟩
theorem mend_congr {f h : Nat → Cl} {n : Nat} (e : ∀ j, j < n → f j = h j) {j : Nat} (hj : j < n) : mend f n j = mend h n j := by
  unfold mend
  rw [e j hj]
  have a1 : (j + 1 < n ∧ kd (f (j + 1)) = 2) ↔ (j + 1 < n ∧ kd (h (j + 1)) = 2) := and_congr_right fun hh => by rw [e _ hh]
  have a2 : (0 < j ∧ kd (f (j - 1)) = 1) ↔ (0 < j ∧ kd (h (j - 1)) = 1) := and_congr_right fun hh => by rw [e _ (by omega)]
  simp only [a1, a2]
/-- wiped by nothing it is the same -/
theorem wipe_none {g : Gr} (h : RightG g) (r m : Nat) (p : Pn) : Alike (wipeG g r m m p) g := by
  refine ⟨(wipe_size g r m m p).1, (wipe_size g r m m p).2, fun i j hi hj => ?_⟩
  rw [(wipe_size g r m m p).1] at hi
  rw [(wipe_size g r m m p).2] at hj
  unfold wipeG
  by_cases hr : r < g.rows
  · rw [if_pos hr]
    by_cases hir : i = r
    · subst hir
      simp only [if_true]
      rw [mend_congr (h := g.f i) (fun k _ => by unfold wiped; rw [if_neg (by omega)]) hj]
      exact mend_right (h.2.2.2.2 i hi) hj
    · simp only [if_neg hir]
  · rw [if_neg hr]
/-- a row wiped whole is blank -/
theorem wipe_all {g : Gr} {r : Nat} (hr : r < g.rows) (p : Pn) {j : Nat} (hj : j < g.cols) : (wipeG g r 0 g.cols p).f r j = blank p := by
  unfold wipeG
  rw [if_pos hr]
  simp only [if_true]
  rw [mend_congr (h := fun _ => blank p) (fun k hk => by unfold wiped; rw [if_pos (by omega)]) hj]
  unfold mend
  rw [if_neg (by rw [kd_blank]; omega)]
theorem wipe_other {g : Gr} {r i a b : Nat} (h : i ≠ r) (p : Pn) (j : Nat) : (wipeG g r a b p).f i j = g.f i j := by
  unfold wipeG
  split
  · simp only [if_neg h]
  · rfl
/-- greater, and back again, it is the same -/
theorem resize_back {g : Gr} (h : RightG g) {R K : Nat} (hR : g.rows ≤ R) (hK : g.cols ≤ K) : Alike (resizeG (resizeG g R K) g.rows g.cols) g := by
  refine ⟨rfl, rfl, fun i j hi hj => ?_⟩
  have hi : i < g.rows := hi
  have hj : j < g.cols := hj
  have big : ∀ k, k < g.cols → (resizeG g R K).f i k = g.f i k := fun k hk => by
    show mend (fun j => if i < g.rows ∧ j < g.cols then g.f i j else blank plain) K k = _
    unfold mend
    have hr := h.2.2.2.2 i hi
    simp only [hi, hk, and_self, if_true, true_and]
    rw [if_neg]
    rintro (⟨a, b⟩ | ⟨a, b⟩)
    · have := hr.left hk a
      exact b ⟨by omega, by rw [if_pos this.2.1]; exact this.2.2.1⟩
    · have := hr.rightHalf hk a
      exact b ⟨this.2.1, by rw [if_pos (by omega)]; exact this.2.2⟩
  show mend (fun j => if i < (resizeG g R K).rows ∧ j < (resizeG g R K).cols then (resizeG g R K).f i j else blank plain) g.cols j = _
  rw [mend_congr (h := g.f i) (fun k hk => by rw [if_pos ⟨Nat.lt_of_lt_of_le hi hR, Nat.lt_of_lt_of_le hk hK⟩]; exact big k hk) hj]
  exact mend_right (h.2.2.2.2 i hi) hj
theorem resize_same {g : Gr} (h : RightG g) : Alike (resizeG g g.rows g.cols) g := by
  refine ⟨rfl, rfl, fun i j hi hj => ?_⟩
  have hi : i < g.rows := hi
  have hj : j < g.cols := hj
  show mend (fun j => if i < g.rows ∧ j < g.cols then g.f i j else blank plain) g.cols j = _
  rw [mend_congr (h := g.f i) (fun k hk => by rw [if_pos ⟨hi, hk⟩]) hj]
  exact mend_right (h.2.2.2.2 i hi) hj
end Go.Proofs.YtcbmjdacdjcggaaDoor.PG
namespace Go.Proofs.YtcbmjdacdjcggaaDoor.PG
set_option linter.unusedVariables false
/-- the runes of a row's first n cells, but for Right ones -/
def runes (f : Nat → Cl) (n : Nat) : List Int := ((List.range n).filter fun j => kd (f j) ≠ 2).map fun j => rn (f j)
def wides (l : List Int) : Nat := (l.filter fun x => C.width x = 2).length
theorem runes_succ (f : Nat → Cl) (n : Nat) : runes f (n + 1) = runes f n ++ (if kd (f n) ≠ 2 then [rn (f n)] else []) := by
  unfold runes
  rw [List.range_succ, List.filter_append, List.map_append]
  congr 1
  by_cases h : kd (f n) = 2 <;> simp [h]
theorem runes_congr {f h : Nat → Cl} {n : Nat} (e : ∀ j, j < n → f j = h j) : runes f n = runes h n := by
  induction n with
  | zero => rfl
  | succ n ih => rw [runes_succ, runes_succ, ih fun j hj => e j (by omega), e n (by omega)]
theorem wides_append (a b : List Int) : wides (a ++ b) = wides a + wides b := by
  unfold wides
  rw [List.filter_append, List.length_append]
/-- as many runes as cells, less one for each wide one -/
theorem runes_count {f : Nat → Cl} {n : Nat} (h : RightRow f n) : ∀ c, c ≤ n → (runes f c).length + wides (runes f c) = c + (if 0 < c ∧ kd (f (c - 1)) = 1 then 1 else 0) := by
  intro c
  induction c with
  | zero => intro _; rfl
  | succ c ih =>
    intro hc
    have hi := ih (by omega)
    rw [runes_succ, List.length_append, wides_append]
    rcases (h c (by omega)).2 with ⟨k1, k2⟩ | ⟨k1, k2, _⟩ | ⟨k1, k2, k3, k4⟩
    · have hp : ¬ (0 < c ∧ kd (f (c - 1)) = 1) := fun ⟨a, b⟩ => by
        have := (h.left (j := c - 1) (by omega) b).2.2.1
        rw [show c - 1 + 1 = c from by omega] at this
        omega
      rw [if_neg hp] at hi
      have e : (if kd (f c) ≠ 2 then [rn (f c)] else []) = [rn (f c)] := if_pos (by omega)
      have e2 : wides [rn (f c)] = 0 := by simp [wides, k2]
      rw [e, e2, if_neg (by rw [Nat.add_sub_cancel]; omega)]
      simp only [List.length_singleton]
      omega
    · have hp : ¬ (0 < c ∧ kd (f (c - 1)) = 1) := fun ⟨a, b⟩ => by
        have := (h.left (j := c - 1) (by omega) b).2.2.1
        rw [show c - 1 + 1 = c from by omega] at this
        omega
      rw [if_neg hp] at hi
      have e : (if kd (f c) ≠ 2 then [rn (f c)] else []) = [rn (f c)] := if_pos (by omega)
      have e2 : wides [rn (f c)] = 1 := by simp [wides, k2]
      rw [e, e2, if_pos (by rw [Nat.add_sub_cancel]; omega)]
      simp only [List.length_singleton]
      omega
    · rw [if_pos ⟨k3, k4⟩] at hi
      have e : (if kd (f c) ≠ 2 then [rn (f c)] else []) = [] := if_neg (by omega)
      rw [e, if_neg (by rw [Nat.add_sub_cancel]; omega)]
      show _ + 0 + (_ + 0) = _
      omega
theorem runes_all {f : Nat → Cl} {n : Nat} (h : RightRow f n) : (runes f n).length + wides (runes f n) = n := by
  rw [runes_count h n (Nat.le_refl n), if_neg, Nat.add_zero]
  rintro ⟨a, b⟩
  have := (h.left (j := n - 1) (by omega) b).2.1
  omega
/-- each of them is one or two wide -/
theorem runes_wide {f : Nat → Cl} {n : Nat} (h : RightRow f n) {x : Int} (hx : x ∈ runes f n) : C.width x = 1 ∨ C.width x = 2 := by
  unfold runes at hx
  obtain ⟨j, hj, rfl⟩ := List.mem_map.1 hx
  obtain ⟨hj, hk⟩ := List.mem_filter.1 hj
  have hk : kd (f j) ≠ 2 := by simpa using hk
  rcases (h j (List.mem_range.1 hj)).2 with k | k | k
  · exact .inl k.2
  · exact .inr k.2.1
  · exact absurd k.1 hk
/-! built anew -/
/-- one column more: the law's round -/
def again (f : Nat → Cl) (r : Nat) (o : Gr) (c : Nat) : Gr := if kd (f c) ≠ 2 then putG o r c (rn (f c)) (pn (f c)) else o
/-- what stands there once c columns are done -/
structure Upto (f : Nat → Cl) (R n r c : Nat) (o : Gr) : Prop where
  rows : o.rows = R
  cols : o.cols = n
  done : ∀ j, j < n → o.f r j = if j < c ∨ (j = c ∧ 0 < c ∧ kd (f (c - 1)) = 1) then f j else blank plain
theorem upto_new (f : Nat → Cl) (R n r : Nat) : Upto f R n r 0 (newG R n plain) := ⟨rfl, rfl, fun j _ => by rw [if_neg (by omega)]; rfl⟩
theorem upto_again {f : Nat → Cl} {R n r c : Nat} {o : Gr} (h : RightRow f n) (hr : r < R) (hc : c < n) (u : Upto f R n r c o) : Upto f R n r (c + 1) (again f r o c) := by
  unfold again
  by_cases hk : kd (f c) = 2
  · rw [if_neg (by omega)]
    refine ⟨u.rows, u.cols, fun j hj => ?_⟩
    have hl := h.rightHalf hc hk
    rw [u.done j hj]
    by_cases h1 : j < c + 1
    · rw [if_pos (c := j < c + 1 ∨ _) (.inl h1)]
      by_cases h2 : j < c
      · rw [if_pos (.inl h2)]
      · rw [if_pos (.inr ⟨by omega, hl.2⟩)]
    · rw [if_neg (c := j < c ∨ _) (by omega), if_neg]
      rintro (a | ⟨a, b, d⟩)
      · exact h1 a
      · rw [Nat.add_sub_cancel] at d; omega
  · rw [if_pos hk]
    -- nothing of it stands there yet
    have hp : ¬ (0 < c ∧ kd (f (c - 1)) = 1) := fun ⟨a, b⟩ => by
      have := (h.left (j := c - 1) (by omega) b).2.2.1
      rw [show c - 1 + 1 = c from by omega] at this
      omega
    have hfree : ∀ j, c ≤ j → j < n → o.f r j = blank plain := fun j a b => by
      rw [u.done j b, if_neg]
      rintro (d | ⟨_, d⟩)
      · omega
      · exact hp d
    have hold : ∀ j, j < c → o.f r j = f j := fun j a => by rw [u.done j (by omega), if_pos (.inl a)]
    -- how wide it is
    have hw : C.width (rn (f c)) = 1 ∧ kd (f c) = 0 ∨ C.width (rn (f c)) = 2 ∧ kd (f c) = 1 ∧ c + 1 < n ∧ f (c + 1) = (0, 2, pn (f c)) := by
      rcases (h c hc).2 with ⟨k1, k2⟩ | ⟨k1, k2, k3, k4, k5⟩ | ⟨k1, _⟩
      · exact .inl ⟨k2, k1⟩
      · refine .inr ⟨k2, k1, k3, cl_ext ?_ k4 k5⟩
        exact (h.rightHalf k3 k4).1
      · exact absurd k1 hk
    have hfit : r < o.rows ∧ 1 ≤ C.width (rn (f c)) ∧ c + (C.width (rn (f c))).toNat ≤ o.cols := by
      rw [u.rows, u.cols]
      refine ⟨hr, ?_, ?_⟩ <;> rcases hw with ⟨a, _⟩ | ⟨a, _, b, _⟩ <;> rw [a] <;> first | omega | (show c + 1 ≤ n; omega) | (show c + 2 ≤ n; omega)
    refine ⟨(put_size ..).1.trans u.rows, (put_size ..).2.trans u.cols, fun j hj => ?_⟩
    unfold putG
    rw [if_pos hfit]
    simp only [if_true]
    unfold putRow
    rw [if_neg (c := j + 1 = c ∧ kd (o.f r c) = 2) (by rw [hfree c (Nat.le_refl c) hc, kd_blank]; omega)]
    rcases hw with ⟨a, k⟩ | ⟨a, k, hn, e⟩
    · rw [a]
      show (if j = c then (rn (f c), 0, pn (f c)) else if (1 = 2 ∧ j = c + 1) then _ else if (j = c + 1 ∧ kd (o.f r (c + 1 - 1)) = 1) then _ else o.f r j) = _
      rw [Nat.add_sub_cancel, if_neg (c := (1 : Nat) = 2 ∧ j = c + 1) (by omega), if_neg (c := j = c + 1 ∧ kd (o.f r c) = 1) (by rw [hfree c (Nat.le_refl c) hc, kd_blank]; omega)]
      by_cases h1 : j = c
      · subst h1
        rw [if_pos rfl, if_pos (.inl (by omega))]
        exact cl_ext rfl k.symm rfl
      · rw [if_neg h1]
        by_cases h2 : j < c
        · rw [if_pos (.inl (by omega)), hold j h2]
        · rw [if_neg, hfree j (by omega) hj]
          rintro (d | ⟨_, _, d⟩) <;> omega
    · rw [a]
      show (if j = c then (rn (f c), 1, pn (f c)) else if (2 = 2 ∧ j = c + 1) then (0, 2, pn (f c)) else if (j = c + 2 ∧ kd (o.f r (c + 2 - 1)) = 1) then _ else o.f r j) = _
      rw [show c + 2 - 1 = c + 1 from by omega, if_neg (c := j = c + 2 ∧ kd (o.f r (c + 1)) = 1) (by rw [hfree (c + 1) (by omega) hn, kd_blank]; omega)]
      by_cases h1 : j = c
      · subst h1
        rw [if_pos rfl, if_pos (.inl (by omega))]
        exact cl_ext rfl k.symm rfl
      · rw [if_neg h1]
        by_cases h2 : j = c + 1
        · subst h2
          rw [if_pos ⟨rfl, rfl⟩, if_pos (.inr ⟨rfl, by omega, by rw [Nat.add_sub_cancel]; exact k⟩), e]
        · rw [if_neg (by omega)]
          by_cases h3 : j < c
          · rw [if_pos (.inl (by omega)), hold j h3]
          · rw [if_neg (by omega), hfree j (by omega) hj]
theorem upto_row {f : Nat → Cl} {R n r : Nat} {o : Gr} (u : Upto f R n r n o) {j : Nat} (hj : j < n) : o.f r j = f j := by rw [u.done j hj, if_pos (.inl hj)]
/-- built anew a row's text is the same -/
theorem upto_runes {f : Nat → Cl} {R n r : Nat} {o : Gr} (u : Upto f R n r n o) : runes (o.f r) n = runes f n := runes_congr fun j hj => upto_row u hj
/-! the other laws -/
/-- both of two rows wiped whole, it is a new one -/
theorem wipe_both {g : Gr} (hr : g.rows = 2) (p : Pn) : Alike (wipeG (wipeG g 0 0 g.cols p) 1 0 g.cols p) (newG 2 g.cols p) := by
  have s1 := wipe_size g 0 0 g.cols p
  have s2 := wipe_size (wipeG g 0 0 g.cols p) 1 0 g.cols p
  refine ⟨by rw [s2.1, s1.1, hr]; rfl, by rw [s2.2, s1.2]; rfl, fun i j hi hj => ?_⟩
  rw [s2.1, s1.1, hr] at hi
  rw [s2.2, s1.2] at hj
  show _ = blank p
  have : i = 0 ∨ i = 1 := by omega
  rcases this with e | e
  · subst e
    rw [wipe_other (by omega)]
    exact wipe_all (by omega) p hj
  · subst e
    have := wipe_all (g := wipeG g 0 0 g.cols p) (r := 1) (by rw [s1.1]; omega) p (j := j) (by rw [s1.2]; exact hj)
    rw [s1.2] at this
    exact this
/-- a wide rune alone on a blank row -/
theorem wide_at {n k : Nat} {x : Int} {p q : Pn} (hx : C.width x = 2) (hk : k + 2 ≤ n) (j : Nat) : (putG (newG 1 n p) 0 k x q).f 0 j = if j = k then (x, 1, q) else if j = k + 1 then (0, 2, q) else blank p := by
  unfold putG
  rw [hx, if_pos ⟨by show 0 < 1; omega, by omega, by show k + 2 ≤ n; omega⟩]
  simp only [if_true]
  unfold putRow newG
  show (if j = k then (x, 1, q) else if (2 = 2 ∧ j = k + 1) then (0, 2, q) else if (j + 1 = k ∧ kd (blank p) = 2) then blank (pn (blank p)) else if (j = k + 2 ∧ kd (blank p) = 1) then blank (pn (blank p)) else blank p) = _
  rw [kd_blank, if_neg (c := j + 1 = k ∧ (0 : Int) = 2) (by omega), if_neg (c := j = k + 2 ∧ (0 : Int) = 1) (by omega)]
  by_cases h1 : j = k
  · rw [if_pos h1, if_pos h1]
  · rw [if_neg h1, if_neg h1]
    by_cases h2 : j = k + 1
    · rw [if_pos ⟨rfl, h2⟩, if_pos h2]
    · rw [if_neg (by omega), if_neg h2]
/-- one rune over one half of it: the other half is blank -/
theorem over_half {g : Gr} {n k : Nat} {x y : Int} {p q s : Pn} (hg : g = putG (newG 1 n p) 0 k x q) (hx : C.width x = 2) (hy : C.width y = 1) (hk : k + 2 ≤ n) : (putG g 0 k y s).f 0 (k + 1) = blank q ∧ (putG g 0 (k + 1) y s).f 0 k = blank q := by
  have hs : g.rows = 1 ∧ g.cols = n := by rw [hg]; exact put_size ..
  have hat : ∀ j, g.f 0 j = if j = k then (x, 1, q) else if j = k + 1 then (0, 2, q) else blank p := fun j => by rw [hg]; exact wide_at hx hk j
  have e0 : g.f 0 k = (x, 1, q) := by rw [hat, if_pos rfl]
  have e1 : g.f 0 (k + 1) = (0, 2, q) := by rw [hat, if_neg (by omega), if_pos rfl]
  constructor
  · unfold putG
    rw [hy, if_pos ⟨by omega, by omega, by rw [hs.2]; show k + 1 ≤ n; omega⟩]
    simp only [if_true]
    unfold putRow
    show (if k + 1 = k then _ else if ((1 : Nat) = 2 ∧ _) then _ else if (k + 1 + 1 = k ∧ _) then _ else if (k + 1 = k + 1 ∧ kd (g.f 0 (k + 1 - 1)) = 1) then blank (pn (g.f 0 (k + 1))) else _) = _
    rw [if_neg (by omega), if_neg (by omega), if_neg (by omega), Nat.add_sub_cancel, e0, e1, if_pos ⟨rfl, rfl⟩]
    rfl
  · unfold putG
    rw [hy, if_pos ⟨by omega, by omega, by rw [hs.2]; show k + 1 + 1 ≤ n; omega⟩]
    simp only [if_true]
    unfold putRow
    rw [if_neg (by omega), if_neg (by omega), e1, e0, if_pos ⟨rfl, rfl⟩]
    rfl
/-- wiped through its right half both are blank, each of its pen -/
theorem wipe_half {g : Gr} {n k : Nat} {x : Int} {p q s : Pn} (hg : g = putG (newG 1 n p) 0 k x q) (hx : C.width x = 2) (hk : k + 2 ≤ n) : (wipeG g 0 (k + 1) (k + 2) s).f 0 k = blank q ∧ (wipeG g 0 (k + 1) (k + 2) s).f 0 (k + 1) = blank s := by
  have hs : g.rows = 1 ∧ g.cols = n := by rw [hg]; exact put_size ..
  have hat : ∀ j, g.f 0 j = if j = k then (x, 1, q) else if j = k + 1 then (0, 2, q) else blank p := fun j => by rw [hg]; exact wide_at hx hk j
  have w0 : wiped (g.f 0) (k + 1) (k + 2) s k = (x, 1, q) := by unfold wiped; rw [if_neg (by omega), hat, if_pos rfl]
  have w1 : wiped (g.f 0) (k + 1) (k + 2) s (k + 1) = blank s := by unfold wiped; rw [if_pos (by omega)]
  have e : ∀ j, (wipeG g 0 (k + 1) (k + 2) s).f 0 j = mend (wiped (g.f 0) (k + 1) (k + 2) s) n j := fun j => by
    unfold wipeG
    rw [if_pos (by omega), hs.2]
    simp only [if_true]
  constructor
  · rw [e]
    unfold mend
    rw [w0, w1, if_pos]
    · rfl
    · left
      exact ⟨rfl, fun h => by rw [kd_blank] at h; omega⟩
  · rw [e]
    unfold mend
    rw [w1, if_neg]
    rw [kd_blank]
    omega
/-- cut through it, what is left is blank -/
theorem cut_half {g : Gr} {n k : Nat} {x : Int} {p q : Pn} (hg : g = putG (newG 1 n p) 0 k x q) (hx : C.width x = 2) (hk : k + 2 ≤ n) : (resizeG g 1 (k + 1)).f 0 k = blank q := by
  have hs : g.rows = 1 ∧ g.cols = n := by rw [hg]; exact put_size ..
  have e0 : g.f 0 k = (x, 1, q) := by rw [hg, wide_at hx hk, if_pos rfl]
  show mend (fun j => if 0 < g.rows ∧ j < g.cols then g.f 0 j else blank plain) (k + 1) k = _
  unfold mend
  have c0 : (0 < g.rows ∧ k < g.cols) := by omega
  simp only [c0, and_self, if_true, e0]
  rw [if_pos]
  · rfl
  · left
    exact ⟨rfl, fun h => by omega⟩
end Go.Proofs.YtcbmjdacdjcggaaDoor.PG
