/- Grids in plain Lean: cells moved in a row, rows moved; what is right of it. Names no function of a program. Grids in plain Lean: rows of plain letters, moved; a grid without wide runes, made of any. Names no function of a program. -/
import Derived.Test.YtdcdinlppjlmfaaDoorCellSpec
set_option maxRecDepth 100000
namespace Go.Proofs.YtdcdinlppjlmfaaDoor.PG
set_option linter.unusedVariables false
/-- each cell may be by itself, and two halves that meet have one pen -/
def Loose (h : Nat → Cl) (m : Nat) : Prop := ∀ j, j < m → okPen (pn (h j)) ∧
  ((kd (h j) = 0 ∧ C.width (rn (h j)) = 1) ∨ (kd (h j) = 1 ∧ C.width (rn (h j)) = 2 ∧ (j + 1 < m → kd (h (j + 1)) = 2 → pn (h (j + 1)) = pn (h j))) ∨ (kd (h j) = 2 ∧ rn (h j) = 0))
theorem right_loose {h : Nat → Cl} {m : Nat} (hl : Loose h m) : RightRow (mend h m) m := by
  intro j hj
  have hkind : ∀ i, kd (mend h m i) = (if (kd (h i) = 1 ∧ ¬ (i + 1 < m ∧ kd (h (i + 1)) = 2)) ∨ (kd (h i) = 2 ∧ ¬ (0 < i ∧ kd (h (i - 1)) = 1)) then 0 else kd (h i)) := fun i => by
    unfold mend
    split <;> rfl
  have hpn : ∀ i, pn (mend h m i) = pn (h i) := fun i => by
    unfold mend
    split <;> rfl
  refine ⟨by rw [hpn]; exact (hl j hj).1, ?_⟩
  by_cases hb : (kd (h j) = 1 ∧ ¬ (j + 1 < m ∧ kd (h (j + 1)) = 2)) ∨ (kd (h j) = 2 ∧ ¬ (0 < j ∧ kd (h (j - 1)) = 1))
  · left
    refine ⟨by rw [hkind, if_pos hb], ?_⟩
    unfold mend
    rw [if_pos hb]
    exact width_blank
  · have hm : mend h m j = h j := by unfold mend; rw [if_neg hb]
    rw [hm]
    rcases (hl j hj).2 with ⟨h0, h1⟩ | ⟨h1, h2, h3⟩ | ⟨h1, h2⟩
    · exact .inl ⟨h0, h1⟩
    · right; left
      have hn : j + 1 < m ∧ kd (h (j + 1)) = 2 := by
        by_cases hx : j + 1 < m ∧ kd (h (j + 1)) = 2
        · exact hx
        · exact absurd (.inl ⟨h1, hx⟩) hb
      refine ⟨h1, h2, hn.1, ?_, by rw [hpn]; exact h3 hn.1 hn.2⟩
      rw [hkind, if_neg, hn.2]
      rintro (⟨a, _⟩ | ⟨_, b⟩)
      · omega
      · exact b ⟨by omega, by rw [Nat.add_sub_cancel]; exact h1⟩
    · right; right
      have hn : 0 < j ∧ kd (h (j - 1)) = 1 := by
        by_cases hx : 0 < j ∧ kd (h (j - 1)) = 1
        · exact hx
        · exact absurd (.inr ⟨h1, hx⟩) hb
      refine ⟨h1, h2, hn.1, ?_⟩
      rw [hkind, if_neg, hn.2]
      rintro (⟨_, b⟩ | ⟨a, _⟩)
      · exact b ⟨by omega, by rw [show j - 1 + 1 = j from by omega]; exact h1⟩
      · omega
/-- a wide rune whose right half stands at c is two blanks of its own pens -/
def parted (f : Nat → Cl) (c : Nat) (j : Nat) : Cl := if kd (f c) = 2 ∧ 0 < c ∧ (j = c ∨ j + 1 = c) then blank (pn (f j)) else f j
/-- n further on, from c on; -n back -/
def shifted (f : Nat → Cl) (K c : Nat) (n : Int) (p : Pn) (j : Nat) : Cl := if j < c then parted f c j else if (c : Int) ≤ j - n ∧ (j : Int) - n < K then parted f c ((j : Int) - n).toNat else blank p
def shiftG (g : Gr) (r c : Nat) (n : Int) (p : Pn) : Gr := if r < g.rows ∧ c < g.cols then ⟨g.rows, g.cols, fun i j => if i = r then mend (shifted (g.f r) g.cols c n p) g.cols j else g.f i j⟩ else g
/-- rows t to b: each is the one n below it -/
def scrollG (g : Gr) (t b : Nat) (n : Int) (p : Pn) : Gr := if b < g.rows ∧ t ≤ b then ⟨g.rows, g.cols, fun i j => if t ≤ i ∧ i ≤ b then (if (t : Int) ≤ i + n ∧ (i : Int) + n ≤ b then g.f ((i : Int) + n).toNat j else blank p) else g.f i j⟩ else g
theorem parted_loose {f : Nat → Cl} {K c : Nat} (hf : RightRow f K) (hc : c < K) : Loose (parted f c) K ∧ ∀ j, j + 1 = c → kd (parted f c j) ≠ 1 := by
  constructor
  · intro j hj
    have hr := hf j hj
    unfold parted
    by_cases h : kd (f c) = 2 ∧ 0 < c ∧ (j = c ∨ j + 1 = c)
    · rw [if_pos h]
      exact ⟨hr.1, .inl ⟨rfl, width_blank⟩⟩
    · rw [if_neg h]
      refine ⟨hr.1, ?_⟩
      rcases hr.2 with k | ⟨k1, k2, k3, k4, k5⟩ | ⟨k1, k2, k3, k4⟩
      · exact .inl k
      · refine .inr (.inl ⟨k1, k2, fun _ => ?_⟩)
        split
        · intro h0; rw [kd_blank] at h0; omega
        · exact fun _ => k5
      · exact .inr (.inr ⟨k1, k2⟩)
  · intro j hj hk
    unfold parted at hk
    by_cases h : kd (f c) = 2 ∧ 0 < c ∧ (j = c ∨ j + 1 = c)
    · rw [if_pos h, kd_blank] at hk
      omega
    · rw [if_neg h] at hk
      have := hf.left (j := j) (by omega) hk
      rw [hj] at this
      exact h ⟨this.2.2.1, by omega, .inr hj⟩
theorem shifted_loose {f : Nat → Cl} {K c : Nat} (n : Int) {p : Pn} (hf : RightRow f K) (hc : c < K) (hp : okPen p) : Loose (shifted f K c n p) K := by
  obtain ⟨hl, hn⟩ := parted_loose hf hc
  intro j hj
  by_cases h1 : j < c
  · have e : shifted f K c n p j = parted f c j := if_pos h1
    rw [e]
    have hr := hl j hj
    refine ⟨hr.1, ?_⟩
    rcases hr.2 with k | ⟨k1, k2, k3⟩ | k
    · exact .inl k
    · refine .inr (.inl ⟨k1, k2, fun hj1 => ?_⟩)
      by_cases h2 : j + 1 < c
      · have e2 : shifted f K c n p (j + 1) = parted f c (j + 1) := if_pos h2
        rw [e2]
        exact k3 hj1
      · exact absurd k1 (hn j (by omega))
    · exact .inr (.inr k)
  · by_cases h2 : (c : Int) ≤ j - n ∧ (j : Int) - n < K
    · have e : shifted f K c n p j = parted f c ((j : Int) - n).toNat := by unfold shifted; rw [if_neg h1, if_pos h2]
      rw [e]
      have hr := hl ((j : Int) - n).toNat (by omega)
      refine ⟨hr.1, ?_⟩
      rcases hr.2 with k | ⟨k1, k2, k3⟩ | k
      · exact .inl k
      · refine .inr (.inl ⟨k1, k2, fun hj1 => ?_⟩)
        by_cases h3 : (c : Int) ≤ (j + 1 : Nat) - n ∧ ((j + 1 : Nat) : Int) - n < K
        · have e2 : shifted f K c n p (j + 1) = parted f c (((j : Int) - n).toNat + 1) := by
            unfold shifted
            rw [if_neg (by omega), if_pos h3, show (((j + 1 : Nat) : Int) - n).toNat = ((j : Int) - n).toNat + 1 from by omega]
          rw [e2]
          exact k3 (by omega)
        · have e2 : shifted f K c n p (j + 1) = blank p := by unfold shifted; rw [if_neg (by omega), if_neg h3]
          rw [e2, kd_blank]
          intro h0
          omega
      · exact .inr (.inr k)
    · have e : shifted f K c n p j = blank p := by unfold shifted; rw [if_neg h1, if_neg h2]
      rw [e]
      exact ⟨hp, .inl ⟨rfl, width_blank⟩⟩
theorem right_shiftG {g : Gr} (h : RightG g) {p : Pn} (hp : okPen p) (r c : Nat) (n : Int) : RightG (shiftG g r c n p) := by
  unfold shiftG
  by_cases hc : r < g.rows ∧ c < g.cols
  · rw [if_pos hc]
    refine ⟨h.1, h.2.1, h.2.2.1, h.2.2.2.1, fun i hi => ?_⟩
    by_cases hir : i = r
    · subst hir
      simp only [if_true]
      exact right_loose (shifted_loose n (h.2.2.2.2 i hi) hc.2 hp)
    · simp only [if_neg hir]
      exact h.2.2.2.2 i hi
  · rw [if_neg hc]; exact h
theorem right_scrollG {g : Gr} (h : RightG g) {p : Pn} (hp : okPen p) (t b : Nat) (n : Int) : RightG (scrollG g t b n p) := by
  unfold scrollG
  by_cases hc : b < g.rows ∧ t ≤ b
  · rw [if_pos hc]
    refine ⟨h.1, h.2.1, h.2.2.1, h.2.2.2.1, fun i hi => ?_⟩
    by_cases hir : t ≤ i ∧ i ≤ b
    · simp only [if_pos hir]
      by_cases hn : (t : Int) ≤ i + n ∧ (i : Int) + n ≤ b
      · simp only [if_pos hn]
        exact h.2.2.2.2 _ (by omega)
      · simp only [if_neg hn]
        exact right_blank p hp g.cols
    · simp only [if_neg hir]
      exact h.2.2.2.2 i hi
  · rw [if_neg hc]; exact h
theorem shift_size (g : Gr) (r c : Nat) (n : Int) (p : Pn) : (shiftG g r c n p).rows = g.rows ∧ (shiftG g r c n p).cols = g.cols := by
  unfold shiftG
  split <;> exact ⟨rfl, rfl⟩
theorem scroll_size (g : Gr) (t b : Nat) (n : Int) (p : Pn) : (scrollG g t b n p).rows = g.rows ∧ (scrollG g t b n p).cols = g.cols := by
  unfold scrollG
  split <;> exact ⟨rfl, rfl⟩
theorem shift_not {g : Gr} {r c : Nat} {n : Int} {p : Pn} (h : ¬ (r < g.rows ∧ c < g.cols)) : shiftG g r c n p = g := if_neg h
theorem scroll_not {g : Gr} {t b : Nat} {n : Int} {p : Pn} (h : ¬ (b < g.rows ∧ t ≤ b)) : scrollG g t b n p = g := if_neg h
/-- at places that may be none -/
def shiftI (g : Gr) (r c n : Int) (p : Pn) : Gr := if 0 ≤ r ∧ 0 ≤ c then shiftG g r.toNat c.toNat n p else g
def scrollI (g : Gr) (t b n : Int) (p : Pn) : Gr := if 0 ≤ t ∧ 0 ≤ b then scrollG g t.toNat b.toNat n p else g
theorem right_shiftI {g : Gr} (h : RightG g) {p : Pn} (hp : okPen p) (r c n : Int) : RightG (shiftI g r c n p) := by
  unfold shiftI
  split
  · exact right_shiftG h hp _ _ _
  · exact h
theorem right_scrollI {g : Gr} (h : RightG g) {p : Pn} (hp : okPen p) (t b n : Int) : RightG (scrollI g t b n p) := by
  unfold scrollI
  split
  · exact right_scrollG h hp _ _ _
  · exact h
theorem shiftI_size (g : Gr) (r c n : Int) (p : Pn) : (shiftI g r c n p).rows = g.rows ∧ (shiftI g r c n p).cols = g.cols := by
  unfold shiftI
  split
  · exact shift_size ..
  · exact ⟨rfl, rfl⟩
theorem scrollI_size (g : Gr) (t b n : Int) (p : Pn) : (scrollI g t b n p).rows = g.rows ∧ (scrollI g t b n p).cols = g.cols := by
  unfold scrollI
  split
  · exact scroll_size ..
  · exact ⟨rfl, rfl⟩
theorem shiftI_out {g : Gr} {r c n : Int} {p : Pn} (h : ¬ (0 ≤ r ∧ r < g.rows ∧ 0 ≤ c ∧ c < g.cols)) : shiftI g r c n p = g := by
  unfold shiftI
  split
  · exact shift_not (by omega)
  · rfl
theorem scrollI_out {g : Gr} {t b n : Int} {p : Pn} (h : ¬ (0 ≤ t ∧ t ≤ b ∧ b < g.rows)) : scrollI g t b n p = g := by
  unfold scrollI
  split
  · exact scroll_not (by omega)
  · rfl
/-! erased -/
theorem wiped_all (f : Nat → Cl) (n : Nat) (p : Pn) {j : Nat} (hj : j < n) : mend (wiped f 0 n p) n j = blank p := by
  have e : wiped f 0 n p j = blank p := if_pos ⟨by omega, hj⟩
  unfold mend
  rw [e, if_neg (by rw [kd_blank]; omega)]
theorem wiped_none {f : Nat → Cl} {n a b : Nat} {p : Pn} (hf : RightRow f n) (h : b ≤ a) {j : Nat} (hj : j < n) : mend (wiped f a b p) n j = f j := by
  have e : ∀ i, i < n → wiped f a b p i = f i := fun i _ => if_neg (by omega)
  rw [mend_congr e hj]
  exact mend_right hf hj
/-- Erase: 0 from a place on, 1 up to it, 2 all -/
def eraseG (g : Gr) (r c what : Nat) (p : Pn) : Gr := ⟨g.rows, g.cols, fun i j =>
  if what = 2 ∨ (what = 0 ∧ r < i) ∨ (what = 1 ∧ i < r) then blank p
  else if i = r then mend (wiped (g.f r) (if what = 0 then c else 0) (if what = 1 then c + 1 else g.cols) p) g.cols j else g.f i j⟩
theorem right_eraseG {g : Gr} (h : RightG g) {p : Pn} (hp : okPen p) (r c what : Nat) : RightG (eraseG g r c what p) := by
  refine ⟨h.1, h.2.1, h.2.2.1, h.2.2.2.1, fun i hi => ?_⟩
  show RightRow (fun j => if what = 2 ∨ (what = 0 ∧ r < i) ∨ (what = 1 ∧ i < r) then blank p else if i = r then _ else g.f i j) g.cols
  by_cases h1 : what = 2 ∨ (what = 0 ∧ r < i) ∨ (what = 1 ∧ i < r)
  · simp only [if_pos h1]
    exact right_blank p hp _
  · simp only [if_neg h1]
    by_cases h2 : i = r
    · subst h2
      simp only [if_true]
      exact right_wipe (h.2.2.2.2 i hi) _ _ hp
    · simp only [if_neg h2]
      exact h.2.2.2.2 i hi
theorem erase_all (g : Gr) (r c : Nat) (p : Pn) : Alike (eraseG g r c 2 p) (newG g.rows g.cols p) := by
  refine ⟨rfl, rfl, fun i j _ _ => ?_⟩
  unfold eraseG newG
  simp
/-! what the laws ask -/
theorem scroll_f {g : Gr} {n : Int} {p : Pn} (h1 : 1 ≤ g.rows) {i : Nat} (hi : i < g.rows) (j : Nat) : (scrollG g 0 (g.rows - 1) n p).f i j = if 0 ≤ (i : Int) + n ∧ (i : Int) + n < g.rows then g.f ((i : Int) + n).toNat j else blank p := by
  unfold scrollG
  rw [if_pos (by omega)]
  show (if 0 ≤ i ∧ i ≤ g.rows - 1 then _ else _) = _
  rw [if_pos (by omega)]
  by_cases h : 0 ≤ (i : Int) + n ∧ (i : Int) + n < g.rows
  · rw [if_pos h, if_pos (by omega)]
  · rw [if_neg h, if_neg (by omega)]
/-- up and down again -/
theorem scroll_back {g : Gr} (h1 : 1 ≤ g.rows) (m : Nat) (p : Pn) {i : Nat} (hi : i < g.rows) (j : Nat) : (scrollG (scrollG g 0 (g.rows - 1) m p) 0 (g.rows - 1) (-m) p).f i j = if m ≤ i then g.f i j else blank p := by
  have hs := scroll_size g 0 (g.rows - 1) m p
  have e := scroll_f (g := scrollG g 0 (g.rows - 1) m p) (n := -m) (p := p) (by rw [hs.1]; exact h1) (i := i) (by rw [hs.1]; exact hi) j
  rw [hs.1] at e
  rw [e]
  by_cases h : m ≤ i
  · rw [if_pos (by omega), if_pos h, scroll_f h1 (by omega), if_pos (by omega)]
    congr 1
    omega
  · rw [if_neg (by omega), if_neg h]
theorem scroll_zero {g : Gr} (h1 : 1 ≤ g.rows) (p : Pn) : Alike (scrollG g 0 (g.rows - 1) 0 p) g := by
  have hs := scroll_size g 0 (g.rows - 1) 0 p
  refine ⟨hs.1, hs.2, fun i j hi hj => ?_⟩
  rw [hs.1] at hi
  rw [scroll_f h1 hi, if_pos (by omega)]
  congr 1
theorem shift_far {g : Gr} {r c i : Nat} {n : Int} {p : Pn} (h : i ≠ r) : (shiftG g r c n p).f i = g.f i := by
  unfold shiftG
  split
  · funext j
    exact if_neg h
  · rfl
/-- by one more -/
theorem scroll_up {g : Gr} (h1 : 1 ≤ g.rows) (m : Nat) (p : Pn) : Alike (scrollG (scrollG g 0 (g.rows - 1) m p) 0 (g.rows - 1) 1 p) (scrollG g 0 (g.rows - 1) (m + 1 : Nat) p) := by
  have hs := scroll_size g 0 (g.rows - 1) m p
  have hs1 := scroll_size g 0 (g.rows - 1) (m + 1 : Nat) p
  have hs2 := scroll_size (scrollG g 0 (g.rows - 1) m p) 0 (g.rows - 1) 1 p
  refine ⟨by rw [hs2.1, hs.1, hs1.1], by rw [hs2.2, hs.2, hs1.2], fun i j hi hj => ?_⟩
  rw [hs2.1, hs.1] at hi
  have e := scroll_f (g := scrollG g 0 (g.rows - 1) m p) (n := 1) (p := p) (by rw [hs.1]; exact h1) (i := i) (by rw [hs.1]; exact hi) j
  rw [hs.1] at e
  rw [e, scroll_f h1 hi]
  by_cases h : (i : Int) + (m + 1 : Nat) < g.rows
  · rw [if_pos (by omega), if_pos (by omega), scroll_f h1 (by omega), if_pos (by omega)]
    congr 1
    omega
  · rw [if_neg (c := 0 ≤ (i : Int) + (m + 1 : Nat) ∧ _) (by omega)]
    by_cases h2 : (i : Int) + 1 < g.rows
    · rw [if_pos (by omega), scroll_f h1 (by omega), if_neg (by omega)]
    · rw [if_neg (by omega)]
theorem scroll_down {g : Gr} (h1 : 1 ≤ g.rows) (m : Nat) (p : Pn) : Alike (scrollG (scrollG g 0 (g.rows - 1) (-m) p) 0 (g.rows - 1) (-1) p) (scrollG g 0 (g.rows - 1) (-(m + 1 : Nat)) p) := by
  have hs := scroll_size g 0 (g.rows - 1) (-m) p
  have hs1 := scroll_size g 0 (g.rows - 1) (-(m + 1 : Nat)) p
  have hs2 := scroll_size (scrollG g 0 (g.rows - 1) (-m) p) 0 (g.rows - 1) (-1) p
  refine ⟨by rw [hs2.1, hs.1, hs1.1], by rw [hs2.2, hs.2, hs1.2], fun i j hi hj => ?_⟩
  rw [hs2.1, hs.1] at hi
  have e := scroll_f (g := scrollG g 0 (g.rows - 1) (-m) p) (n := -1) (p := p) (by rw [hs.1]; exact h1) (i := i) (by rw [hs.1]; exact hi) j
  rw [hs.1] at e
  rw [e, scroll_f h1 hi]
  by_cases h : m + 1 ≤ i
  · rw [if_pos (by omega), if_pos (by omega), scroll_f h1 (by omega), if_pos (by omega)]
    congr 1
    omega
  · rw [if_neg (c := 0 ≤ (i : Int) + -((m + 1 : Nat) : Int) ∧ _) (by omega)]
    by_cases h2 : 1 ≤ i
    · rw [if_pos (by omega), scroll_f h1 (by omega), if_neg (by omega)]
    · rw [if_neg (by omega)]
/-- none of a row's cells is half of a wide rune -/
def Singles (f : Nat → Cl) (n : Nat) : Prop := ∀ j, j < n → kd (f j) = 0
theorem mend_singles {f : Nat → Cl} {n j : Nat} (h : Singles f n) (hj : j < n) : mend f n j = f j := by
  unfold mend
  rw [if_neg (by rw [h j hj]; omega)]
theorem parted_singles {f : Nat → Cl} {n c : Nat} (h : Singles f n) (hc : c < n) (j : Nat) : parted f c j = f j := if_neg (by rw [h c hc]; omega)
theorem shifted_singles {f : Nat → Cl} {K c : Nat} (n : Int) (p : Pn) (h : Singles f K) (hc : c < K) : Singles (shifted f K c n p) K := by
  intro j hj
  unfold shifted
  split
  · rw [parted_singles h hc]
    exact h j hj
  · split
    · rw [parted_singles h hc]
      exact h _ (by omega)
    · rfl
theorem shift_f {g : Gr} {r c : Nat} {n : Int} {p : Pn} (hr : r < g.rows) (hc : c < g.cols) (h : Singles (g.f r) g.cols) {j : Nat} (hj : j < g.cols) :
    (shiftG g r c n p).f r j = if j < c then g.f r j else if (c : Int) ≤ j - n ∧ (j : Int) - n < g.cols then g.f r ((j : Int) - n).toNat else blank p := by
  unfold shiftG
  rw [if_pos ⟨hr, hc⟩]
  show (if r = r then _ else _) = _
  rw [if_pos rfl, mend_singles (shifted_singles n p h hc) hj]
  unfold shifted
  rw [parted_singles h hc, parted_singles h hc]
theorem shift_single {g : Gr} {r c : Nat} (n : Int) (p : Pn) (hr : r < g.rows) (hc : c < g.cols) (h : Singles (g.f r) g.cols) : Singles ((shiftG g r c n p).f r) g.cols := by
  intro j hj
  rw [shift_f hr hc h hj]
  split
  · exact h j hj
  · split
    · exact h _ (by omega)
    · rfl
/-- by one more, where none is wide -/
theorem shift_right {g : Gr} {r c : Nat} (m : Nat) (p : Pn) (hr : r < g.rows) (hc : c < g.cols) (h : Singles (g.f r) g.cols) : Alike (shiftG (shiftG g r c m p) r c 1 p) (shiftG g r c (m + 1 : Nat) p) := by
  have hs := shift_size g r c m p
  have hs1 := shift_size g r c (m + 1 : Nat) p
  have hs2 := shift_size (shiftG g r c m p) r c 1 p
  refine ⟨by rw [hs2.1, hs.1, hs1.1], by rw [hs2.2, hs.2, hs1.2], fun i j hi hj => ?_⟩
  rw [hs2.1, hs.1] at hi
  rw [hs2.2, hs.2] at hj
  by_cases hir : i = r
  · subst hir
    have e := shift_f (g := shiftG g i c m p) (r := i) (c := c) (n := 1) (p := p) (by rw [hs.1]; exact hr) (by rw [hs.2]; exact hc) (by rw [hs.2]; exact shift_single m p hr hc h) (j := j) (by rw [hs.2]; exact hj)
    rw [hs.2] at e
    rw [e, shift_f (n := ((m + 1 : Nat) : Int)) hr hc h hj]
    by_cases h1 : j < c
    · rw [if_pos h1, if_pos h1, shift_f hr hc h hj, if_pos h1]
    · rw [if_neg h1, if_neg h1]
      by_cases h2 : (c : Int) ≤ j - ((m + 1 : Nat) : Int) ∧ (j : Int) - ((m + 1 : Nat) : Int) < g.cols
      · rw [if_pos h2, if_pos (by omega), shift_f hr hc h (by omega), if_neg (by omega), if_pos (by omega)]
        congr 1
        omega
      · rw [if_neg h2]
        by_cases h3 : (c : Int) ≤ j - 1 ∧ (j : Int) - 1 < g.cols
        · rw [if_pos h3, shift_f hr hc h (by omega), if_neg (by omega), if_neg (by omega)]
        · rw [if_neg h3]
  · rw [shift_far hir, shift_far hir, shift_far hir]
theorem shift_left {g : Gr} {r c : Nat} (m : Nat) (p : Pn) (hr : r < g.rows) (hc : c < g.cols) (h : Singles (g.f r) g.cols) : Alike (shiftG (shiftG g r c (-m) p) r c (-1) p) (shiftG g r c (-(m + 1 : Nat)) p) := by
  have hs := shift_size g r c (-m) p
  have hs1 := shift_size g r c (-(m + 1 : Nat)) p
  have hs2 := shift_size (shiftG g r c (-m) p) r c (-1) p
  refine ⟨by rw [hs2.1, hs.1, hs1.1], by rw [hs2.2, hs.2, hs1.2], fun i j hi hj => ?_⟩
  rw [hs2.1, hs.1] at hi
  rw [hs2.2, hs.2] at hj
  by_cases hir : i = r
  · subst hir
    have e := shift_f (g := shiftG g i c (-m) p) (r := i) (c := c) (n := -1) (p := p) (by rw [hs.1]; exact hr) (by rw [hs.2]; exact hc) (by rw [hs.2]; exact shift_single (-m) p hr hc h) (j := j) (by rw [hs.2]; exact hj)
    rw [hs.2] at e
    rw [e, shift_f (n := -((m + 1 : Nat) : Int)) hr hc h hj]
    by_cases h1 : j < c
    · rw [if_pos h1, if_pos h1, shift_f hr hc h hj, if_pos h1]
    · rw [if_neg h1, if_neg h1]
      by_cases h2 : (c : Int) ≤ j - -((m + 1 : Nat) : Int) ∧ (j : Int) - -((m + 1 : Nat) : Int) < g.cols
      · rw [if_pos h2, if_pos (by omega), shift_f hr hc h (by omega), if_neg (by omega), if_pos (by omega)]
        congr 1
        omega
      · rw [if_neg h2]
        by_cases h3 : (c : Int) ≤ j - -1 ∧ (j : Int) - -1 < g.cols
        · rw [if_pos h3, shift_f hr hc h (by omega), if_neg (by omega), if_neg (by omega)]
        · rw [if_neg h3]
  · rw [shift_far hir, shift_far hir, shift_far hir]
/-- more than there are: all of them -/
theorem shift_all {g : Gr} {r c : Nat} {n : Int} (p : Pn) (hr : r < g.rows) (hc : c < g.cols) (h : Singles (g.f r) g.cols) (hn : (g.cols : Int) ≤ n ∨ n ≤ -(g.cols : Int)) : Alike (shiftG g r c n p) (wipeG g r c g.cols p) := by
  have hs := shift_size g r c n p
  have hw := wipe_size g r c g.cols p
  refine ⟨by rw [hs.1, hw.1], by rw [hs.2, hw.2], fun i j hi hj => ?_⟩
  rw [hs.1] at hi
  rw [hs.2] at hj
  by_cases hir : i = r
  · subst hir
    rw [shift_f hr hc h hj]
    unfold wipeG
    rw [if_pos hr]
    show _ = if i = i then _ else _
    have hsg : Singles (wiped (g.f i) c g.cols p) g.cols := fun q hq => by
      unfold wiped
      split
      · rfl
      · exact h q hq
    rw [if_pos rfl, mend_singles hsg hj]
    unfold wiped
    by_cases h1 : j < c
    · rw [if_pos h1, if_neg (by omega)]
    · rw [if_neg h1, if_neg (by omega), if_pos (by omega)]
  · rw [shift_far hir]
    unfold wipeG
    rw [if_pos hr]
    exact (if_neg hir).symm
/-- Line, Erase, wherever -/
def lineI (g : Gr) (r c what : Int) (p : Pn) : Gr := if (0 ≤ r ∧ r < g.rows ∧ 0 ≤ c ∧ c < g.cols) ∧ 0 ≤ what ∧ what ≤ 2 then wipeG g r.toNat (if what = 0 then c.toNat else 0) (if what = 1 then c.toNat + 1 else g.cols) p else g
def eraseI (g : Gr) (r c what : Int) (p : Pn) : Gr := if (0 ≤ r ∧ r < g.rows ∧ 0 ≤ c ∧ c < g.cols) ∧ 0 ≤ what ∧ what ≤ 2 then eraseG g r.toNat c.toNat what.toNat p else g
theorem right_lineI {g : Gr} (h : RightG g) {p : Pn} (hp : okPen p) (r c what : Int) : RightG (lineI g r c what p) := by
  unfold lineI
  split
  · exact right_wipeG h hp _ _ _
  · exact h
theorem right_eraseI {g : Gr} (h : RightG g) {p : Pn} (hp : okPen p) (r c what : Int) : RightG (eraseI g r c what p) := by
  unfold eraseI
  split
  · exact right_eraseG h hp _ _ _
  · exact h
theorem lineI_size (g : Gr) (r c what : Int) (p : Pn) : (lineI g r c what p).rows = g.rows ∧ (lineI g r c what p).cols = g.cols := by
  unfold lineI
  split
  · exact wipe_size ..
  · exact ⟨rfl, rfl⟩
theorem eraseI_size (g : Gr) (r c what : Int) (p : Pn) : (eraseI g r c what p).rows = g.rows ∧ (eraseI g r c what p).cols = g.cols := by
  unfold eraseI
  split <;> exact ⟨rfl, rfl⟩
end Go.Proofs.YtdcdinlppjlmfaaDoor.PG
namespace Go.Proofs.YtdcdinlppjlmfaaDoor.PG
set_option linter.unusedVariables false
theorem enc_ascii : ∀ {l : List Int}, (∀ x ∈ l, 0 ≤ x ∧ x < 128) → U.enc l = l
  | [], _ => rfl
  | x :: l, h => by
    have hx := h x (by simp)
    have e : U.en1 x = [x] := by
      unfold U.en1 U.en
      rw [if_pos (show U.isR x = true from by simp [U.isR]; omega), if_pos hx.2]
    have ih := enc_ascii (l := l) (fun y hy => h y (by simp [hy]))
    unfold U.enc at ih ⊢
    rw [List.flatMap_cons, ih, e]
    rfl
theorem runes_singles {f : Nat → Cl} {n : Nat} (h : Singles f n) : runes f n = (List.range n).map fun j => rn (f j) := by
  unfold runes
  rw [List.filter_eq_self.2 fun j hj => by
    have := h j (List.mem_range.1 hj)
    simp [this]]
/-- a row of letters in the plain pen -/
def RowOf (f : Nat → Cl) (s : List Int) : Prop := ∀ j x, s[j]? = some x → f j = (x, 0, plain)
theorem RowOf.singles {f : Nat → Cl} {s : List Int} (h : RowOf f s) : Singles f s.length := fun j hj => by
  rw [h j _ (List.getElem?_eq_getElem hj)]
  rfl
theorem RowOf.runes {f : Nat → Cl} {s : List Int} (h : RowOf f s) : runes f s.length = s := by
  rw [runes_singles h.singles]
  refine List.ext_getElem? fun j => ?_
  by_cases hj : j < s.length
  · rw [List.getElem?_map, List.getElem?_range hj, List.getElem?_eq_getElem hj]
    simp only [Option.map_some]
    rw [h j _ (List.getElem?_eq_getElem hj)]
    rfl
  · rw [List.getElem?_eq_none (by simp; omega), List.getElem?_eq_none (by omega)]
/-- one more put -/
theorem put_letter {g : Gr} {k : Nat} {s : List Int} {x : Int} (hr : 0 < g.rows) (hk : s.length < g.cols) (hx0 : 32 ≤ x) (hx1 : x ≤ 126) (h : RowOf (g.f 0) s) (hb : ∀ j, s.length ≤ j → g.f 0 j = blank plain) :
    RowOf ((putG g 0 s.length x plain).f 0) (s ++ [x]) ∧ ∀ j, (s ++ [x]).length ≤ j → (putG g 0 s.length x plain).f 0 j = blank plain := by
  have hw := width_ascii hx0 hx1
  have hs : ∀ j, kd (g.f 0 j) = 0 := fun j => by
    by_cases hj : j < s.length
    · exact h.singles j hj
    · rw [hb j (by omega)]; rfl
  have e : ∀ j, (putG g 0 s.length x plain).f 0 j = if j = s.length then (x, 0, plain) else g.f 0 j := fun j => by
    unfold putG
    rw [if_pos ⟨hr, by omega, by omega⟩]
    show (if (0 : Nat) = 0 then putRow (g.f 0) s.length x plain (C.width x).toNat j else g.f 0 j) = _
    rw [if_pos rfl]
    unfold putRow
    rw [hw]
    by_cases h1 : j = s.length
    · rw [if_pos h1, if_pos h1]
      rfl
    · rw [if_neg h1, if_neg h1, if_neg (by simp), if_neg (by rw [hs]; omega), if_neg (by rw [hs]; omega)]
  constructor
  · intro j y hy
    rw [e]
    by_cases hj : j < s.length
    · rw [if_neg (by omega)]
      rw [List.getElem?_append_left hj] at hy
      exact h j y hy
    · rw [List.getElem?_append_right (by omega)] at hy
      by_cases h1 : j = s.length
      · subst h1
        rw [Nat.sub_self] at hy
        simp at hy
        rw [if_pos rfl, hy]
      · rw [List.getElem?_eq_none (by simp; omega)] at hy
        cases hy
  · intro j hj
    rw [List.length_append, List.length_singleton] at hj
    rw [e, if_neg (by omega)]
    exact hb j (by omega)
/-- n cells put in -/
theorem insert_runes {g : Gr} {s : List Int} {k m : Nat} (hr : 0 < g.rows) (hc : g.cols = s.length) (h : RowOf (g.f 0) s) (hk : k < s.length) : runes ((shiftG g 0 k m plain).f 0) s.length = (s.take k ++ (List.replicate m 32 ++ s.drop k)).take s.length := by
  have hsg : Singles (g.f 0) g.cols := hc ▸ h.singles
  have hs2 := shift_single (r := 0) (c := k) (m : Int) plain hr (by omega) hsg
  rw [hc] at hs2
  rw [runes_singles hs2]
  refine List.ext_getElem? fun j => ?_
  by_cases hj : j < s.length
  · rw [List.getElem?_map, List.getElem?_range hj, List.getElem?_take, if_pos hj]
    simp only [Option.map_some]
    rw [shift_f hr (by omega) hsg (by omega)]
    have hkl : (s.take k).length = k := by rw [List.length_take]; omega
    by_cases h1 : j < k
    · rw [if_pos h1, List.getElem?_append_left (by omega), List.getElem?_take, if_pos h1, List.getElem?_eq_getElem hj, h j _ (List.getElem?_eq_getElem hj)]
      rfl
    · rw [if_neg h1, List.getElem?_append_right (by omega), hkl]
      by_cases h2 : j - k < m
      · rw [if_neg (by omega), List.getElem?_append_left (by simpa using h2), List.getElem?_replicate, if_pos h2]
        rfl
      · rw [if_pos (by omega), List.getElem?_append_right (by simp; omega), List.length_replicate, List.getElem?_drop]
        have e : k + (j - k - m) = ((j : Int) - (m : Int)).toNat := by omega
        rw [e, List.getElem?_eq_getElem (show ((j : Int) - (m : Int)).toNat < s.length by omega), h _ _ (List.getElem?_eq_getElem (show ((j : Int) - (m : Int)).toNat < s.length by omega))]
        rfl
  · rw [List.getElem?_eq_none (by simp; omega), List.getElem?_eq_none (by rw [List.length_take]; omega)]
/-- m cells taken out -/
theorem delete_runes {g : Gr} {s : List Int} {k m : Nat} (hr : 0 < g.rows) (hc : g.cols = s.length) (h : RowOf (g.f 0) s) (hk : k < s.length) (hm : k + m ≤ s.length) : runes ((shiftG g 0 k (-m) plain).f 0) s.length = (s.take k ++ (s.drop (k + m) ++ List.replicate m 32)).take s.length := by
  have hsg : Singles (g.f 0) g.cols := hc ▸ h.singles
  have hs2 := shift_single (r := 0) (c := k) (-(m : Int)) plain hr (by omega) hsg
  rw [hc] at hs2
  rw [runes_singles hs2]
  refine List.ext_getElem? fun j => ?_
  by_cases hj : j < s.length
  · rw [List.getElem?_map, List.getElem?_range hj, List.getElem?_take, if_pos hj]
    simp only [Option.map_some]
    rw [shift_f hr (by omega) hsg (by omega)]
    have hkl : (s.take k).length = k := by rw [List.length_take]; omega
    have hdl : (s.drop (k + m)).length = s.length - (k + m) := List.length_drop
    by_cases h1 : j < k
    · rw [if_pos h1, List.getElem?_append_left (by omega), List.getElem?_take, if_pos h1, List.getElem?_eq_getElem hj, h j _ (List.getElem?_eq_getElem hj)]
      rfl
    · rw [if_neg h1, List.getElem?_append_right (by omega), hkl]
      by_cases h2 : j + m < s.length
      · rw [if_pos (by omega), List.getElem?_append_left (by omega), List.getElem?_drop]
        have e : k + m + (j - k) = ((j : Int) - -(m : Int)).toNat := by omega
        rw [e, List.getElem?_eq_getElem (show ((j : Int) - -(m : Int)).toNat < s.length by omega), h _ _ (List.getElem?_eq_getElem (show ((j : Int) - -(m : Int)).toNat < s.length by omega))]
        rfl
      · rw [if_neg (by omega), List.getElem?_append_right (by omega), List.getElem?_replicate, if_pos (by omega)]
        rfl
  · rw [List.getElem?_eq_none (by simp; omega), List.getElem?_eq_none (by rw [List.length_take]; omega)]
/-- what is no single cell is put over -/
theorem put_over {g : Gr} {r x : Nat} (hr : r < g.rows) (hx : x < g.cols) (hj : ∀ j, j < x → kd (g.f r j) = 0) : (∀ j, j < x + 1 → kd ((putG g r x 119 (pn (g.f r x))).f r j) = 0) ∧ ∀ i, i ≠ r → (putG g r x 119 (pn (g.f r x))).f i = g.f i := by
  have hw : C.width 119 = 1 := width_ascii (by omega) (by omega)
  have e : putG g r x 119 (pn (g.f r x)) = ⟨g.rows, g.cols, fun i j => if i = r then putRow (g.f r) x 119 (pn (g.f r x)) 1 j else g.f i j⟩ := by
    unfold putG
    rw [hw]
    exact if_pos ⟨hr, by omega, by simp; omega⟩
  rw [e]
  constructor
  · intro j hj1
    show kd (if r = r then _ else _) = 0
    rw [if_pos rfl]
    unfold putRow
    by_cases h1 : j = x
    · rw [if_pos h1]
      rfl
    · rw [if_neg h1, if_neg (by omega)]
      split
      · rfl
      · split
        · rfl
        · exact hj j (by omega)
  · intro i hi
    funext j
    exact if_neg hi
/-! alike grids, moved alike -/
theorem scrollI_congr {g h : Gr} (e : Alike g h) (t b n : Int) (p : Pn) : Alike (scrollI g t b n p) (scrollI h t b n p) := by
  obtain ⟨e1, e2, e3⟩ := e
  unfold scrollI
  split
  · unfold scrollG
    rw [← e1]
    split
    · rename_i h1 h2
      refine ⟨rfl, e2, fun i j hi hj => ?_⟩
      show (if t.toNat ≤ i ∧ i ≤ b.toNat then _ else _) = (if t.toNat ≤ i ∧ i ≤ b.toNat then _ else _)
      split
      · split
        · exact e3 _ _ (by omega) hj
        · rfl
      · exact e3 _ _ hi hj
    · exact ⟨e1, e2, e3⟩
  · exact ⟨e1, e2, e3⟩
theorem shiftI_congr {g h : Gr} (e : Alike g h) (r c n : Int) (p : Pn) : Alike (shiftI g r c n p) (shiftI h r c n p) := by
  obtain ⟨e1, e2, e3⟩ := e
  unfold shiftI
  split
  · unfold shiftG
    rw [← e1, ← e2]
    split
    · rename_i h1 h2
      refine ⟨rfl, rfl, fun i j hi hj => ?_⟩
      show (if i = r.toNat then _ else _) = (if i = r.toNat then _ else _)
      have hp : ∀ q, q < g.cols → parted (g.f r.toNat) c.toNat q = parted (h.f r.toNat) c.toNat q := fun q hq => by
        unfold parted
        rw [e3 _ _ h2.1 h2.2, e3 _ _ h2.1 hq]
      split
      · refine mend_congr (fun q hq => ?_) hj
        unfold shifted
        split
        · exact hp q hq
        · split
          · exact hp _ (by omega)
          · rfl
      · exact e3 _ _ hi hj
    · exact ⟨e1, e2, e3⟩
  · exact ⟨e1, e2, e3⟩
/-- by one, so often -/
def upN (g : Gr) (b : Int) (p : Pn) : Nat → Gr
  | 0 => g
  | k + 1 => scrollI (upN g b p k) 0 b 1 p
def downN (g : Gr) (b : Int) (p : Pn) : Nat → Gr
  | 0 => g
  | k + 1 => scrollI (downN g b p k) 0 b (-1) p
def insN (g : Gr) (c : Int) (p : Pn) : Nat → Gr
  | 0 => g
  | k + 1 => shiftI (insN g c p k) 0 c 1 p
def delN (g : Gr) (c : Int) (p : Pn) : Nat → Gr
  | 0 => g
  | k + 1 => shiftI (delN g c p k) 0 c (-1) p
theorem scrollI_whole {g : Gr} (h1 : 1 ≤ g.rows) (n : Int) (p : Pn) : scrollI g 0 ((g.rows : Int) - 1) n p = scrollG g 0 (g.rows - 1) n p := by
  unfold scrollI
  rw [if_pos (by omega)]
  congr 1
  omega
theorem upN_is {g : Gr} (h1 : 1 ≤ g.rows) (p : Pn) : ∀ k : Nat, Alike (upN g ((g.rows : Int) - 1) p k) (scrollI g 0 ((g.rows : Int) - 1) k p)
  | 0 => by
    rw [scrollI_whole h1]
    exact (scroll_zero h1 p).symm
  | k + 1 => by
    refine (scrollI_congr (upN_is h1 p k) 0 _ 1 p).trans ?_
    have hs := (scrollI_size g 0 ((g.rows : Int) - 1) k p).1
    rw [scrollI_whole h1] at hs ⊢
    have e := scrollI_whole (g := scrollG g 0 (g.rows - 1) k p) (by rw [hs]; exact h1) 1 p
    rw [hs] at e
    rw [e, scrollI_whole h1]
    exact scroll_up h1 k p
theorem downN_is {g : Gr} (h1 : 1 ≤ g.rows) (p : Pn) : ∀ k : Nat, Alike (downN g ((g.rows : Int) - 1) p k) (scrollI g 0 ((g.rows : Int) - 1) (-(k : Int)) p)
  | 0 => by
    rw [scrollI_whole h1]
    exact (scroll_zero h1 p).symm
  | k + 1 => by
    refine (scrollI_congr (downN_is h1 p k) 0 _ (-1) p).trans ?_
    have hs := (scrollI_size g 0 ((g.rows : Int) - 1) (-(k : Int)) p).1
    rw [scrollI_whole h1] at hs ⊢
    have e := scrollI_whole (g := scrollG g 0 (g.rows - 1) (-(k : Int)) p) (by rw [hs]; exact h1) (-1) p
    rw [hs] at e
    rw [e, scrollI_whole h1]
    exact scroll_down h1 k p
theorem shiftI_at (g : Gr) (c : Nat) (n : Int) (p : Pn) : shiftI g 0 c n p = shiftG g 0 c n p := by
  unfold shiftI
  rw [if_pos (by omega)]
  rfl
theorem shift_zero {g : Gr} {c : Nat} (p : Pn) (hr : 0 < g.rows) (hc : c < g.cols) (h : Singles (g.f 0) g.cols) : Alike (shiftG g 0 c 0 p) g := by
  have hs := shift_size g 0 c 0 p
  refine ⟨hs.1, hs.2, fun i j hi hj => ?_⟩
  rw [hs.2] at hj
  by_cases hi0 : i = 0
  · subst hi0
    rw [shift_f hr hc h hj]
    by_cases h1 : j < c
    · rw [if_pos h1]
    · rw [if_neg h1, if_pos (by omega)]
      congr 1
  · rw [shift_far hi0]
theorem insN_is {g : Gr} {c : Nat} (p : Pn) (hr : 0 < g.rows) (hc : c < g.cols) (h : Singles (g.f 0) g.cols) : ∀ k : Nat, Alike (insN g c p k) (shiftI g 0 c k p)
  | 0 => by
    rw [shiftI_at]
    exact (shift_zero p hr hc h).symm
  | k + 1 => by
    refine (shiftI_congr (insN_is p hr hc h k) 0 c 1 p).trans ?_
    rw [shiftI_at, shiftI_at, shiftI_at]
    exact shift_right k p hr hc h
theorem delN_is {g : Gr} {c : Nat} (p : Pn) (hr : 0 < g.rows) (hc : c < g.cols) (h : Singles (g.f 0) g.cols) : ∀ k : Nat, Alike (delN g c p k) (shiftI g 0 c (-(k : Int)) p)
  | 0 => by
    rw [shiftI_at]
    exact (shift_zero p hr hc h).symm
  | k + 1 => by
    refine (shiftI_congr (delN_is p hr hc h k) 0 c (-1) p).trans ?_
    rw [shiftI_at, shiftI_at, shiftI_at]
    exact shift_left k p hr hc h
theorem right_upN {g : Gr} (h : RightG g) {p : Pn} (hp : okPen p) (b : Int) : ∀ k, RightG (upN g b p k) ∧ (upN g b p k).rows = g.rows ∧ (upN g b p k).cols = g.cols
  | 0 => ⟨h, rfl, rfl⟩
  | k + 1 => by
    obtain ⟨h1, h2, h3⟩ := right_upN h hp b k
    exact ⟨right_scrollI h1 hp _ _ _, (scrollI_size ..).1.trans h2, (scrollI_size ..).2.trans h3⟩
theorem right_downN {g : Gr} (h : RightG g) {p : Pn} (hp : okPen p) (b : Int) : ∀ k, RightG (downN g b p k) ∧ (downN g b p k).rows = g.rows ∧ (downN g b p k).cols = g.cols
  | 0 => ⟨h, rfl, rfl⟩
  | k + 1 => by
    obtain ⟨h1, h2, h3⟩ := right_downN h hp b k
    exact ⟨right_scrollI h1 hp _ _ _, (scrollI_size ..).1.trans h2, (scrollI_size ..).2.trans h3⟩
theorem right_insN {g : Gr} (h : RightG g) {p : Pn} (hp : okPen p) (b : Int) : ∀ k, RightG (insN g b p k) ∧ (insN g b p k).rows = g.rows ∧ (insN g b p k).cols = g.cols
  | 0 => ⟨h, rfl, rfl⟩
  | k + 1 => by
    obtain ⟨h1, h2, h3⟩ := right_insN h hp b k
    exact ⟨right_shiftI h1 hp _ _ _, (shiftI_size ..).1.trans h2, (shiftI_size ..).2.trans h3⟩
theorem right_delN {g : Gr} (h : RightG g) {p : Pn} (hp : okPen p) (b : Int) : ∀ k, RightG (delN g b p k) ∧ (delN g b p k).rows = g.rows ∧ (delN g b p k).cols = g.cols
  | 0 => ⟨h, rfl, rfl⟩
  | k + 1 => by
    obtain ⟨h1, h2, h3⟩ := right_delN h hp b k
    exact ⟨right_shiftI h1 hp _ _ _, (shiftI_size ..).1.trans h2, (shiftI_size ..).2.trans h3⟩
end Go.Proofs.YtdcdinlppjlmfaaDoor.PG
