/- What package edit's small functions do to cells in memory: clone, within, isPlace, rows, blank. What package edit's push, pull and part do to cells in memory. Cells moved in a row, rows moved, rows erased: the cells that come of it are those of plain grids. Plain mathematics. Regions whose last operation writes cells of a row; the grid, the pen and the answer of a call of package edit in memory; part, push and pull told of plain grids. -/
import Derived.Test.YtdcdinlppjlmfaaDoorGridUse
import Derived.Test.YtdcdinlppjlmfaaDoorGridShift
import Derived.Lib.SliceRun
import Derived.StillTailTactics
import Derived.Test.YtdcdinlppjlmfaaDoorKept
set_option maxRecDepth 100000
namespace Go.Proofs.YtdcdinlppjlmfaaDoor
open Go.RowKit
set_option linter.unusedVariables false
theorem spl_rep {l : List PG.Cl} {x k : Nat} (c : PG.Cl) (h : x + k < l.length) : (spl l x (List.replicate k c)).set (x + k) c = spl l x (List.replicate (k + 1) c) := by
  have := spl_snoc (l := l) (m := List.replicate k c) (x := x) c (by rw [List.length_replicate]; exact h)
  rw [List.length_replicate] at this
  rw [this, List.replicate_succ']
/-- the cells of the rows a to b, b not of them -/
def rowsV (g x m cp : Nat) : Value := if cp = x then .slice (some ⟨g, 0, none⟩) 0 0 else .slice (some ⟨g, x * 5, none⟩) m (cp - x)
theorem rowsV_form {g x m cp n : Nat} (h : x + m ≤ n) (hn : n ≤ cp) (hc : cp ≤ maxLen) : ∃ A c', rowsV g x m cp = .slice A m c' ∧ (0 < m → A = some ⟨g, x * 5, none⟩) ∧ m ≤ c' ∧ c' ≤ maxLen := by
  unfold rowsV
  by_cases e : cp = x
  · obtain rfl : m = 0 := by omega
    rw [if_pos e]
    exact ⟨_, _, rfl, fun h => by omega, Nat.le_refl _, Nat.zero_le _⟩
  · rw [if_neg e]
    exact ⟨_, _, rfl, fun _ => rfl, by omega, by omega⟩
theorem rowsV_pos {g x m cp n : Nat} (h : x + m ≤ n) (hn : n ≤ cp) (hm : 0 < m) : rowsV g x m cp = .slice (some ⟨g, x * 5, none⟩) m (cp - x) := if_neg (by omega)
end Go.Proofs.YtdcdinlppjlmfaaDoor
set_option maxRecDepth 100000
namespace Go.Proofs.YtdcdinlppjlmfaaDoor
open Go.RowKit
set_option linter.unusedVariables false
/-- what a method that writes cells of a row leaves -/
def Wrote (base g n cap : Nat) (w : World) (l : List PG.Cl) (e : Ending) (w' : World) : Prop := e = .returned (.tuple #[]) ∧ w'.ownsRow base 58 5 (.slice (some ⟨g, 0, none⟩) n cap) n (ccells l) ∧ Kept [some g] w w'
theorem spl_two {l a b : List PG.Cl} {x : Nat} (h : x + a.length + b.length ≤ l.length) : spl (spl l (x + a.length) b) x a = spl l x (a ++ b) := by
  refine List.ext_getElem? fun i => ?_
  have h1 : (spl l (x + a.length) b).length = l.length := spl_len h
  rw [PG.spl_get (by rw [h1]; omega), PG.spl_get h, PG.spl_get (by rw [List.length_append]; omega), List.length_append]
  by_cases c1 : x ≤ i ∧ i < x + a.length
  · rw [if_pos c1, if_pos (by omega), List.getElem?_append_left (by omega)]
  · rw [if_neg c1]
    by_cases c2 : x + a.length ≤ i ∧ i < x + a.length + b.length
    · rw [if_pos c2, if_pos (by omega), List.getElem?_append_right (by omega)]
      congr 1
      omega
    · rw [if_neg c2, if_neg (by omega)]
theorem spl_two' {l a b : List PG.Cl} {x : Nat} (h : x + a.length + b.length ≤ l.length) : spl (spl l x a) (x + a.length) b = spl l x (a ++ b) := by
  refine List.ext_getElem? fun i => ?_
  have h1 : (spl l x a).length = l.length := spl_len (by omega)
  rw [PG.spl_get (by rw [h1]; omega), PG.spl_get (by omega), PG.spl_get (by rw [List.length_append]; omega), List.length_append]
  by_cases c2 : x + a.length ≤ i ∧ i < x + a.length + b.length
  · rw [if_pos c2, if_pos (by omega), List.getElem?_append_right (by omega)]
    congr 1
    omega
  · rw [if_neg c2]
    by_cases c1 : x ≤ i ∧ i < x + a.length
    · rw [if_pos c1, if_pos (by omega), List.getElem?_append_left (by omega)]
    · rw [if_neg c1, if_neg (by omega)]
/-- cells moved back, and ahead -/
def pushed (u : List PG.Cl) (k : Nat) (p : PG.Pn) : List PG.Cl := List.replicate k (PG.blank p) ++ u.take (u.length - k)
def pulled (u : List PG.Cl) (k : Nat) (p : PG.Pn) : List PG.Cl := u.drop k ++ List.replicate k (PG.blank p)
/-- two halves that become blanks, one after the other -/
def halves (l : List PG.Cl) (y : Nat) (p q : PG.Pn) : Nat → List PG.Cl
  | 0 => l
  | 1 => l.set y (PG.blank p)
  | _ => (l.set y (PG.blank p)).set (y + 1) (PG.blank q)
theorem halves_len (l : List PG.Cl) (y : Nat) (p q : PG.Pn) (k : Nat) : (halves l y p q k).length = l.length := by
  match k with
  | 0 => rfl
  | 1 => simp [halves]
  | k + 2 => simp [halves]
theorem halves_next {l : List PG.Cl} {y : Nat} {a b : PG.Cl} (ha : l[y]? = some a) (hb : l[y + 1]? = some b) {k : Nat} (hk : k < 2) : ∃ c, (halves l y (PG.pn a) (PG.pn b) k)[y + k]? = some c ∧ (halves l y (PG.pn a) (PG.pn b) k).set (y + k) (PG.blank (PG.pn c)) = halves l y (PG.pn a) (PG.pn b) (k + 1) := by
  obtain rfl | rfl : k = 0 ∨ k = 1 := by omega
  · exact ⟨a, ha, rfl⟩
  · refine ⟨b, ?_, rfl⟩
    show (l.set y _)[y + 1]? = _
    rw [List.getElem?_set_ne (by omega)]
    exact hb
end Go.Proofs.YtdcdinlppjlmfaaDoor
set_option maxRecDepth 100000
namespace Go.Proofs.YtdcdinlppjlmfaaDoor.PG
set_option linter.unusedVariables false
theorem row_lt {a q K j : Nat} (hj : j < K) : a * K + j < q * K ↔ a < q := by
  constructor
  · intro h
    rcases Nat.lt_or_ge a q with h1 | h1
    · exact h1
    · have := Nat.mul_le_mul_right K h1
      omega
  · intro h
    have := Nat.mul_le_mul_right K (show a + 1 ≤ q from h)
    rw [Nat.succ_mul] at this
    omega
theorem row_le {a q K j : Nat} (hj : j < K) : q * K ≤ a * K + j ↔ q ≤ a := by
  have := row_lt (a := a) (q := q) hj
  omega
/-- a part of a row written anew -/
theorem spl_part {g : Gr} {r c : Nat} {m : List Cl} {h : Nat → Cl} (hr : r < g.rows) (hc : c ≤ g.cols) (hm : m.length = g.cols - c) (hh : ∀ j, j < g.cols - c → m[j]? = some (h (c + j))) : spl (cells g) (r * g.cols + c) m = cells ⟨g.rows, g.cols, fun i j => if i = r ∧ c ≤ j then h j else g.f i j⟩ := by
  have hle : r * g.cols + g.cols ≤ g.rows * g.cols := by rw [← Nat.succ_mul]; exact Nat.mul_le_mul_right _ hr
  have hl : r * g.cols + c + m.length ≤ (cells g).length := by rw [cells_len, hm]; omega
  refine cells_of (g := ⟨g.rows, g.cols, fun i j => if i = r ∧ c ≤ j then h j else g.f i j⟩) (by rw [spl_len hl, cells_len]) fun i j hi hj => ?_
  have hi : i < g.rows := hi
  have hj : j < g.cols := hj
  show (spl (cells g) (r * g.cols + c) m)[i * g.cols + j]? = some (if i = r ∧ c ≤ j then h j else g.f i j)
  rw [spl_get hl, hm]
  by_cases e : i = r
  · subst e
    by_cases h3 : c ≤ j
    · rw [if_pos ⟨by omega, by omega⟩, if_pos ⟨rfl, h3⟩, show i * g.cols + j - (i * g.cols + c) = j - c by omega, hh _ (by omega), show c + (j - c) = j by omega]
    · rw [if_neg (by omega), if_neg (by omega), cells_at g hi hj]
  · rw [if_neg (by omega : ¬ (i = r ∧ c ≤ j)), if_neg, cells_at g hi hj]
    rintro ⟨h3, h4⟩
    rcases Nat.lt_or_gt_of_ne e with h | h
    · have := Nat.mul_le_mul_right g.cols h
      rw [Nat.succ_mul] at this
      omega
    · have := Nat.mul_le_mul_right g.cols h
      rw [Nat.succ_mul] at this
      omega
theorem part_at {g : Gr} {r c j : Nat} (hr : r < g.rows) (hj : j < g.cols - c) : (((cells g).drop (r * g.cols + c)).take (g.cols - c))[j]? = some (g.f r (c + j)) := by
  rw [List.getElem?_take_of_lt hj, List.getElem?_drop, Nat.add_assoc, cells_at g hr (by omega)]
theorem part_len {g : Gr} {r c : Nat} (hr : r < g.rows) (hc : c ≤ g.cols) : (((cells g).drop (r * g.cols + c)).take (g.cols - c)).length = g.cols - c := by
  have hle : r * g.cols + g.cols ≤ g.rows * g.cols := by rw [← Nat.succ_mul]; exact Nat.mul_le_mul_right _ hr
  rw [List.length_take, List.length_drop, cells_len]
  omega
/-- rows written anew -/
theorem spl_rows {g : Gr} {t b : Nat} {m : List Cl} {h : Nat → Nat → Cl} (ht : t ≤ b) (hb : b ≤ g.rows) (hm : m.length = (b - t) * g.cols) (hh : ∀ i j, i < b - t → j < g.cols → m[i * g.cols + j]? = some (h (t + i) j)) : spl (cells g) (t * g.cols) m = cells ⟨g.rows, g.cols, fun i j => if t ≤ i ∧ i < b then h i j else g.f i j⟩ := by
  have e1 : t * g.cols + (b - t) * g.cols = b * g.cols := by rw [← Nat.add_mul]; congr 1; omega
  have hle : b * g.cols ≤ g.rows * g.cols := Nat.mul_le_mul_right _ hb
  have hl : t * g.cols + m.length ≤ (cells g).length := by rw [cells_len, hm]; omega
  refine cells_of (g := ⟨g.rows, g.cols, fun i j => if t ≤ i ∧ i < b then h i j else g.f i j⟩) (by rw [spl_len hl, cells_len]) fun i j hi hj => ?_
  have hi : i < g.rows := hi
  have hj : j < g.cols := hj
  show (spl (cells g) (t * g.cols) m)[i * g.cols + j]? = some (if t ≤ i ∧ i < b then h i j else g.f i j)
  rw [spl_get hl, hm, e1]
  by_cases c : t ≤ i ∧ i < b
  · have h1 := (row_le (a := i) (q := t) hj).2 c.1
    have h2 := (row_lt (a := i) (q := b) hj).2 c.2
    have e2 : i * g.cols + j - t * g.cols = (i - t) * g.cols + j := by
      rw [Nat.sub_mul]
      have := Nat.mul_le_mul_right g.cols c.1
      omega
    rw [if_pos ⟨h1, h2⟩, if_pos c, e2, hh _ _ (by omega) hj, show t + (i - t) = i by omega]
  · rw [if_neg c, if_neg, cells_at g hi hj]
    rintro ⟨h1, h2⟩
    exact c ⟨(row_le hj).1 h1, (row_lt hj).1 h2⟩
theorem rows_at {g : Gr} {t b i j : Nat} (ht : t ≤ b) (hb : b ≤ g.rows) (hi : i < b - t) (hj : j < g.cols) : (((cells g).drop (t * g.cols)).take ((b - t) * g.cols))[i * g.cols + j]? = some (g.f (t + i) j) := by
  rw [List.getElem?_take_of_lt ((row_lt hj).2 hi), List.getElem?_drop, ← Nat.add_assoc, ← Nat.add_mul, cells_at g (by omega) hj]
theorem rows_len {g : Gr} {t b : Nat} (ht : t ≤ b) (hb : b ≤ g.rows) : (((cells g).drop (t * g.cols)).take ((b - t) * g.cols)).length = (b - t) * g.cols := by
  have e1 : t * g.cols + (b - t) * g.cols = b * g.cols := by rw [← Nat.add_mul]; congr 1; omega
  have hle : b * g.cols ≤ g.rows * g.cols := Nat.mul_le_mul_right _ hb
  rw [List.length_take, List.length_drop, cells_len]
  omega
theorem pushed_len {u : List Cl} {k : Nat} (p : Pn) (hk : k ≤ u.length) : (pushed u k p).length = u.length := by
  unfold pushed
  rw [List.length_append, List.length_replicate, List.length_take]
  omega
theorem pulled_len {u : List Cl} {k : Nat} (p : Pn) (hk : k ≤ u.length) : (pulled u k p).length = u.length := by
  unfold pulled
  rw [List.length_append, List.length_replicate, List.length_drop]
  omega
theorem pushed_at {u : List Cl} {k j : Nat} (p : Pn) (hk : k ≤ u.length) (hj : j < u.length) : (pushed u k p)[j]? = if j < k then some (blank p) else u[j - k]? := by
  unfold pushed
  by_cases h : j < k
  · rw [if_pos h, List.getElem?_append_left (by simpa using h), List.getElem?_replicate, if_pos h]
  · rw [if_neg h, List.getElem?_append_right (by rw [List.length_replicate]; omega), List.length_replicate, List.getElem?_take_of_lt (by omega)]
theorem pulled_at {u : List Cl} {k j : Nat} (p : Pn) (hk : k ≤ u.length) (hj : j < u.length) : (pulled u k p)[j]? = if j + k < u.length then u[j + k]? else some (blank p) := by
  unfold pulled
  by_cases h : j + k < u.length
  · rw [if_pos h, List.getElem?_append_left (by rw [List.length_drop]; omega), List.getElem?_drop, Nat.add_comm k j]
  · rw [if_neg h, List.getElem?_append_right (by rw [List.length_drop]; omega), List.getElem?_replicate, if_pos (by rw [List.length_drop]; omega)]
/-! a row's cells moved -/
def rowG (g : Gr) (r : Nat) (h : Nat → Cl) : Gr := ⟨g.rows, g.cols, fun i j => if i = r then h j else g.f i j⟩
theorem parted_is {f : Nat → Cl} {c : Nat} (h : kd (f c) ≠ 2) : parted f c = f := by
  funext j
  exact if_neg (by omega)
theorem part_none {g : Gr} {r c : Nat} (h : kd (g.f r c) ≠ 2) : cells g = cells (rowG g r (parted (g.f r) c)) := by
  refine cells_ext ⟨rfl, rfl, fun i j _ _ => ?_⟩
  show g.f i j = if i = r then _ else g.f i j
  rw [parted_is h]
  split
  · rename_i e; rw [e]
  · rfl
theorem part_two {g : Gr} {r c0 : Nat} (hr : r < g.rows) (hc : c0 + 1 < g.cols) (h : kd (g.f r (c0 + 1)) = 2) : halves (cells g) (r * g.cols + c0) (pn (g.f r c0)) (pn (g.f r (c0 + 1))) 2 = cells (rowG g r (parted (g.f r) (c0 + 1))) := by
  show ((cells g).set (r * g.cols + c0) _).set (r * g.cols + c0 + 1) _ = _
  rw [set_at hr (by omega)]
  have e := set_at (g := ⟨g.rows, g.cols, fun i j => if i = r ∧ j = c0 then blank (pn (g.f r c0)) else g.f i j⟩) (r := r) (c := c0 + 1) hr hc (blank (pn (g.f r (c0 + 1))))
  rw [Nat.add_assoc, e]
  refine cells_ext ⟨rfl, rfl, fun i j _ _ => ?_⟩
  show (if i = r ∧ j = c0 + 1 then blank (pn (g.f r (c0 + 1))) else if i = r ∧ j = c0 then blank (pn (g.f r c0)) else g.f i j) = if i = r then parted (g.f r) (c0 + 1) j else g.f i j
  unfold parted
  by_cases e1 : i = r
  · subst e1
    by_cases e2 : j = c0 + 1
    · subst e2
      simp [h]
    · by_cases e3 : j = c0
      · subst e3
        simp [h]
      · rw [if_neg (by omega), if_neg (by omega), if_pos rfl, if_neg (by omega)]
  · rw [if_neg (by omega), if_neg (by omega), if_neg e1]
theorem push_row {g : Gr} {r c k : Nat} {n : Int} {p : Pn} {h : Nat → Cl} (hr : r < g.rows) (hc : c < g.cols) (hk : k ≤ g.cols - c) (hn : (n ≤ (g.cols : Int) - c ∧ n = k) ∨ ((g.cols : Int) - c < n ∧ k = g.cols - c)) (hh : h = parted (g.f r) c) :
    spl (cells (rowG g r h)) (r * g.cols + c) (pushed (((cells (rowG g r h)).drop (r * g.cols + c)).take (g.cols - c)) k p) = cells (rowG g r (shifted (g.f r) g.cols c n p)) := by
  have hl : (((cells (rowG g r h)).drop (r * g.cols + c)).take (g.cols - c)).length = g.cols - c := part_len (g := rowG g r h) hr (by show c ≤ g.cols; omega)
  refine (spl_part (g := rowG g r h) (r := r) (c := c) (h := shifted (g.f r) g.cols c n p) hr (by show c ≤ g.cols; omega) (by rw [pushed_len p (by omega), hl]; rfl) fun j hj => ?_).trans (cells_ext ⟨rfl, rfl, fun i j hi hj => ?_⟩)
  · have hj : j < g.cols - c := hj
    rw [pushed_at p (by omega) (by omega)]
    by_cases h1 : j < k
    · rw [if_pos h1]
      unfold shifted
      rw [if_neg (by omega), if_neg (by omega)]
    · have e := part_at (g := rowG g r h) (r := r) (c := c) (j := j - k) hr (by show j - k < g.cols - c; omega)
      have e' : (((cells (rowG g r h)).drop (r * g.cols + c)).take (g.cols - c))[j - k]? = some (h (c + (j - k))) := by
        refine e.trans ?_
        show some (if r = r then h (c + (j - k)) else _) = _
        rw [if_pos rfl]
      rw [if_neg h1, e']
      unfold shifted
      rw [if_neg (by omega), if_pos (by omega), hh]
      congr 2
      omega
  · show (if i = r ∧ c ≤ j then shifted (g.f r) g.cols c n p j else if i = r then h j else g.f i j) = if i = r then shifted (g.f r) g.cols c n p j else g.f i j
    by_cases e : i = r
    · by_cases e2 : c ≤ j
      · rw [if_pos ⟨e, e2⟩, if_pos e]
      · rw [if_neg (by omega), if_pos e, if_pos e, hh]
        unfold shifted
        rw [if_pos (by omega)]
    · rw [if_neg (by omega), if_neg e, if_neg e]
theorem pull_row {g : Gr} {r c k : Nat} {n : Int} {p : Pn} {h : Nat → Cl} (hr : r < g.rows) (hc : c < g.cols) (hk : k ≤ g.cols - c) (hn : (n ≤ (g.cols : Int) - c ∧ n = k) ∨ ((g.cols : Int) - c < n ∧ k = g.cols - c)) (hh : h = parted (g.f r) c) :
    spl (cells (rowG g r h)) (r * g.cols + c) (pulled (((cells (rowG g r h)).drop (r * g.cols + c)).take (g.cols - c)) k p) = cells (rowG g r (shifted (g.f r) g.cols c (-n) p)) := by
  have hl : (((cells (rowG g r h)).drop (r * g.cols + c)).take (g.cols - c)).length = g.cols - c := part_len (g := rowG g r h) hr (by show c ≤ g.cols; omega)
  refine (spl_part (g := rowG g r h) (r := r) (c := c) (h := shifted (g.f r) g.cols c (-n) p) hr (by show c ≤ g.cols; omega) (by rw [pulled_len p (by omega), hl]; rfl) fun j hj => ?_).trans (cells_ext ⟨rfl, rfl, fun i j hi hj => ?_⟩)
  · have hj : j < g.cols - c := hj
    rw [pulled_at p (by omega) (by omega), hl]
    by_cases h1 : j + k < g.cols - c
    · have e := part_at (g := rowG g r h) (r := r) (c := c) (j := j + k) hr (by show j + k < g.cols - c; omega)
      have e' : (((cells (rowG g r h)).drop (r * g.cols + c)).take (g.cols - c))[j + k]? = some (h (c + (j + k))) := by
        refine e.trans ?_
        show some (if r = r then h (c + (j + k)) else _) = _
        rw [if_pos rfl]
      rw [if_pos h1, e']
      unfold shifted
      rw [if_neg (by omega), if_pos (by omega), hh]
      congr 2
      omega
    · rw [if_neg h1]
      unfold shifted
      rw [if_neg (by omega), if_neg (by omega)]
  · show (if i = r ∧ c ≤ j then shifted (g.f r) g.cols c (-n) p j else if i = r then h j else g.f i j) = if i = r then shifted (g.f r) g.cols c (-n) p j else g.f i j
    by_cases e : i = r
    · by_cases e2 : c ≤ j
      · rw [if_pos ⟨e, e2⟩, if_pos e]
      · rw [if_neg (by omega), if_pos e, if_pos e, hh]
        unfold shifted
        rw [if_pos (by omega)]
    · rw [if_neg (by omega), if_neg e, if_neg e]
theorem mend_row {g : Gr} {r c : Nat} {n : Int} {p : Pn} (hr : r < g.rows) (hc : c < g.cols) :
    spl (cells (rowG g r (shifted (g.f r) g.cols c n p))) (r * g.cols) (mendL (((cells (rowG g r (shifted (g.f r) g.cols c n p))).drop (r * g.cols)).take g.cols)) = cells (shiftG g r c n p) := by
  have e1 := row_cut (g := rowG g r (shifted (g.f r) g.cols c n p)) (r := r) hr
  have e1' : ((cells (rowG g r (shifted (g.f r) g.cols c n p))).drop (r * g.cols)).take g.cols = (List.range g.cols).map (shifted (g.f r) g.cols c n p) := by
    refine e1.trans (List.map_congr_left fun j _ => ?_)
    show (if r = r then _ else _) = _
    rw [if_pos rfl]
  rw [e1', mendL_range]
  refine (spl_cells (g := rowG g r (shifted (g.f r) g.cols c n p)) hr (by simp [rowG]) (fun j hj => range_at hj)).trans (cells_ext ?_)
  unfold shiftG
  rw [if_pos ⟨hr, hc⟩]
  refine ⟨rfl, rfl, fun i j _ _ => ?_⟩
  show (if i = r then _ else if i = r then _ else g.f i j) = _
  by_cases e : i = r
  · rw [if_pos e]
    exact (if_pos e).symm
  · rw [if_neg e, if_neg e]
    exact (if_neg e).symm
/-! rows moved -/
theorem push_rows {g : Gr} {t b q : Nat} {n : Int} {p : Pn} (ht : t ≤ b) (hb : b < g.rows) (hn : (n ≤ (b : Int) + 1 - t ∧ n = q) ∨ ((b : Int) + 1 - t < n ∧ q = b + 1 - t)) (hn0 : 0 ≤ n) :
    spl (cells g) (t * g.cols) (pushed (((cells g).drop (t * g.cols)).take ((b + 1 - t) * g.cols)) (q * g.cols) p) = cells (scrollG g t b (-n) p) := by
  have hl := rows_len (g := g) (t := t) (b := b + 1) (by omega) (by omega)
  have hq : q ≤ b + 1 - t := by omega
  have hqk : q * g.cols ≤ (b + 1 - t) * g.cols := Nat.mul_le_mul_right _ hq
  refine (spl_rows (g := g) (t := t) (b := b + 1) (h := fun i j => if t + q ≤ i then g.f (i - q) j else blank p) (by omega) (by omega) (by rw [pushed_len p (by rw [hl]; exact hqk), hl]) fun i j hi hj => ?_).trans (cells_ext ?_)
  · have hij := (row_lt (a := i) (q := b + 1 - t) hj).2 hi
    rw [pushed_at p (by rw [hl]; exact hqk) (by rw [hl]; exact hij)]
    by_cases h1 : i < q
    · rw [if_pos ((row_lt hj).2 h1), if_neg (by omega)]
    · have h2 : ¬ (i * g.cols + j < q * g.cols) := fun h => h1 ((row_lt hj).1 h)
      have e2 : i * g.cols + j - q * g.cols = (i - q) * g.cols + j := by
        rw [Nat.sub_mul]
        have := Nat.mul_le_mul_right g.cols (show q ≤ i by omega)
        omega
      rw [if_neg h2, e2, rows_at (by omega) (by omega) (by omega) hj, if_pos (by omega)]
      congr 2
      omega
  · unfold scrollG
    rw [if_pos ⟨hb, ht⟩]
    refine ⟨rfl, rfl, fun i j _ _ => ?_⟩
    show (if t ≤ i ∧ i < b + 1 then (if t + q ≤ i then g.f (i - q) j else blank p) else g.f i j) = if t ≤ i ∧ i ≤ b then (if (t : Int) ≤ i + -n ∧ (i : Int) + -n ≤ b then g.f ((i : Int) + -n).toNat j else blank p) else g.f i j
    by_cases h1 : t ≤ i ∧ i ≤ b
    · rw [if_pos (by omega), if_pos h1]
      by_cases h2 : t + q ≤ i
      · rw [if_pos h2, if_pos (by omega)]
        congr 1
        omega
      · rw [if_neg h2, if_neg (by omega)]
    · rw [if_neg (by omega), if_neg h1]
theorem pull_rows {g : Gr} {t b q : Nat} {n : Int} {p : Pn} (ht : t ≤ b) (hb : b < g.rows) (hn : (n ≤ (b : Int) + 1 - t ∧ n = q) ∨ ((b : Int) + 1 - t < n ∧ q = b + 1 - t)) (hn0 : 0 ≤ n) :
    spl (cells g) (t * g.cols) (pulled (((cells g).drop (t * g.cols)).take ((b + 1 - t) * g.cols)) (q * g.cols) p) = cells (scrollG g t b n p) := by
  have hl := rows_len (g := g) (t := t) (b := b + 1) (by omega) (by omega)
  have hq : q ≤ b + 1 - t := by omega
  have hqk : q * g.cols ≤ (b + 1 - t) * g.cols := Nat.mul_le_mul_right _ hq
  refine (spl_rows (g := g) (t := t) (b := b + 1) (h := fun i j => if i + q ≤ b then g.f (i + q) j else blank p) (by omega) (by omega) (by rw [pulled_len p (by rw [hl]; exact hqk), hl]) fun i j hi hj => ?_).trans (cells_ext ?_)
  · have hij := (row_lt (a := i) (q := b + 1 - t) hj).2 hi
    rw [pulled_at p (by rw [hl]; exact hqk) (by rw [hl]; exact hij), hl]
    have e2 : i * g.cols + j + q * g.cols = (i + q) * g.cols + j := by
      rw [Nat.add_mul]
      omega
    rw [e2]
    by_cases h1 : i + q < b + 1 - t
    · rw [if_pos ((row_lt hj).2 h1), rows_at (by omega) (by omega) h1 hj, if_pos (by omega)]
      congr 2
      omega
    · have h2 : ¬ ((i + q) * g.cols + j < (b + 1 - t) * g.cols) := fun h => h1 ((row_lt hj).1 h)
      rw [if_neg h2, if_neg (by omega)]
  · unfold scrollG
    rw [if_pos ⟨hb, ht⟩]
    refine ⟨rfl, rfl, fun i j _ _ => ?_⟩
    show (if t ≤ i ∧ i < b + 1 then (if i + q ≤ b then g.f (i + q) j else blank p) else g.f i j) = if t ≤ i ∧ i ≤ b then (if (t : Int) ≤ i + n ∧ (i : Int) + n ≤ b then g.f ((i : Int) + n).toNat j else blank p) else g.f i j
    by_cases h1 : t ≤ i ∧ i ≤ b
    · rw [if_pos (by omega), if_pos h1]
      by_cases h2 : i + q ≤ b
      · rw [if_pos h2, if_pos (by omega)]
        congr 1
        omega
      · rw [if_neg h2, if_neg (by omega)]
    · rw [if_neg (by omega), if_neg h1]
/-- rows made blank -/
theorem blank_rows {g : Gr} {t b : Nat} {p : Pn} (ht : t ≤ b) (hb : b ≤ g.rows) :
    spl (cells g) (t * g.cols) (List.replicate ((b - t) * g.cols) (blank p)) = cells ⟨g.rows, g.cols, fun i j => if t ≤ i ∧ i < b then blank p else g.f i j⟩ := by
  refine spl_rows (g := g) (t := t) (b := b) (h := fun _ _ => blank p) ht hb (by rw [List.length_replicate]) fun i j hi hj => ?_
  rw [List.getElem?_replicate, if_pos ((row_lt hj).2 hi)]
end Go.Proofs.YtdcdinlppjlmfaaDoor.PG
set_option maxRecDepth 100000
namespace Go.Proofs.YtdcdinlppjlmfaaDoor
open Go.RowKit
set_option linter.unusedVariables false
/-- all values known; the world as it was, or, behind the last operation, as that leaves it -/
structure TJ (m : Nat) (E : Bool → World → Prop) (vals : Nat → Value) (L : Nat → Bool) (u : Nat → Value) (wx : World) : Prop where
  put : E (L m) wx
  all : ∀ j, j < m → L j = true → u j = vals j
section
variable {m : Nat} {E : Bool → World → Prop} {vals : Nat → Value} {L : Nat → Bool} {u u' : Nat → Value} {wx wy : World}
theorem TJ.val (h : TJ m E vals L u wx) (st : ∀ b x y, E b x → Below x.heap.size x y → E b y) {i : Nat} (hi : i < m) (b : Below wx.heap.size wx wy) (v : Value) (hv : vals i = v) : TJ m E vals (mark L i) (upd u i v) wy := by
  refine ⟨?_, fun j hj hl => ?_⟩
  · rw [mark_at (show m ≠ i by omega)]
    exact st _ _ _ h.put b
  · by_cases e : j = i
    · subst e
      rw [upd_self]
      exact hv.symm
    · rw [upd_at e]
      rw [mark_at e] at hl
      exact h.all j hj hl
theorem TJ.fin (h : TJ m E vals L u wx) (v : Value) (he : E true wy) : TJ m E vals (mark L m) (upd u m v) wy := by
  refine ⟨?_, fun j hj hl => ?_⟩
  · rw [mark_self]
    exact he
  · rw [upd_at (show j ≠ m by omega)]
    rw [mark_at (show j ≠ m by omega)] at hl
    exact h.all j hj hl
theorem TJ.same (he : ∀ j, j < m + 1 → u j = u' j) (h : TJ m E vals L u wx) : TJ m E vals L u' wx := ⟨h.put, fun j hj hl => (he j (by omega)).symm.trans (h.all j hj hl)⟩
end
/-- the grid by value, the pen, the answer, each in a box; the grid's cells in a row of the call's own -/
def EIn (w : World) (R K n g cap : Nat) (p : PG.Pn) (l : List PG.Cl) (wx : World) : Prop :=
  Box wx w.heap.size 24 #[.int .i64 R, .int .i64 K, .slice (some ⟨g, 0, none⟩) n cap] ∧ Box wx (w.heap.size + 1) 26 #[.int .i64 p.1, .int .i64 p.2.1, .int .i64 p.2.2] ∧ Box wx (w.heap.size + 1 + 1) 24 #[.int .i64 0, .int .i64 0, .slice none 0 0] ∧
  wx.ownsRow w.heap.size 58 5 (.slice (some ⟨g, 0, none⟩) n cap) n (ccells l) ∧ Below w.heap.size w wx
section
variable {w wx wy : World} {R K n g cap : Nat} {p : PG.Pn} {l l2 : List PG.Cl}
theorem EIn.call (h : EIn w R K n g cap p l wx) (b : Below wx.heap.size wx wy) : EIn w R K n g cap p l wy :=
  ⟨h.1.below b h.1.lt, h.2.1.below b h.2.1.lt, h.2.2.1.below b h.2.2.1.lt, h.2.2.2.1.kept (grown_of_below b none) (by simp [Value.ownBlock]), h.2.2.2.2.trans (b.mono h.2.2.2.2.size)⟩
theorem EIn.drew (h : EIn w R K n g cap p l wx) : EIn w R K n g cap p l wx.drew := ⟨h.1.drew, h.2.1.drew, h.2.2.1.drew, h.2.2.2.1, h.2.2.2.2.drew⟩
theorem EIn.wrote (h : EIn w R K n g cap p l wx) (o : wy.ownsRow w.heap.size 58 5 (.slice (some ⟨g, 0, none⟩) n cap) n (ccells l2)) (k : Kept [some g] wx wy) : EIn w R K n g cap p l2 wy := by
  have n0 := own_ne_box h.2.2.2.1 h.1 (by decide)
  have n1 := own_ne_box h.2.2.2.1 h.2.1 (by decide)
  have n2 := own_ne_box h.2.2.2.1 h.2.2.1 (by decide)
  have lt := (h.2.2.2.1.lt g rfl).1
  have hn : ∀ q, (Value.slice (some ⟨g, 0, none⟩) n cap).ownBlock ≠ some q → some q ∉ [some g] := fun q hq hm => hq (by
    simp only [List.mem_singleton, Option.some.injEq] at hm
    rw [hm]
    rfl)
  exact ⟨h.1.kept k (hn _ n0), h.2.1.kept k (hn _ n1), h.2.2.1.kept k (hn _ n2), o, h.2.2.2.2.trans (k.toBelow h.2.2.2.2.size (fun q hq => by simp at hq; omega))⟩
theorem EIn.grown (h : EIn w R K n g cap p l wx) (o : wy.ownsRow w.heap.size 58 5 (.slice (some ⟨g, 0, none⟩) n cap) n (ccells l2)) (k : wx.grownBy wy (some g)) : EIn w R K n g cap p l2 wy := h.wrote o (Kept.of_grown k)
end
theorem right_first {G : PG.Gr} (hG : PG.RightG G) {r : Nat} (hr : r < G.rows) : PG.kd (G.f r 0) ≠ 2 := fun h => by
  rcases (hG.2.2.2.2 r hr 0 (by have := hG.2.2.1; omega)).2 with k | k | k
  · have := k.1; omega
  · have := k.1; omega
  · have := k.2.2.1; omega
section
variable {G : PG.Gr} (hG : PG.RightG G) {r c n cp cap g base : Nat} {w : World}
include hG
end
end Go.Proofs.YtdcdinlppjlmfaaDoor
