/- Rows written into a grid's cells, and grids of plain Lean: what Put, Wipe, Resize leave, as cells. Plain mathematics. -/
import Derived.Test.YtcbmjdacdjcggaaDoorGridWiped
namespace Go.Proofs.YtcbmjdacdjcggaaDoor.PG
set_option linter.unusedVariables false
theorem spl_get {l m : List Cl} {x i : Nat} (h : x + m.length ≤ l.length) : (spl l x m)[i]? = if x ≤ i ∧ i < x + m.length then m[i - x]? else l[i]? := by
  unfold spl
  have hx : (l.take x).length = x := by rw [List.length_take]; omega
  by_cases h1 : i < x
  · rw [if_neg (by omega), List.append_assoc, List.getElem?_append_left (by omega), List.getElem?_take_of_lt h1]
  · by_cases h2 : i < x + m.length
    · rw [if_pos (by omega), List.append_assoc, List.getElem?_append_right (by omega), hx, List.getElem?_append_left (by omega)]
    · rw [if_neg (by omega), List.getElem?_append_right (by rw [List.length_append]; omega), List.length_append, hx, List.getElem?_drop]
      congr 1
      omega
/-- a row written anew -/
theorem spl_cells {g : Gr} {r : Nat} {m : List Cl} {h : Nat → Cl} (hr : r < g.rows) (hm : m.length = g.cols) (hh : ∀ j, j < g.cols → m[j]? = some (h j)) : spl (cells g) (r * g.cols) m = cells ⟨g.rows, g.cols, fun i j => if i = r then h j else g.f i j⟩ := by
  have hle : r * g.cols + g.cols ≤ g.rows * g.cols := by rw [← Nat.succ_mul]; exact Nat.mul_le_mul_right _ hr
  have hl : r * g.cols + m.length ≤ (cells g).length := by rw [cells_len, hm]; exact hle
  refine cells_of (g := ⟨g.rows, g.cols, fun i j => if i = r then h j else g.f i j⟩) (by rw [spl_len hl, cells_len]) fun i j hi hj => ?_
  have hi : i < g.rows := hi
  have hj : j < g.cols := hj
  show (spl (cells g) (r * g.cols) m)[i * g.cols + j]? = some (if i = r then h j else g.f i j)
  rw [spl_get hl, hm]
  by_cases e : i = r
  · subst e
    rw [if_pos ⟨by omega, by omega⟩, if_pos rfl, Nat.add_sub_cancel_left]
    exact hh j hj
  · have hne : ¬ (r * g.cols ≤ i * g.cols + j ∧ i * g.cols + j < r * g.cols + g.cols) := by
      rintro ⟨h1, h2⟩
      rcases Nat.lt_or_gt_of_ne e with h | h
      · have := Nat.mul_le_mul_right g.cols h
        rw [Nat.succ_mul] at this
        omega
      · have := Nat.mul_le_mul_right g.cols h
        rw [Nat.succ_mul] at this
        omega
    rw [if_neg hne, if_neg e, cells_at g hi hj]
theorem cells_ext {a b : Gr} (h : Alike a b) : cells a = cells b := (alike_cells.1 h).2.2
theorem range_at {n j : Nat} {f : Nat → Cl} (hj : j < n) : ((List.range n).map f)[j]? = some (f j) := by rw [List.getElem?_map, List.getElem?_range hj]; rfl
theorem fnL_range {n j : Nat} {f : Nat → Cl} (hj : j < n) : fnL ((List.range n).map f) j = f j := fnL_at (range_at hj)
theorem mendL_range (n : Nat) (f : Nat → Cl) : mendL ((List.range n).map f) = (List.range n).map (mend f n) := by
  unfold mendL
  rw [List.length_map, List.length_range]
  exact List.map_congr_left fun j hj => mend_congr (fun k hk => fnL_range hk) (List.mem_range.1 hj)
theorem wipeL_range (n a b : Nat) (p : Pn) (f : Nat → Cl) : wipeL ((List.range n).map f) a b p = (List.range n).map (wiped f a b p) := by
  unfold wipeL
  rw [List.length_map, List.length_range]
  refine List.map_congr_left fun j hj => ?_
  unfold wiped
  rw [fnL_range (List.mem_range.1 hj)]
theorem new_cells (R K : Nat) (p : Pn) : List.replicate (R * K) (blank p) = cells (newG R K p) := by
  refine cells_of (g := newG R K p) (by rw [List.length_replicate]; rfl) fun i j hi hj => ?_
  have h : i * (newG R K p).cols + j < R * K := place_lt (show i < R from hi) (show j < K from hj)
  rw [List.getElem?_replicate, if_pos h]
  rfl
theorem wipe_cells {g : Gr} {r : Nat} (hr : r < g.rows) (a b : Nat) (p : Pn) : spl (cells g) (r * g.cols) (mendL (wipeL (((cells g).drop (r * g.cols)).take g.cols) a b p)) = cells (wipeG g r a b p) := by
  rw [row_cut hr, wipeL_range, mendL_range, spl_cells hr (by simp) (fun j hj => range_at hj)]
  unfold wipeG
  rw [if_pos hr]
/-- a row with x put over it -/
def over (f : Nat → Cl) (c : Nat) (x : Int) (p : Pn) (w : Nat) (j : Nat) : Cl := if j = c then (x, if w = 2 then 1 else 0, p) else if w = 2 ∧ j = c + 1 then (0, 2, p) else f j
theorem over_put {f : Nat → Cl} {n c : Nat} {x : Int} {p : Pn} {w : Nat} (hf : RightRow f n) (hw0 : 1 ≤ w) (hw2 : w ≤ 2) (hc : c + w ≤ n) {j : Nat} (hj : j < n) : mend (over f c x p w) n j = putRow f c x p w j := by
  have hov : ∀ i, over f c x p w i = if i = c then (x, if w = 2 then 1 else 0, p) else if w = 2 ∧ i = c + 1 then (0, 2, p) else f i := fun _ => rfl
  have hat : putRow f c x p w j = if j = c then (x, if w = 2 then 1 else 0, p) else if w = 2 ∧ j = c + 1 then (0, 2, p) else if j + 1 = c ∧ kd (f c) = 2 then blank (pn (f j)) else if j = c + w ∧ kd (f (c + w - 1)) = 1 then blank (pn (f j)) else f j := rfl
  have kc : kd (over f c x p w c) = if w = 2 then 1 else 0 := by rw [hov, if_pos rfl]; rfl
  have kc1 : w = 2 → kd (over f c x p w (c + 1)) = 2 := fun h => by rw [hov, if_neg (by omega), if_pos ⟨h, rfl⟩]; rfl
  have kf : ∀ i, i ≠ c → ¬ (w = 2 ∧ i = c + 1) → over f c x p w i = f i := fun i h1 h2 => by rw [hov, if_neg h1, if_neg h2]
  rw [hat]
  unfold mend
  by_cases h1 : j = c
  · subst h1
    rw [if_pos rfl, if_neg, hov, if_pos rfl]
    rw [kc]
    by_cases h2 : w = 2
    · rw [if_pos h2, kc1 h2]
      omega
    · rw [if_neg h2]
      omega
  rw [if_neg h1]
  by_cases h2 : w = 2 ∧ j = c + 1
  · rw [if_pos h2]
    obtain ⟨h2, rfl⟩ := h2
    rw [if_neg, hov, if_neg (by omega), if_pos ⟨h2, rfl⟩]
    rw [kc1 h2, Nat.add_sub_cancel, kc, if_pos h2]
    omega
  rw [if_neg h2, kf j h1 h2]
  by_cases h3 : j + 1 = c ∧ kd (f c) = 2
  · rw [if_pos h3]
    have hl := hf.rightHalf (j := c) (by omega) h3.2
    have e : c - 1 = j := by omega
    rw [e] at hl
    rw [if_pos]
    left
    refine ⟨hl.2.2, ?_⟩
    rw [h3.1, kc]
    split <;> omega
  rw [if_neg h3]
  by_cases h4 : j = c + w ∧ kd (f (c + w - 1)) = 1
  · rw [if_pos h4]
    have hl := hf.left (j := c + w - 1) (by omega) h4.2
    have e : c + w - 1 + 1 = j := by omega
    rw [e] at hl
    rw [if_pos]
    right
    refine ⟨hl.2.2.1, ?_⟩
    rintro ⟨_, h5⟩
    by_cases hw : w = 2
    · rw [show j - 1 = c + 1 by omega, kc1 hw] at h5
      omega
    · rw [show j - 1 = c by omega, kc, if_neg hw] at h5
      omega
  rw [if_neg h4, if_neg]
  rintro (⟨a, b⟩ | ⟨a, b⟩)
  · have hl := hf.left hj a
    apply b
    refine ⟨hl.2.1, ?_⟩
    have n1 : j + 1 ≠ c := fun e => h3 ⟨e, by rw [← e]; exact hl.2.2.1⟩
    have n2 : ¬ (w = 2 ∧ j + 1 = c + 1) := fun e => h1 (by omega)
    rw [kf _ n1 n2]
    exact hl.2.2.1
  · have hl := hf.rightHalf hj a
    apply b
    refine ⟨hl.2.1, ?_⟩
    have n1 : j - 1 ≠ c := fun e => by
      by_cases hw : w = 2
      · exact h2 ⟨hw, by omega⟩
      · exact h4 ⟨by omega, by rw [show c + w - 1 = j - 1 by omega]; exact hl.2.2⟩
    have n2 : ¬ (w = 2 ∧ j - 1 = c + 1) := fun e => h4 ⟨by omega, by rw [show c + w - 1 = j - 1 by omega]; exact hl.2.2⟩
    rw [kf _ n1 n2]
    exact hl.2.2
theorem putCells_width {x : Int} {p : Pn} {w : Nat} (hw : C.width x = (w : Int)) (h1 : 1 ≤ w) (h2 : w ≤ 2) : (putCells x p).length = w ∧ ∀ k, k < w → (putCells x p)[k]? = some (if k = 0 then (x, if w = 2 then 1 else 0, p) else (0, 2, p)) := by
  unfold putCells
  rw [hw]
  obtain rfl | rfl : w = 1 ∨ w = 2 := by omega
  · refine ⟨rfl, fun k hk => ?_⟩
    obtain rfl : k = 0 := by omega
    rfl
  · refine ⟨rfl, fun k hk => ?_⟩
    obtain rfl | rfl : k = 0 ∨ k = 1 := by omega
    · rfl
    · rfl
theorem put_cells {g : Gr} (h : RightG g) {r c : Nat} {x : Int} {p : Pn} (hr : r < g.rows) (h1 : 1 ≤ C.width x) (hc : c + (C.width x).toNat ≤ g.cols) :
    spl (spl (cells g) (r * g.cols + c) (putCells x p)) (r * g.cols) (mendL (((spl (cells g) (r * g.cols + c) (putCells x p)).drop (r * g.cols)).take g.cols)) = cells (putG g r c x p) := by
  have hb := width_bd x
  obtain ⟨w, hw, hw1, hw2⟩ : ∃ w : Nat, C.width x = (w : Int) ∧ 1 ≤ w ∧ w ≤ 2 := ⟨(C.width x).toNat, by omega, by omega, by omega⟩
  have hwn : (C.width x).toNat = w := by omega
  rw [hwn] at hc
  obtain ⟨pl, pa⟩ := putCells_width (p := p) hw hw1 hw2
  have hle : r * g.cols + g.cols ≤ g.rows * g.cols := by rw [← Nat.succ_mul]; exact Nat.mul_le_mul_right _ hr
  have hl : r * g.cols + c + (putCells x p).length ≤ (cells g).length := by rw [cells_len, pl]; omega
  have e1 : spl (cells g) (r * g.cols + c) (putCells x p) = cells ⟨g.rows, g.cols, fun i j => if i = r then over (g.f r) c x p w j else g.f i j⟩ := by
    refine cells_of (g := ⟨g.rows, g.cols, fun i j => if i = r then over (g.f r) c x p w j else g.f i j⟩) (by rw [spl_len hl, cells_len]) fun i j hi hj => ?_
    have hi : i < g.rows := hi
    have hj : j < g.cols := hj
    show (spl (cells g) (r * g.cols + c) (putCells x p))[i * g.cols + j]? = some (if i = r then over (g.f r) c x p w j else g.f i j)
    rw [spl_get hl, pl]
    by_cases e : i = r
    · subst e
      rw [if_pos rfl]
      unfold over
      by_cases h3 : c ≤ j ∧ j < c + w
      · rw [if_pos ⟨by omega, by omega⟩, show i * g.cols + j - (i * g.cols + c) = j - c by omega, pa _ (by omega)]
        by_cases h4 : j = c
        · rw [if_pos (by omega), if_pos h4]
        · rw [if_neg (by omega), if_neg h4, if_pos (by omega)]
      · rw [if_neg (by omega), if_neg (by omega), if_neg (by omega), cells_at g hi hj]
    · rw [if_neg e, if_neg, cells_at g hi hj]
      rintro ⟨h3, h4⟩
      rcases Nat.lt_or_gt_of_ne e with h | h
      · have := Nat.mul_le_mul_right g.cols h
        rw [Nat.succ_mul] at this
        omega
      · have := Nat.mul_le_mul_right g.cols h
        rw [Nat.succ_mul] at this
        omega
  rw [e1]
  have e2 := row_cut (g := ⟨g.rows, g.cols, fun i j => if i = r then over (g.f r) c x p w j else g.f i j⟩) (r := r) hr
  simp only [if_true] at e2
  rw [e2, mendL_range]
  have e3 := spl_cells (g := ⟨g.rows, g.cols, fun i j => if i = r then over (g.f r) c x p w j else g.f i j⟩) (r := r) (m := (List.range g.cols).map (mend (over (g.f r) c x p w) g.cols)) (h := mend (over (g.f r) c x p w) g.cols) hr (by simp) (fun j hj => range_at hj)
  rw [e3]
  refine cells_ext ⟨(put_size g r c x p).1.symm, (put_size g r c x p).2.symm, fun i j hi hj => ?_⟩
  have hi : i < g.rows := hi
  have hj : j < g.cols := hj
  unfold putG
  rw [if_pos ⟨hr, h1, by rw [hwn]; exact hc⟩, hwn]
  show (if i = r then mend (over (g.f r) c x p w) g.cols j else if i = r then over (g.f r) c x p w j else g.f i j) = if i = r then putRow (g.f r) c x p w j else g.f i j
  by_cases e : i = r
  · rw [if_pos e, if_pos e]
    exact over_put (h.2.2.2.2 r hr) hw1 hw2 hc hj
  · rw [if_neg e, if_neg e, if_neg e]
/-! Resize -/
/-- a row of the other grid over a row of blanks -/
def under (g : Gr) (i j : Nat) : Cl := if i < g.rows ∧ j < g.cols then g.f i j else blank plain
/-- the first k rows done -/
def halfR (g : Gr) (R K k : Nat) : Gr := ⟨R, K, fun i j => if i < k then mend (under g i) K j else blank plain⟩
theorem halfR_zero (g : Gr) (R K : Nat) : cells (halfR g R K 0) = List.replicate (R * K) (blank plain) := by
  rw [new_cells]
  exact cells_ext ⟨rfl, rfl, fun i j _ _ => by show (if i < 0 then mend (under g i) K j else blank plain) = blank plain; rw [if_neg (by omega)]⟩
theorem halfR_all (g : Gr) (R K : Nat) : cells (halfR g R K R) = cells (resizeG g R K) := cells_ext ⟨rfl, rfl, fun i j hi hj => if_pos (show i < R from hi)⟩
/-- what is taken over of row k -/
def taken (g : Gr) (K k : Nat) : List Cl := if k < g.rows then ((List.range g.cols).map (g.f k)).take (min g.cols K) else []
theorem taken_len {g : Gr} {K k : Nat} : (taken g K k).length = if k < g.rows then min g.cols K else 0 := by
  unfold taken
  split
  · rw [List.length_take, List.length_map, List.length_range]; omega
  · rfl
theorem resize_round {g : Gr} {R K k : Nat} (hk : k < R) : spl (cells (halfR g R K k)) (k * K) (taken g K k) = cells ⟨R, K, fun i j => if i = k then under g k j else (halfR g R K k).f i j⟩ ∧
    ((spl (cells (halfR g R K k)) (k * K) (taken g K k)).drop (k * K)).take K = (List.range K).map (under g k) ∧
    spl (spl (cells (halfR g R K k)) (k * K) (taken g K k)) (k * K) (mendL ((List.range K).map (under g k))) = cells (halfR g R K (k + 1)) := by
  have hle : k * K + K ≤ R * K := by rw [← Nat.succ_mul]; exact Nat.mul_le_mul_right _ hk
  have htl : (taken g K k).length ≤ K := by rw [taken_len]; split <;> omega
  have hcl : (cells (halfR g R K k)).length = R * K := cells_len _
  have hl : k * K + (taken g K k).length ≤ (cells (halfR g R K k)).length := by rw [hcl]; omega
  have e1 : spl (cells (halfR g R K k)) (k * K) (taken g K k) = cells ⟨R, K, fun i j => if i = k then under g k j else (halfR g R K k).f i j⟩ := by
    refine cells_of (g := ⟨R, K, fun i j => if i = k then under g k j else (halfR g R K k).f i j⟩) (by rw [spl_len hl, hcl]) fun i j hi hj => ?_
    have hi : i < R := hi
    have hj : j < K := hj
    show (spl (cells (halfR g R K k)) (k * K) (taken g K k))[i * K + j]? = some (if i = k then under g k j else (halfR g R K k).f i j)
    rw [spl_get hl]
    have hat : (cells (halfR g R K k))[i * K + j]? = some ((halfR g R K k).f i j) := cells_at (halfR g R K k) hi hj
    by_cases e : i = k
    · subst e
      rw [if_pos rfl]
      by_cases h3 : i < g.rows ∧ j < g.cols
      · have : (taken g K i).length = min g.cols K := by rw [taken_len, if_pos h3.1]
        rw [if_pos (by omega), Nat.add_sub_cancel_left]
        unfold taken under
        rw [if_pos h3.1, if_pos h3, List.getElem?_take_of_lt (by omega), range_at h3.2]
      · have : ¬ j < (taken g K i).length := by
          rw [taken_len]
          split
          · omega
          · omega
        rw [if_neg (by omega), hat]
        unfold under halfR
        rw [if_neg h3]
        exact congrArg some (if_neg (Nat.lt_irrefl i))
    · rw [if_neg e, if_neg, hat]
      rintro ⟨h3, h4⟩
      rcases Nat.lt_or_gt_of_ne e with h | h
      · have := Nat.mul_le_mul_right K h
        rw [Nat.succ_mul] at this
        omega
      · have := Nat.mul_le_mul_right K h
        rw [Nat.succ_mul] at this
        omega
  have e2 : ((spl (cells (halfR g R K k)) (k * K) (taken g K k)).drop (k * K)).take K = (List.range K).map (under g k) := by
    rw [e1]
    have := row_cut (g := ⟨R, K, fun i j => if i = k then under g k j else (halfR g R K k).f i j⟩) (r := k) hk
    simp only [if_true] at this
    exact this
  refine ⟨e1, e2, ?_⟩
  rw [e1, mendL_range]
  have e3 := spl_cells (g := ⟨R, K, fun i j => if i = k then under g k j else (halfR g R K k).f i j⟩) (r := k) (m := (List.range K).map (mend (under g k) K)) (h := mend (under g k) K) hk (by simp) (fun j hj => range_at hj)
  rw [e3]
  refine cells_ext ⟨rfl, rfl, fun i j hi hj => ?_⟩
  show (if i = k then mend (under g k) K j else if i = k then under g k j else if i < k then mend (under g i) K j else blank plain) = if i < k + 1 then mend (under g i) K j else blank plain
  by_cases e : i = k
  · subst e
    rw [if_pos rfl, if_pos (by omega)]
  · rw [if_neg e, if_neg e]
    by_cases h : i < k
    · rw [if_pos h, if_pos (by omega)]
    · rw [if_neg h, if_neg (by omega)]
end Go.Proofs.YtcbmjdacdjcggaaDoor.PG
