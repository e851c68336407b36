/- The contract of package grid's own Put. The contract of package grid's own Put, where nothing is put. The contracts of package grid's own Wipe. The contract of package grid's own Wipe, of no row. Rows written into a grid's cells, and grids of plain Lean: what Put, Wipe, Resize leave, as cells. Plain mathematics. The contract of package grid's own Resize. 'string(runes)' is their UTF-8; a range over such a string meets these runes. Names no function of a program but the types. The contracts of package grid's own At, Same (of the same grids), Text. The contract of package grid's own Text. The contract of package grid's own Right, of a right grid: true. -/
import Derived.Test.YtdcdinlppjlmfaaDoorGridSmall
import Derived.Test.YtdcdinlppjlmfaaDoorLib
import Derived.Deep.RegionHeld3
import Derived.Deep.RegionHeldLaw
import Derived.Deep.DeepCutAuto
import Derived.Test.YtdcdinlppjlmfaaDoorGridMem
import Derived.Test.YtdcdinlppjlmfaaDoorCellSpec
import Derived.Laws.Cover4
import Derived.Laws.RangeAny
import Derived.BigQuiet
import Derived.Deep.QuietTactic
import Derived.Test.YtdcdinlppjlmfaaDoorPenEq
import Derived.IntWalk
set_option maxRecDepth 100000
namespace Go.Proofs.YtdcdinlppjlmfaaDoor
open Go.RowKit
set_option linter.unusedVariables false
/-- three boxes that were just laid -/
theorem boxes3 {w : World} {t0 t1 t2 : TypeId} {cs ds es : Array Value} : Box (((w.alloc (.cells cs t0)).alloc (.cells ds t1)).alloc (.cells es t2)) w.heap.size t0 cs ∧ Box (((w.alloc (.cells cs t0)).alloc (.cells ds t1)).alloc (.cells es t2)) (w.heap.size + 1) t1 ds ∧
    Box (((w.alloc (.cells cs t0)).alloc (.cells ds t1)).alloc (.cells es t2)) (w.heap.size + 1 + 1) t2 es ∧ Below w.heap.size w (((w.alloc (.cells cs t0)).alloc (.cells ds t1)).alloc (.cells es t2)) := by
  refine ⟨((Box.new w t0 cs).alloc _).alloc _, ?_, ?_, (((Below.refl _ _).alloc (Nat.le_refl _) _).alloc (by simp) _).alloc (by simp; omega) _⟩
  · have h := (Box.new (w.alloc (.cells cs t0)) t1 ds).alloc (.cells es t2)
    rw [World.size_alloc] at h
    exact h
  · have h := Box.new ((w.alloc (.cells cs t0)).alloc (.cells ds t1)) t2 es
    rw [World.size_alloc, World.size_alloc] at h
    exact h
/-- what stands behind the row and the cells of x -/
def PutMid (w : World) (R K n m x g : Nat) (l ps : List PG.Cl) (u v : Value) (wx : World) : Prop :=
  ∃ c' A2 c2, u = .slice (some ⟨g, x * 5, none⟩) K c' ∧ K ≤ c' ∧ c' ≤ maxLen ∧ v = .slice A2 m c2 ∧ SeenC wx wx.heap.size A2 m ps ∧
    Box wx w.heap.size 24 #[.int .i64 R, .int .i64 K, .slice (some ⟨g, 0, none⟩) n n] ∧ Box wx (w.heap.size + 1 + 1) 24 #[.int .i64 0, .int .i64 0, .slice none 0 0] ∧
    wx.ownsRow w.heap.size 58 5 (.slice (some ⟨g, 0, none⟩) n n) n (ccells l) ∧ Below w.heap.size w wx
end Go.Proofs.YtdcdinlppjlmfaaDoor
set_option maxRecDepth 100000
namespace Go.Proofs.YtdcdinlppjlmfaaDoor
open Go.RowKit
set_option linter.unusedVariables false
/-- what stands behind the row and the cells of x, where it is not put -/
def OutMid (w : World) (R K n m k g : Nat) (l ps : List PG.Cl) (u v : Value) (wx : World) : Prop :=
  ∃ U c' A2 c2, u = .slice U k c' ∧ k ≤ c' ∧ c' ≤ maxLen ∧ v = .slice A2 m c2 ∧ SeenC wx wx.heap.size A2 m ps ∧
    Box wx w.heap.size 24 #[.int .i64 R, .int .i64 K, .slice (some ⟨g, 0, none⟩) n n] ∧ Box wx (w.heap.size + 1 + 1) 24 #[.int .i64 0, .int .i64 0, .slice none 0 0] ∧
    wx.ownsRow w.heap.size 58 5 (.slice (some ⟨g, 0, none⟩) n n) n (ccells l) ∧ Below w.heap.size w wx
end Go.Proofs.YtdcdinlppjlmfaaDoor
set_option maxRecDepth 100000
namespace Go.Proofs.YtdcdinlppjlmfaaDoor
open Go.RowKit
set_option linter.unusedVariables false
theorem own_five_at {w : World} {base n g cap : Nat} {e : TypeId} {l : List PG.Cl} (h : w.ownsRow base e 5 (.slice (some ⟨g, 0, none⟩) n cap) n (ccells l)) {k o : Nat} (ho : (k : Nat) * 5 = o) {c : PG.Cl} (hk : l[k]? = some c) :
    w.cell? ⟨g, o, none⟩ = some (.int .i32 (PG.rn c)) ∧ w.cell? ⟨g, o + 1, none⟩ = some (.int .i64 (PG.kd c)) ∧ w.cell? ⟨g, o + 2, none⟩ = some (.int .i64 (PG.pn c).1) ∧ w.cell? ⟨g, o + 3, none⟩ = some (.int .i64 (PG.pn c).2.1) ∧ w.cell? ⟨g, o + 4, none⟩ = some (.int .i64 (PG.pn c).2.2) ∧
    w.frozen? ⟨g, o, none⟩ = false ∧ w.frozen? ⟨g, o + 1, none⟩ = false ∧ w.frozen? ⟨g, o + 2, none⟩ = false ∧ w.frozen? ⟨g, o + 3, none⟩ = false ∧ w.frozen? ⟨g, o + 4, none⟩ = false := by
  subst ho
  exact own_five h hk
theorem own_store5_at {w : World} {base n g cap : Nat} {e : TypeId} {l : List PG.Cl} (h : w.ownsRow base e 5 (.slice (some ⟨g, 0, none⟩) n cap) n (ccells l)) {k o : Nat} (ho : (k : Nat) * 5 = o) (c : PG.Cl) (hk : k < n) (hl : l.length = n) :
    (store5 w g o c).ownsRow base e 5 (.slice (some ⟨g, 0, none⟩) n cap) n (ccells (l.set k c)) ∧ w.grownBy (store5 w g o c) (some g) := by
  subst ho
  exact own_store5 h c hk hl
theorem spl_set {l m : List PG.Cl} {x k : Nat} (c : PG.Cl) (h : x + m.length ≤ l.length) (hk : k < m.length) : (spl l x m).set (x + k) c = spl l x (m.set k c) := by
  unfold spl
  have hx : (l.take x).length = x := by rw [List.length_take]; omega
  rw [List.append_assoc, List.set_append_right _ _ (by omega), hx, Nat.add_sub_cancel_left, List.set_append_left _ _ hk, List.length_set, List.append_assoc]
theorem spl_row {l m : List PG.Cl} {x : Nat} (h : x + m.length ≤ l.length) : ((spl l x m).drop x).take m.length = m := by
  unfold spl
  have hx : (l.take x).length = x := by rw [List.length_take]; omega
  rw [List.append_assoc, List.drop_append_of_le_length (by omega), List.drop_of_length_le (by omega), List.nil_append, List.take_append_of_le_length (Nat.le_refl _), List.take_length]
theorem spl_spl {l m m' : List PG.Cl} {x : Nat} (h : x + m.length ≤ l.length) (h' : m'.length = m.length) : spl (spl l x m) x m' = spl l x m' := by
  have hx : (l.take x).length = x := by rw [List.length_take]; omega
  have e1 : (spl l x m).take x = l.take x := by
    unfold spl
    rw [List.append_assoc, List.take_append_of_le_length (by omega), List.take_of_length_le (by omega)]
  have e2 : (spl l x m).drop (x + m'.length) = l.drop (x + m'.length) := by
    unfold spl
    rw [h', List.append_assoc, List.drop_append, List.drop_of_length_le (by omega), List.nil_append, hx, Nat.add_sub_cancel_left, List.drop_append, List.drop_of_length_le (Nat.le_refl _), List.nil_append, Nat.sub_self, List.drop_zero]
  show (spl l x m).take x ++ m' ++ (spl l x m).drop (x + m'.length) = _
  rw [e1, e2]
  rfl
theorem spl_same {l : List PG.Cl} {x K : Nat} (h : x + K ≤ l.length) : spl l x ((l.drop x).take K) = l := by
  unfold spl
  have e : ((l.drop x).take K).length = K := by rw [List.length_take, List.length_drop]; omega
  rw [e, ← List.drop_drop, List.append_assoc, List.take_append_drop, List.take_append_drop]
end Go.Proofs.YtdcdinlppjlmfaaDoor
set_option maxRecDepth 100000
namespace Go.Proofs.YtdcdinlppjlmfaaDoor
open Go.RowKit
set_option linter.unusedVariables false
end Go.Proofs.YtdcdinlppjlmfaaDoor
namespace Go.Proofs.YtdcdinlppjlmfaaDoor.PG
set_option linter.unusedVariables false
theorem spl_get {l m : List Cl} {x i : Nat} (h : x + m.length ≤ l.length) : (spl l x m)[i]? = if x ≤ i ∧ i < x + m.length then m[i - x]? else l[i]? := by
  unfold spl
  have hx : (l.take x).length = x := by rw [List.length_take]; omega
  by_cases h1 : i < x
  · rw [if_neg (by omega), List.append_assoc, List.getElem?_append_left (by omega), List.getElem?_take_of_lt h1]
  · by_cases h2 : i < x + m.length
    · rw [if_pos (by omega), List.append_assoc, List.getElem?_append_right (by omega), hx, List.getElem?_append_left (by omega)]
    · rw [if_neg (by omega), List.getElem?_append_right (by rw [List.length_append]; omega), List.length_append, hx, List.getElem?_drop]
      congr 1
      omega
/-- a row written anew -/
theorem spl_cells {g : Gr} {r : Nat} {m : List Cl} {h : Nat → Cl} (hr : r < g.rows) (hm : m.length = g.cols) (hh : ∀ j, j < g.cols → m[j]? = some (h j)) : spl (cells g) (r * g.cols) m = cells ⟨g.rows, g.cols, fun i j => if i = r then h j else g.f i j⟩ := by
  have hle : r * g.cols + g.cols ≤ g.rows * g.cols := by rw [← Nat.succ_mul]; exact Nat.mul_le_mul_right _ hr
  have hl : r * g.cols + m.length ≤ (cells g).length := by rw [cells_len, hm]; exact hle
  refine cells_of (g := ⟨g.rows, g.cols, fun i j => if i = r then h j else g.f i j⟩) (by rw [spl_len hl, cells_len]) fun i j hi hj => ?_
  have hi : i < g.rows := hi
  have hj : j < g.cols := hj
  show (spl (cells g) (r * g.cols) m)[i * g.cols + j]? = some (if i = r then h j else g.f i j)
  rw [spl_get hl, hm]
  by_cases e : i = r
  · subst e
    rw [if_pos ⟨by omega, by omega⟩, if_pos rfl, Nat.add_sub_cancel_left]
    exact hh j hj
  · have hne : ¬ (r * g.cols ≤ i * g.cols + j ∧ i * g.cols + j < r * g.cols + g.cols) := by
      rintro ⟨h1, h2⟩
      rcases Nat.lt_or_gt_of_ne e with h | h
      · have := Nat.mul_le_mul_right g.cols h
        rw [Nat.succ_mul] at this
        omega
      · have := Nat.mul_le_mul_right g.cols h
        rw [Nat.succ_mul] at this
        omega
    rw [if_neg hne, if_neg e, cells_at g hi hj]
theorem cells_ext {a b : Gr} (h : Alike a b) : cells a = cells b := (alike_cells.1 h).2.2
theorem range_at {n j : Nat} {f : Nat → Cl} (hj : j < n) : ((List.range n).map f)[j]? = some (f j) := by rw [List.getElem?_map, List.getElem?_range hj]; rfl
theorem fnL_range {n j : Nat} {f : Nat → Cl} (hj : j < n) : fnL ((List.range n).map f) j = f j := fnL_at (range_at hj)
theorem mendL_range (n : Nat) (f : Nat → Cl) : mendL ((List.range n).map f) = (List.range n).map (mend f n) := by
  unfold mendL
  rw [List.length_map, List.length_range]
  exact List.map_congr_left fun j hj => mend_congr (fun k hk => fnL_range hk) (List.mem_range.1 hj)
theorem wipeL_range (n a b : Nat) (p : Pn) (f : Nat → Cl) : wipeL ((List.range n).map f) a b p = (List.range n).map (wiped f a b p) := by
  unfold wipeL
  rw [List.length_map, List.length_range]
  refine List.map_congr_left fun j hj => ?_
  unfold wiped
  rw [fnL_range (List.mem_range.1 hj)]
theorem new_cells (R K : Nat) (p : Pn) : List.replicate (R * K) (blank p) = cells (newG R K p) := by
  refine cells_of (g := newG R K p) (by rw [List.length_replicate]; rfl) fun i j hi hj => ?_
  have h : i * (newG R K p).cols + j < R * K := place_lt (show i < R from hi) (show j < K from hj)
  rw [List.getElem?_replicate, if_pos h]
  rfl
theorem wipe_cells {g : Gr} {r : Nat} (hr : r < g.rows) (a b : Nat) (p : Pn) : spl (cells g) (r * g.cols) (mendL (wipeL (((cells g).drop (r * g.cols)).take g.cols) a b p)) = cells (wipeG g r a b p) := by
  rw [row_cut hr, wipeL_range, mendL_range, spl_cells hr (by simp) (fun j hj => range_at hj)]
  unfold wipeG
  rw [if_pos hr]
/-- a row with x put over it -/
def over (f : Nat → Cl) (c : Nat) (x : Int) (p : Pn) (w : Nat) (j : Nat) : Cl := if j = c then (x, if w = 2 then 1 else 0, p) else if w = 2 ∧ j = c + 1 then (0, 2, p) else f j
theorem over_put {f : Nat → Cl} {n c : Nat} {x : Int} {p : Pn} {w : Nat} (hf : RightRow f n) (hw0 : 1 ≤ w) (hw2 : w ≤ 2) (hc : c + w ≤ n) {j : Nat} (hj : j < n) : mend (over f c x p w) n j = putRow f c x p w j := by
  have hov : ∀ i, over f c x p w i = if i = c then (x, if w = 2 then 1 else 0, p) else if w = 2 ∧ i = c + 1 then (0, 2, p) else f i := fun _ => rfl
  have hat : putRow f c x p w j = if j = c then (x, if w = 2 then 1 else 0, p) else if w = 2 ∧ j = c + 1 then (0, 2, p) else if j + 1 = c ∧ kd (f c) = 2 then blank (pn (f j)) else if j = c + w ∧ kd (f (c + w - 1)) = 1 then blank (pn (f j)) else f j := rfl
  have kc : kd (over f c x p w c) = if w = 2 then 1 else 0 := by rw [hov, if_pos rfl]; rfl
  have kc1 : w = 2 → kd (over f c x p w (c + 1)) = 2 := fun h => by rw [hov, if_neg (by omega), if_pos ⟨h, rfl⟩]; rfl
  have kf : ∀ i, i ≠ c → ¬ (w = 2 ∧ i = c + 1) → over f c x p w i = f i := fun i h1 h2 => by rw [hov, if_neg h1, if_neg h2]
  rw [hat]
  unfold mend
  by_cases h1 : j = c
  · subst h1
    rw [if_pos rfl, if_neg, hov, if_pos rfl]
    rw [kc]
    by_cases h2 : w = 2
    · rw [if_pos h2, kc1 h2]
      omega
    · rw [if_neg h2]
      omega
  rw [if_neg h1]
  by_cases h2 : w = 2 ∧ j = c + 1
  · rw [if_pos h2]
    obtain ⟨h2, rfl⟩ := h2
    rw [if_neg, hov, if_neg (by omega), if_pos ⟨h2, rfl⟩]
    rw [kc1 h2, Nat.add_sub_cancel, kc, if_pos h2]
    omega
  rw [if_neg h2, kf j h1 h2]
  by_cases h3 : j + 1 = c ∧ kd (f c) = 2
  · rw [if_pos h3]
    have hl := hf.rightHalf (j := c) (by omega) h3.2
    have e : c - 1 = j := by omega
    rw [e] at hl
    rw [if_pos]
    left
    refine ⟨hl.2.2, ?_⟩
    rw [h3.1, kc]
    split <;> omega
  rw [if_neg h3]
  by_cases h4 : j = c + w ∧ kd (f (c + w - 1)) = 1
  · rw [if_pos h4]
    have hl := hf.left (j := c + w - 1) (by omega) h4.2
    have e : c + w - 1 + 1 = j := by omega
    rw [e] at hl
    rw [if_pos]
    right
    refine ⟨hl.2.2.1, ?_⟩
    rintro ⟨_, h5⟩
    by_cases hw : w = 2
    · rw [show j - 1 = c + 1 by omega, kc1 hw] at h5
      omega
    · rw [show j - 1 = c by omega, kc, if_neg hw] at h5
      omega
  rw [if_neg h4, if_neg]
  rintro (⟨a, b⟩ | ⟨a, b⟩)
  · have hl := hf.left hj a
    apply b
    refine ⟨hl.2.1, ?_⟩
    have n1 : j + 1 ≠ c := fun e => h3 ⟨e, by rw [← e]; exact hl.2.2.1⟩
    have n2 : ¬ (w = 2 ∧ j + 1 = c + 1) := fun e => h1 (by omega)
    rw [kf _ n1 n2]
    exact hl.2.2.1
  · have hl := hf.rightHalf hj a
    apply b
    refine ⟨hl.2.1, ?_⟩
    have n1 : j - 1 ≠ c := fun e => by
      by_cases hw : w = 2
      · exact h2 ⟨hw, by omega⟩
      · exact h4 ⟨by omega, by rw [show c + w - 1 = j - 1 by omega]; exact hl.2.2⟩
    have n2 : ¬ (w = 2 ∧ j - 1 = c + 1) := fun e => h4 ⟨by omega, by rw [show c + w - 1 = j - 1 by omega]; exact hl.2.2⟩
    rw [kf _ n1 n2]
    exact hl.2.2
theorem putCells_width {x : Int} {p : Pn} {w : Nat} (hw : C.width x = (w : Int)) (h1 : 1 ≤ w) (h2 : w ≤ 2) : (putCells x p).length = w ∧ ∀ k, k < w → (putCells x p)[k]? = some (if k = 0 then (x, if w = 2 then 1 else 0, p) else (0, 2, p)) := by
  unfold putCells
  rw [hw]
  obtain rfl | rfl : w = 1 ∨ w = 2 := by omega
  · refine ⟨rfl, fun k hk => ?_⟩
    obtain rfl : k = 0 := by omega
    rfl
  · refine ⟨rfl, fun k hk => ?_⟩
    obtain rfl | rfl : k = 0 ∨ k = 1 := by omega
    · rfl
    · rfl
theorem put_cells {g : Gr} (h : RightG g) {r c : Nat} {x : Int} {p : Pn} (hr : r < g.rows) (h1 : 1 ≤ C.width x) (hc : c + (C.width x).toNat ≤ g.cols) :
    spl (spl (cells g) (r * g.cols + c) (putCells x p)) (r * g.cols) (mendL (((spl (cells g) (r * g.cols + c) (putCells x p)).drop (r * g.cols)).take g.cols)) = cells (putG g r c x p) := by
  have hb := width_bd x
  obtain ⟨w, hw, hw1, hw2⟩ : ∃ w : Nat, C.width x = (w : Int) ∧ 1 ≤ w ∧ w ≤ 2 := ⟨(C.width x).toNat, by omega, by omega, by omega⟩
  have hwn : (C.width x).toNat = w := by omega
  rw [hwn] at hc
  obtain ⟨pl, pa⟩ := putCells_width (p := p) hw hw1 hw2
  have hle : r * g.cols + g.cols ≤ g.rows * g.cols := by rw [← Nat.succ_mul]; exact Nat.mul_le_mul_right _ hr
  have hl : r * g.cols + c + (putCells x p).length ≤ (cells g).length := by rw [cells_len, pl]; omega
  have e1 : spl (cells g) (r * g.cols + c) (putCells x p) = cells ⟨g.rows, g.cols, fun i j => if i = r then over (g.f r) c x p w j else g.f i j⟩ := by
    refine cells_of (g := ⟨g.rows, g.cols, fun i j => if i = r then over (g.f r) c x p w j else g.f i j⟩) (by rw [spl_len hl, cells_len]) fun i j hi hj => ?_
    have hi : i < g.rows := hi
    have hj : j < g.cols := hj
    show (spl (cells g) (r * g.cols + c) (putCells x p))[i * g.cols + j]? = some (if i = r then over (g.f r) c x p w j else g.f i j)
    rw [spl_get hl, pl]
    by_cases e : i = r
    · subst e
      rw [if_pos rfl]
      unfold over
      by_cases h3 : c ≤ j ∧ j < c + w
      · rw [if_pos ⟨by omega, by omega⟩, show i * g.cols + j - (i * g.cols + c) = j - c by omega, pa _ (by omega)]
        by_cases h4 : j = c
        · rw [if_pos (by omega), if_pos h4]
        · rw [if_neg (by omega), if_neg h4, if_pos (by omega)]
      · rw [if_neg (by omega), if_neg (by omega), if_neg (by omega), cells_at g hi hj]
    · rw [if_neg e, if_neg, cells_at g hi hj]
      rintro ⟨h3, h4⟩
      rcases Nat.lt_or_gt_of_ne e with h | h
      · have := Nat.mul_le_mul_right g.cols h
        rw [Nat.succ_mul] at this
        omega
      · have := Nat.mul_le_mul_right g.cols h
        rw [Nat.succ_mul] at this
        omega
  rw [e1]
  have e2 := row_cut (g := ⟨g.rows, g.cols, fun i j => if i = r then over (g.f r) c x p w j else g.f i j⟩) (r := r) hr
  simp only [if_true] at e2
  rw [e2, mendL_range]
  have e3 := spl_cells (g := ⟨g.rows, g.cols, fun i j => if i = r then over (g.f r) c x p w j else g.f i j⟩) (r := r) (m := (List.range g.cols).map (mend (over (g.f r) c x p w) g.cols)) (h := mend (over (g.f r) c x p w) g.cols) hr (by simp) (fun j hj => range_at hj)
  rw [e3]
  refine cells_ext ⟨(put_size g r c x p).1.symm, (put_size g r c x p).2.symm, fun i j hi hj => ?_⟩
  have hi : i < g.rows := hi
  have hj : j < g.cols := hj
  unfold putG
  rw [if_pos ⟨hr, h1, by rw [hwn]; exact hc⟩, hwn]
  show (if i = r then mend (over (g.f r) c x p w) g.cols j else if i = r then over (g.f r) c x p w j else g.f i j) = if i = r then putRow (g.f r) c x p w j else g.f i j
  by_cases e : i = r
  · rw [if_pos e, if_pos e]
    exact over_put (h.2.2.2.2 r hr) hw1 hw2 hc hj
  · rw [if_neg e, if_neg e, if_neg e]
/-! Resize -/
/-- a row of the other grid over a row of blanks -/
def under (g : Gr) (i j : Nat) : Cl := if i < g.rows ∧ j < g.cols then g.f i j else blank plain
/-- the first k rows done -/
def halfR (g : Gr) (R K k : Nat) : Gr := ⟨R, K, fun i j => if i < k then mend (under g i) K j else blank plain⟩
theorem halfR_zero (g : Gr) (R K : Nat) : cells (halfR g R K 0) = List.replicate (R * K) (blank plain) := by
  rw [new_cells]
  exact cells_ext ⟨rfl, rfl, fun i j _ _ => by show (if i < 0 then mend (under g i) K j else blank plain) = blank plain; rw [if_neg (by omega)]⟩
theorem halfR_all (g : Gr) (R K : Nat) : cells (halfR g R K R) = cells (resizeG g R K) := cells_ext ⟨rfl, rfl, fun i j hi hj => if_pos (show i < R from hi)⟩
/-- what is taken over of row k -/
def taken (g : Gr) (K k : Nat) : List Cl := if k < g.rows then ((List.range g.cols).map (g.f k)).take (min g.cols K) else []
theorem taken_len {g : Gr} {K k : Nat} : (taken g K k).length = if k < g.rows then min g.cols K else 0 := by
  unfold taken
  split
  · rw [List.length_take, List.length_map, List.length_range]; omega
  · rfl
theorem resize_round {g : Gr} {R K k : Nat} (hk : k < R) : spl (cells (halfR g R K k)) (k * K) (taken g K k) = cells ⟨R, K, fun i j => if i = k then under g k j else (halfR g R K k).f i j⟩ ∧
    ((spl (cells (halfR g R K k)) (k * K) (taken g K k)).drop (k * K)).take K = (List.range K).map (under g k) ∧
    spl (spl (cells (halfR g R K k)) (k * K) (taken g K k)) (k * K) (mendL ((List.range K).map (under g k))) = cells (halfR g R K (k + 1)) := by
  have hle : k * K + K ≤ R * K := by rw [← Nat.succ_mul]; exact Nat.mul_le_mul_right _ hk
  have htl : (taken g K k).length ≤ K := by rw [taken_len]; split <;> omega
  have hcl : (cells (halfR g R K k)).length = R * K := cells_len _
  have hl : k * K + (taken g K k).length ≤ (cells (halfR g R K k)).length := by rw [hcl]; omega
  have e1 : spl (cells (halfR g R K k)) (k * K) (taken g K k) = cells ⟨R, K, fun i j => if i = k then under g k j else (halfR g R K k).f i j⟩ := by
    refine cells_of (g := ⟨R, K, fun i j => if i = k then under g k j else (halfR g R K k).f i j⟩) (by rw [spl_len hl, hcl]) fun i j hi hj => ?_
    have hi : i < R := hi
    have hj : j < K := hj
    show (spl (cells (halfR g R K k)) (k * K) (taken g K k))[i * K + j]? = some (if i = k then under g k j else (halfR g R K k).f i j)
    rw [spl_get hl]
    have hat : (cells (halfR g R K k))[i * K + j]? = some ((halfR g R K k).f i j) := cells_at (halfR g R K k) hi hj
    by_cases e : i = k
    · subst e
      rw [if_pos rfl]
      by_cases h3 : i < g.rows ∧ j < g.cols
      · have : (taken g K i).length = min g.cols K := by rw [taken_len, if_pos h3.1]
        rw [if_pos (by omega), Nat.add_sub_cancel_left]
        unfold taken under
        rw [if_pos h3.1, if_pos h3, List.getElem?_take_of_lt (by omega), range_at h3.2]
      · have : ¬ j < (taken g K i).length := by
          rw [taken_len]
          split
          · omega
          · omega
        rw [if_neg (by omega), hat]
        unfold under halfR
        rw [if_neg h3]
        exact congrArg some (if_neg (Nat.lt_irrefl i))
    · rw [if_neg e, if_neg, hat]
      rintro ⟨h3, h4⟩
      rcases Nat.lt_or_gt_of_ne e with h | h
      · have := Nat.mul_le_mul_right K h
        rw [Nat.succ_mul] at this
        omega
      · have := Nat.mul_le_mul_right K h
        rw [Nat.succ_mul] at this
        omega
  have e2 : ((spl (cells (halfR g R K k)) (k * K) (taken g K k)).drop (k * K)).take K = (List.range K).map (under g k) := by
    rw [e1]
    have := row_cut (g := ⟨R, K, fun i j => if i = k then under g k j else (halfR g R K k).f i j⟩) (r := k) hk
    simp only [if_true] at this
    exact this
  refine ⟨e1, e2, ?_⟩
  rw [e1, mendL_range]
  have e3 := spl_cells (g := ⟨R, K, fun i j => if i = k then under g k j else (halfR g R K k).f i j⟩) (r := k) (m := (List.range K).map (mend (under g k) K)) (h := mend (under g k) K) hk (by simp) (fun j hj => range_at hj)
  rw [e3]
  refine cells_ext ⟨rfl, rfl, fun i j hi hj => ?_⟩
  show (if i = k then mend (under g k) K j else if i = k then under g k j else if i < k then mend (under g i) K j else blank plain) = if i < k + 1 then mend (under g i) K j else blank plain
  by_cases e : i = k
  · subst e
    rw [if_pos rfl, if_pos (by omega)]
  · rw [if_neg e, if_neg e]
    by_cases h : i < k
    · rw [if_pos h, if_pos (by omega)]
    · rw [if_neg h, if_neg (by omega)]
end Go.Proofs.YtdcdinlppjlmfaaDoor.PG
set_option maxRecDepth 100000
namespace Go.Proofs.YtdcdinlppjlmfaaDoor
open Go.RowKit
set_option linter.unusedVariables false
end Go.Proofs.YtdcdinlppjlmfaaDoor
set_option maxRecDepth 100000
namespace Go.Proofs.YtdcdinlppjlmfaaDoor
open Go.RowKit
set_option linter.unusedVariables false
theorem str_app (l m : List Int) : strOfNums l ++ strOfNums m = strOfNums (l ++ m) := by
  apply ByteArray.ext
  simp [strOfNums, ByteArray.data_append]
theorem str_size (l : List Int) : (strOfNums l).size = l.length := by simp [strOfNums, ByteArray.size]
theorem isR_iff {r : Int} : U.isR r = true ↔ 0 ≤ r ∧ r ≤ 1114111 ∧ (r < 55296 ∨ 57343 < r) := by unfold U.isR; exact decide_eq_true_iff
theorem encode_rune {r : Int} (h : U.isR r = true) : Utf8.encode r = strOfNums (U.en r) := by
  have h' := isR_iff.1 h
  obtain ⟨n, rfl⟩ := Int.eq_ofNat_of_zero_le (show 0 ≤ r by omega)
  have hv : Utf8.valid (n : Int) = true := by
    unfold Utf8.valid
    simp
    omega
  unfold Utf8.encode U.en U.tl
  simp only [hv, if_true, Int.toNat_natCast]
  by_cases h1 : n < 128
  · rw [if_pos h1, if_pos (show (n : Int) < 128 by omega)]
    simp [strOfNums]
  rw [if_neg h1, if_neg (show ¬ (n : Int) < 128 by omega)]
  by_cases h2 : n < 2048
  · rw [if_pos h2, if_pos (show (n : Int) < 2048 by omega)]
    simp only [strOfNums, List.map_cons, List.map_nil]
    rw [show (192 + (n : Int) / 64).toNat = 192 + n / 64 by omega, show (128 + (n : Int) % 64).toNat = 128 + n % 64 by omega]
  rw [if_neg h2, if_neg (show ¬ (n : Int) < 2048 by omega)]
  by_cases h3 : n < 65536
  · rw [if_pos h3, if_pos (show (n : Int) < 65536 by omega)]
    simp only [strOfNums, List.map_cons, List.map_nil]
    rw [show (224 + (n : Int) / 4096).toNat = 224 + n / 4096 by omega, show (128 + (n : Int) / 64 % 64).toNat = 128 + n / 64 % 64 by omega, show (128 + (n : Int) % 64).toNat = 128 + n % 64 by omega]
  rw [if_neg h3, if_neg (show ¬ (n : Int) < 65536 by omega)]
  simp only [strOfNums, List.map_cons, List.map_nil]
  rw [show (240 + (n : Int) / 262144).toNat = 240 + n / 262144 by omega, show (128 + (n : Int) / 4096 % 64).toNat = 128 + n / 4096 % 64 by omega, show (128 + (n : Int) / 64 % 64).toNat = 128 + n / 64 % 64 by omega, show (128 + (n : Int) % 64).toNat = 128 + n % 64 by omega]
theorem runes_fold : ∀ (rs : List Int), (∀ r ∈ rs, U.isR r = true) → ∀ l : List Int, rs.foldl (fun s n => s ++ Utf8.encode n) (strOfNums l) = strOfNums (l ++ U.enc rs)
  | [], _, l => by simp [U.enc]
  | r :: rs, h, l => by
    rw [List.foldl_cons, encode_rune (h r (by simp)), str_app, runes_fold rs (fun x hx => h x (by simp [hx]))]
    have e : U.en1 r = U.en r := by simp [U.en1, h r (by simp)]
    simp [U.enc, e]
theorem runes_str {rs : List Int} (h : ∀ r ∈ rs, U.isR r = true) : runesBytes rs = strOfNums (U.enc rs) := by
  have := runes_fold rs h []
  unfold runesBytes
  exact this
/-- 'string(runes)' of a slice that reads as right runes -/
theorem conv_runes {w : World} {B n c : Nat} {A : Option Addr} {rs : List Int} (h : Seen w B A n (i32s rs)) (hr : ∀ r ∈ rs, U.isR r = true) : (convert 78 9 (.slice A n c)).run Tryd.prog w = .ok (.string (strOfNums (U.enc rs))) w := by
  have hl : rs.length = n := by simpa [i32s] using h.1
  rcases A with _ | ad
  · have : rs = [] := by
      rcases rs with _ | ⟨x, l⟩
      · rfl
      · obtain ⟨ad, h0, _⟩ := h.2 0 _ rfl
        cases h0
    subst this
    rw [run_convert_runes_nil w _ _ _ _ _ Tryd.underlying78 Tryd.underlying21 Tryd.underlying9]
    rfl
  · rw [run_convert_runes w _ _ _ ad n c rs (by omega) Tryd.underlying78 Tryd.underlying21 Tryd.underlying9 (fun j hj => by
      obtain ⟨ad', h1, _, h3⟩ := h.2 j (.int .i32 rs[j]) (by rw [i32s, List.getElem?_map, List.getElem?_eq_getElem hj]; rfl)
      injection h1 with h1
      subst h1
      rw [h3, List.getD_eq_getElem?_getD, List.getElem?_eq_getElem hj]
      rfl), List.take_of_length_le (by omega), runes_str hr]
/-! a range over such a string -/
theorem str_get {l : List Int} {i : Nat} {x : Int} (h : l[i]? = some x) : ((strOfNums l).get! i).toNat = x.toNat % 256 := by
  have hi : i < l.length := (List.getElem?_eq_some_iff.1 h).1
  have hx : l[i] = x := by rw [List.getElem?_eq_getElem hi] at h; exact Option.some.inj h
  have hs : i < (strOfNums l).data.size := by simpa [strOfNums] using hi
  show ((strOfNums l).data[i]!).toNat = _
  rw [getElem!_pos (strOfNums l).data i hs]
  simp [strOfNums, hx]
theorem en_pos (r : Int) : 1 ≤ (U.en r).length := by
  unfold U.en
  split; · simp
  split; · simp
  split <;> simp
set_option maxHeartbeats 1000000 in
theorem decode_en {pre post : List Int} {r : Int} (h : U.isR r = true) : Utf8.decode (strOfNums (pre ++ (U.en r ++ post))) pre.length = (r.toNat, (U.en r).length) := by
  have h' := isR_iff.1 h
  obtain ⟨n, rfl⟩ := Int.eq_ofNat_of_zero_le (show 0 ≤ r by omega)
  have at_ : ∀ k x, (U.en (n : Int))[k]? = some x → ((strOfNums (pre ++ (U.en (n : Int) ++ post))).get! (pre.length + k)).toNat = x.toNat % 256 := fun k x hk => by
    refine str_get ?_
    rw [List.getElem?_append_right (by omega), Nat.add_sub_cancel_left]
    have hk' : k < (U.en (n : Int)).length := (List.getElem?_eq_some_iff.1 hk).1
    rw [List.getElem?_append_left hk']
    exact hk
  have sz : (strOfNums (pre ++ (U.en (n : Int) ++ post))).size = pre.length + ((U.en (n : Int)).length + post.length) := by rw [str_size]; simp
  generalize hS : strOfNums (pre ++ (U.en (n : Int) ++ post)) = S at at_ sz ⊢
  clear hS
  unfold U.en U.tl at at_ sz ⊢
  have hv : Utf8.valid n = true := by
    unfold Utf8.valid
    simp
    omega
  by_cases h1 : n < 128
  · rw [if_pos (show (n : Int) < 128 by omega)] at at_ sz ⊢
    have a0 := at_ 0 _ rfl
    have e0 : (n : Int).toNat % 256 = n := by omega
    rw [e0] at a0
    simp only [Utf8.decode, a0, h1, if_true, Int.toNat_natCast, List.length_singleton]
  by_cases h2 : n < 2048
  · rw [if_neg (show ¬ (n : Int) < 128 by omega), if_pos (show (n : Int) < 2048 by omega)] at at_ sz ⊢
    have a0 := at_ 0 _ rfl
    have a1 := at_ 1 _ rfl
    have e0 : (192 + (n : Int) / 64).toNat % 256 = 192 + n / 64 := by omega
    have e1 : (128 + (n : Int) % 64).toNat % 256 = 128 + n % 64 := by omega
    rw [e0] at a0
    rw [e1] at a1
    simp only [List.length_cons, List.length_nil] at sz
    simp only [Utf8.decode, a0, a1, Int.toNat_natCast]
    have c1 : pre.length + 1 < S.size := by omega
    have q1 : (128 + n % 64) / 64 = 2 := by omega
    have q0 : (192 + n / 64) / 32 = 6 := by omega
    rw [if_neg (show ¬ 192 + n / 64 < 128 by omega)]
    simp only [c1, q1, q0]
    have hc : (192 + n / 64) % 32 * 64 + (128 + n % 64) % 64 = n := by omega
    rw [hc]
    have hn : n ≥ 128 := by omega
    simp [hn]
  by_cases h3 : n < 65536
  · rw [if_neg (show ¬ (n : Int) < 128 by omega), if_neg (show ¬ (n : Int) < 2048 by omega), if_pos (show (n : Int) < 65536 by omega)] at at_ sz ⊢
    have a0 := at_ 0 _ rfl
    have a1 := at_ 1 _ rfl
    have a2 := at_ 2 _ rfl
    have e0 : (224 + (n : Int) / 4096).toNat % 256 = 224 + n / 4096 := by omega
    have e1 : (128 + (n : Int) / 64 % 64).toNat % 256 = 128 + n / 64 % 64 := by omega
    have e2 : (128 + (n : Int) % 64).toNat % 256 = 128 + n % 64 := by omega
    rw [e0] at a0
    rw [e1] at a1
    rw [e2] at a2
    simp only [List.length_cons, List.length_nil] at sz
    simp only [Utf8.decode, a0, a1, a2, Int.toNat_natCast]
    have c1 : pre.length + 1 < S.size := by omega
    have c2 : pre.length + 2 < S.size := by omega
    have q1 : (128 + n / 64 % 64) / 64 = 2 := by omega
    have q2 : (128 + n % 64) / 64 = 2 := by omega
    have q0 : (224 + n / 4096) / 16 = 14 := by omega
    have q5 : (224 + n / 4096) / 32 = 7 := by omega
    rw [if_neg (show ¬ 224 + n / 4096 < 128 by omega)]
    simp only [c1, c2, q1, q2, q0, q5]
    have hc : (224 + n / 4096) % 16 * 4096 + (128 + n / 64 % 64) % 64 * 64 + (128 + n % 64) % 64 = n := by omega
    rw [hc]
    have hn : n ≥ 2048 := by omega
    simp [hn, hv]
  · rw [if_neg (show ¬ (n : Int) < 128 by omega), if_neg (show ¬ (n : Int) < 2048 by omega), if_neg (show ¬ (n : Int) < 65536 by omega)] at at_ sz ⊢
    have a0 := at_ 0 _ rfl
    have a1 := at_ 1 _ rfl
    have a2 := at_ 2 _ rfl
    have a3 := at_ 3 _ rfl
    have e0 : (240 + (n : Int) / 262144).toNat % 256 = 240 + n / 262144 := by omega
    have e1 : (128 + (n : Int) / 4096 % 64).toNat % 256 = 128 + n / 4096 % 64 := by omega
    have e2 : (128 + (n : Int) / 64 % 64).toNat % 256 = 128 + n / 64 % 64 := by omega
    have e3 : (128 + (n : Int) % 64).toNat % 256 = 128 + n % 64 := by omega
    rw [e0] at a0
    rw [e1] at a1
    rw [e2] at a2
    rw [e3] at a3
    simp only [List.length_cons, List.length_nil] at sz
    simp only [Utf8.decode, a0, a1, a2, a3, Int.toNat_natCast]
    have c1 : pre.length + 1 < S.size := by omega
    have c2 : pre.length + 2 < S.size := by omega
    have c3 : pre.length + 3 < S.size := by omega
    have q1 : (128 + n / 4096 % 64) / 64 = 2 := by omega
    have q2 : (128 + n / 64 % 64) / 64 = 2 := by omega
    have q3 : (128 + n % 64) / 64 = 2 := by omega
    have q0 : (240 + n / 262144) / 8 = 30 := by omega
    have q5 : (240 + n / 262144) / 32 = 7 := by omega
    have q4 : (240 + n / 262144) / 16 = 15 := by omega
    rw [if_neg (show ¬ 240 + n / 262144 < 128 by omega)]
    simp only [c1, c2, c3, q1, q2, q3, q0, q5, q4]
    have hc : (240 + n / 262144) % 8 * 262144 + (128 + n / 4096 % 64) % 64 * 4096 + (128 + n / 64 % 64) % 64 * 64 + (128 + n % 64) % 64 = n := by omega
    rw [hc]
    have hn : n ≥ 65536 := by omega
    simp [hn, hv]
end Go.Proofs.YtdcdinlppjlmfaaDoor
set_option maxRecDepth 100000
namespace Go.Proofs.YtdcdinlppjlmfaaDoor
open Go.RowKit
set_option linter.unusedVariables false
/-- what At gives -/
def atv (c : PG.Cl) (b : Bool) : Value := .tuple #[cv c, .bool b]
theorem gat_in (G : PG.Gr) (n cp B r c : Nat) (A : Option Addr) (w : World) (hl : SeenC w B A n (PG.cells G)) (hB : B ≤ w.heap.size) (hn : n = G.rows * G.cols) (hnc : n ≤ cp) (hcp : cp ≤ maxLen) (hr : r < G.rows) (hc : c < G.cols) (g2 : G.rows ≤ 40) (g4 : G.cols ≤ 60) :
    Calls Tryd.prog 65 #[gv G.rows G.cols (.slice A n cp), .int .i64 r, .int .i64 c] w fun e w' => e = .returned (atv (G.f r c) true) ∧ Below w.heap.size w w' := by
  have g3 : 1 ≤ G.cols := by omega
  have hnn : r * G.cols + c < n := by rw [hn]; exact PG.place_lt hr hc
  obtain ⟨c0, hc0'⟩ : ∃ c0, (PG.cells G)[0]? = some c0 := ⟨_, List.getElem?_eq_getElem (by rw [PG.cells_len]; omega)⟩
  obtain ⟨ad, rfl, hadB, _⟩ := hl.at_ hc0'
  clear hc0' hnn
  have RW : ∀ (w' : World), Below w.heap.size w w' → Calls Tryd.prog 64 #[gv G.rows G.cols (.slice (some ad) n cp), .int .i64 r] w' fun e w'' => ∃ ad' c', e = .returned (.slice (some ad') G.cols c') ∧ G.cols ≤ c' ∧ SeenC w'' w.heap.size (some ad') G.cols ((List.range G.cols).map (G.f r)) ∧ Below w'.heap.size w' w'' := fun w' hb => by
    refine (row_any G.rows G.cols r n cp ad w' hn hnc hcp hr g2 g3 g4).mono ?_
    rintro e w'' ⟨⟨c', rfl, h1, h2⟩, bb⟩
    refine ⟨_, _, rfl, h1, ?_, bb⟩
    have h := (row_seen ((hl.below (hb.mono hB)).below (bb.mono (Nat.le_trans hB hb.size))) hn hr g3).more hB
    rw [PG.row_cut hr] at h
    exact h
  have RW := hide RW
  have HC := hide (PG.range_at (f := G.f r) hc)
  clear hl hn hnc hcp
  unfold atv cv
  unfold gv at *
  generalize hF : G.f r c = F at *
  clear hF
  go_enter Tryd.func65, Tryd.ntmps65
  go_wp2_with (
    go_at_call 64
    go_must (refine (RW.out _ (((Below.refl _ _).alloc (Nat.le_refl _) _).alloc (by simp) _)).mono ?_)
    rintro e w1 ⟨ad', c', rfl, hcc, hs, b1⟩
    obtain ⟨ad2, e2, hb2, d0, d1, d2, d3, d4⟩ := hs.five HC.out
    injection e2 with e2
    subst e2
    have bb := (((Below.refl w.heap.size w).alloc (Nat.le_refl _) (.cells #[.int .i64 G.rows, .int .i64 G.cols, .slice (some ad) n cp] 24)).alloc (by simp) (.cells #[.int .i32 0, .int .i64 0, .int .i64 0, .int .i64 0, .int .i64 0] 58)).trans (b1.mono (by simp; omega))
    have x1 := (Box.new (w.alloc (.cells #[.int .i64 G.rows, .int .i64 G.cols, .slice (some ad) n cp] 24)) 58 #[.int .i32 0, .int .i64 0, .int .i64 0, .int .i64 0, .int .i64 0]).below b1 (by simp)
    rw [World.size_alloc] at x1
    have q0 : w1.cell? ⟨w.heap.size + 1, 0, none⟩ = some (.int .i32 0) := x1.cell 0
    have q1 : w1.cell? ⟨w.heap.size + 1, 1, none⟩ = some (.int .i64 0) := x1.cell 1
    have q2 : w1.cell? ⟨w.heap.size + 1, 2, none⟩ = some (.int .i64 0) := x1.cell 2
    have q3 : w1.cell? ⟨w.heap.size + 1, 3, none⟩ = some (.int .i64 0) := x1.cell 3
    have q4 : w1.cell? ⟨w.heap.size + 1, 4, none⟩ = some (.int .i64 0) := x1.cell 4
    have f0 := x1.frozen 0
    have f1 := x1.frozen 1
    have f2 := x1.frozen 2
    have f3 := x1.frozen 3
    have f4 := x1.frozen 4
    have x1 := hide x1
    clear hs b1 RW)
  have X := ((((x1.out.set 0 (.int .i32 (PG.rn F))).set 1 (.int .i64 (PG.kd F))).set 2 (.int .i64 (PG.pn F).1)).set 3 (.int .i64 (PG.pn F).2.1)).set 4 (.int .i64 (PG.pn F).2.2)
  have j0 := X.cell 0
  have j1 := X.cell 1
  have j2 := X.cell 2
  have j3 := X.cell 3
  have j4 := X.cell 4
  refine bodyPost_ret (v := .tuple #[.agg #[.int .i32 (PG.rn F), .int .i64 (PG.kd F), .int .i64 (PG.pn F).1, .int .i64 (PG.pn F).2.1, .int .i64 (PG.pn F).2.2], .bool true]) (by simp [results, Tryd.results65, go_sem, j0, j1, j2, j3, j4]) rfl ⟨rfl, ?_⟩
  exact ((((bb.setCell (by simp) _).setCell (by simp) _).setCell (by simp) _).setCell (by simp) _).setCell (by simp) _
/-- the row, whatever is known of it: its length -/
theorem row_len (R K n cp : Nat) (r : Int) (ad : Addr) (hn : n = R * K) (hnc : n ≤ cp) (hcp : cp ≤ maxLen) (h1 : 1 ≤ R) (hR : R ≤ 40) (h0 : 1 ≤ K) (hK : K ≤ 60) :
    ∃ k : Nat, ((k = 0 ∧ (r < 0 ∨ (R : Int) ≤ r)) ∨ (k = K ∧ 0 ≤ r ∧ r < R)) ∧ ∀ w' : World, Calls Tryd.prog 64 #[gv R K (.slice (some ad) n cp), .int .i64 r] w' fun e w'' => (∃ U c', e = .returned (.slice U k c') ∧ k ≤ c' ∧ c' ≤ maxLen) ∧ Below w'.heap.size w' w'' := by
  by_cases hr : 0 ≤ r ∧ r < R
  · obtain ⟨q, rfl⟩ := Int.eq_ofNat_of_zero_le hr.1
    refine ⟨K, .inr ⟨rfl, hr⟩, fun w' => (row_any R K q n cp ad w' hn hnc hcp (by omega) hR h0 hK).mono ?_⟩
    rintro e w'' ⟨⟨c', he, h1, h2⟩, hb⟩
    exact ⟨⟨_, c', he, h1, h2⟩, hb⟩
  · refine ⟨0, .inl ⟨rfl, by omega⟩, fun w' => (row_out R K n cp r _ w' hn h1 (by omega) hR h0 hK).mono ?_⟩
    rintro e w'' ⟨he, hb⟩
    exact ⟨⟨none, 0, he, Nat.le_refl _, Nat.zero_le _⟩, hb⟩
theorem gat_out (R K n cp : Nat) (r c : Int) (ad : Addr) (w : World) (hn : n = R * K) (hnc : n ≤ cp) (hcp : cp ≤ maxLen) (h1 : 1 ≤ R) (hR : R ≤ 40) (h0 : 1 ≤ K) (hK : K ≤ 60) (ho : r < 0 ∨ (R : Int) ≤ r ∨ c < 0 ∨ (K : Int) ≤ c) :
    Calls Tryd.prog 65 #[gv R K (.slice (some ad) n cp), .int .i64 r, .int .i64 c] w fun e w' => e = .returned (atv PG.none false) ∧ Below w.heap.size w w' := by
  obtain ⟨k, hk, RW⟩ := row_len R K n cp r ad hn hnc hcp h1 hR h0 hK
  have RW := hide RW
  have hcs : c < 0 ∨ (0 ≤ c ∧ (k : Int) ≤ c) := by omega
  have hk60 : k ≤ 60 := by omega
  clear hn hnc hcp hk ho
  show Calls Tryd.prog 65 #[gv R K (.slice (some ad) n cp), .int .i64 r, .int .i64 c] w fun e w' => e = .returned (.tuple #[.agg #[.int .i32 0, .int .i64 0, .int .i64 0, .int .i64 0, .int .i64 0], .bool false]) ∧ Below w.heap.size w w'
  unfold gv at *
  have arm : ∀ w1 : World, Below ((w.alloc (.cells #[.int .i64 R, .int .i64 K, .slice (some ad) n cp] 24)).alloc (.cells #[.int .i32 0, .int .i64 0, .int .i64 0, .int .i64 0, .int .i64 0] 58)).heap.size ((w.alloc (.cells #[.int .i64 R, .int .i64 K, .slice (some ad) n cp] 24)).alloc (.cells #[.int .i32 0, .int .i64 0, .int .i64 0, .int .i64 0, .int .i64 0] 58)) w1 →
      Below w.heap.size w w1 ∧ Box w1 (w.heap.size + 1) 58 #[.int .i32 0, .int .i64 0, .int .i64 0, .int .i64 0, .int .i64 0] := fun w1 b1 => by
    refine ⟨(((Below.refl w.heap.size w).alloc (Nat.le_refl _) (.cells #[.int .i64 R, .int .i64 K, .slice (some ad) n cp] 24)).alloc (by simp) (.cells #[.int .i32 0, .int .i64 0, .int .i64 0, .int .i64 0, .int .i64 0] 58)).trans (b1.mono (by simp; omega)), ?_⟩
    have x1 := (Box.new (w.alloc (.cells #[.int .i64 R, .int .i64 K, .slice (some ad) n cp] 24)) 58 #[.int .i32 0, .int .i64 0, .int .i64 0, .int .i64 0, .int .i64 0]).below b1 (by simp)
    rw [World.size_alloc] at x1
    exact x1
  have arm := hide arm
  rcases hcs with hc | ⟨hc, hc'⟩
  all_goals
    go_enter Tryd.func65, Tryd.ntmps65
    go_wp2_with (
      go_at_call 64
      go_must (refine (RW.out _).mono ?_)
      rintro e w1 ⟨⟨U, c', rfl, hc1, hc2⟩, b1⟩
      obtain ⟨bb, x1⟩ := arm.out _ b1
      have q0 : w1.cell? ⟨w.heap.size + 1, 0, none⟩ = some (.int .i32 0) := x1.cell 0
      have q1 : w1.cell? ⟨w.heap.size + 1, 1, none⟩ = some (.int .i64 0) := x1.cell 1
      have q2 : w1.cell? ⟨w.heap.size + 1, 2, none⟩ = some (.int .i64 0) := x1.cell 2
      have q3 : w1.cell? ⟨w.heap.size + 1, 3, none⟩ = some (.int .i64 0) := x1.cell 3
      have q4 : w1.cell? ⟨w.heap.size + 1, 4, none⟩ = some (.int .i64 0) := x1.cell 4
      have f0 := x1.frozen 0
      have f1 := x1.frozen 1
      have f2 := x1.frozen 2
      have f3 := x1.frozen 3
      have f4 := x1.frozen 4
      have x1 := hide x1
      clear b1 RW arm)
    have X := ((((x1.out.set 0 (.int .i32 0)).set 1 (.int .i64 0)).set 2 (.int .i64 0)).set 3 (.int .i64 0)).set 4 (.int .i64 0)
    have j0 := X.cell 0
    have j1 := X.cell 1
    have j2 := X.cell 2
    have j3 := X.cell 3
    have j4 := X.cell 4
    refine bodyPost_ret (v := .tuple #[.agg #[.int .i32 0, .int .i64 0, .int .i64 0, .int .i64 0, .int .i64 0], .bool false]) (by simp [results, Tryd.results65, go_sem, j0, j1, j2, j3, j4]) rfl ⟨rfl, ?_⟩
    exact ((((bb.setCell (by simp) _).setCell (by simp) _).setCell (by simp) _).setCell (by simp) _).setCell (by simp) _
end Go.Proofs.YtdcdinlppjlmfaaDoor
set_option maxRecDepth 100000
namespace Go.Proofs.YtdcdinlppjlmfaaDoor
open Go.RowKit
set_option linter.unusedVariables false
theorem runes_step (f : Nat → PG.Cl) (k : Nat) : (PG.kd (f k) = 2 → PG.runes f (k + 1) = PG.runes f k) ∧ (PG.kd (f k) ≠ 2 → PG.runes f (k + 1) = PG.runes f k ++ [PG.rn (f k)]) := by
  rw [PG.runes_succ]
  exact ⟨fun h => by rw [if_neg (by omega), List.append_nil], fun h => by rw [if_pos h]⟩
end Go.Proofs.YtdcdinlppjlmfaaDoor
set_option maxRecDepth 100000
namespace Go.Proofs.YtdcdinlppjlmfaaDoor
open Go.RowKit
set_option linter.unusedVariables false
set_option maxHeartbeats 4000000 in
theorem rightKind_any (f : Nat → PG.Cl) (n c B k : Nat) (A : Option Addr) (w : World) (hf : PG.RightRow f n) (hl : SeenC w B A n ((List.range n).map f)) (hB : B ≤ w.heap.size) (hn : n ≤ 60) (hk : k < n) (hx : ∀ j, j < n → -2147483648 ≤ PG.rn (f j) ∧ PG.rn (f j) ≤ 2147483647) (hs : Spans w) :
    Calls Tryd.prog 82 #[.slice A n c, .int .i64 k] w fun e w' => e = .returned (.bool true) ∧ Below w.heap.size w w' := by
  have hck := PG.range_at (f := f) hk
  obtain ⟨ad, rfl, hadB, d0, d1, d2, d3, d4⟩ := hl.five hck
  have hfk := (hf k hk).2
  have WD := fun w' (hs' : Spans w') v (h : C.width (PG.rn (f k)) = v) => (show Calls Tryd.prog 88 #[.int .i32 (PG.rn (f k))] w' fun e w'' => e = .returned (.int .i64 v) ∧ Below w'.heap.size w' w'' by subst h; exact width_any _ w' (hx k hk).1 (hx k hk).2 hs')
  rcases hfk with ⟨h1, h2⟩ | ⟨h1, h2, h3, h4, h5⟩ | ⟨h1, h2, h3, h4⟩
  · have W := hide (fun w' hs' => WD w' hs' 1 h2)
    rw [h1] at d1
    generalize f k = F at *
    clear WD hl hck h1 h2 hf hx
    go_enter Tryd.func82, Tryd.ntmps82
    go_wp2_with (go_at_call 88; go_must (refine (W.out _ hs).mono ?_); rintro e w1 ⟨rfl, b1⟩)
    go_ret
    exact ⟨rfl, b1⟩
  · have hcn := PG.range_at (f := f) h3
    have W := hide (fun w' hs' => WD w' hs' 2 h2)
    have L := hide hl
    have hpq : ((PG.pn (f (k + 1))).1 == (PG.pn (f k)).1 && (PG.pn (f (k + 1))).2.1 == (PG.pn (f k)).2.1 && (PG.pn (f (k + 1))).2.2 == (PG.pn (f k)).2.2) = true := by rw [h5]; simp
    have epq : ∀ w', (binOp .eql 26 (.agg #[.int .i64 (PG.pn (f (k + 1))).1, .int .i64 (PG.pn (f (k + 1))).2.1, .int .i64 (PG.pn (f (k + 1))).2.2]) (.agg #[.int .i64 (PG.pn (f k)).1, .int .i64 (PG.pn (f k)).2.1, .int .i64 (PG.pn (f k)).2.2])).run Tryd.prog w' = .ok (.bool true) w' := fun w' => by rw [eql_pen, hpq]
    have five0 := fun w' (h : InReg w w') => (hl.below (Below.mono h hB)).five hck
    have five1 := fun w' (h : InReg w w') => (hl.below (Below.mono h hB)).five hcn
    have F0 : ∀ w', InReg w w' → w'.cell? (ad.add (k * 5)) = some (.int .i32 (PG.rn (f k))) ∧ w'.cell? ⟨(ad.add (k * 5)).block, (ad.add (k * 5)).off + 2, none⟩ = some (.int .i64 (PG.pn (f k)).1) ∧ w'.cell? ⟨(ad.add (k * 5)).block, (ad.add (k * 5)).off + 3, none⟩ = some (.int .i64 (PG.pn (f k)).2.1) ∧ w'.cell? ⟨(ad.add (k * 5)).block, (ad.add (k * 5)).off + 4, none⟩ = some (.int .i64 (PG.pn (f k)).2.2) := fun w' h => by
      obtain ⟨ad', e', _, q0, q1, q2, q3, q4⟩ := five0 w' h
      injection e' with e'
      subst e'
      exact ⟨q0, q2, q3, q4⟩
    have F1 : ∀ w', InReg w w' → w'.cell? ⟨(ad.add ((k + 1) * 5)).block, (ad.add ((k + 1) * 5)).off + 2, none⟩ = some (.int .i64 (PG.pn (f (k + 1))).1) ∧ w'.cell? ⟨(ad.add ((k + 1) * 5)).block, (ad.add ((k + 1) * 5)).off + 3, none⟩ = some (.int .i64 (PG.pn (f (k + 1))).2.1) ∧ w'.cell? ⟨(ad.add ((k + 1) * 5)).block, (ad.add ((k + 1) * 5)).off + 4, none⟩ = some (.int .i64 (PG.pn (f (k + 1))).2.2) := fun w' h => by
      obtain ⟨ad', e', _, q0, q1, q2, q3, q4⟩ := five1 w' h
      injection e' with e'
      subst e'
      exact ⟨q2, q3, q4⟩
    have R0 := fun w' h => (F0 w' h).1
    have R2 := fun w' h => (F0 w' h).2.1
    have R3 := fun w' h => (F0 w' h).2.2.1
    have R4 := fun w' h => (F0 w' h).2.2.2
    have N2 := fun w' h => (F1 w' h).1
    have N3 := fun w' h => (F1 w' h).2.1
    have N4 := fun w' h => (F1 w' h).2.2
    rw [h1] at d1
    have h0 : InReg w w.drew := (InReg.refl _).drew
    have hP := Lib.hid h0
    generalize f k = F at *
    generalize f (k + 1) = F' at *
    clear WD hl hck hcn h1 h2 h4 h5 hf hx five0 five1 F0 F1 hpq d0 d2 d3 d4
    have wr1 : IntKind.i64.wrap ((k : Int) + 1) = (k : Int) + 1 := IntWalk.i64_in _ (by omega)
    have k0 : (0 : Int) ≤ (k : Int) + 1 := by omega
    have k1 : ((k : Int) + 1).toNat = k + 1 := by omega
    have k2 : (k : Int) + 1 < (n : Int) := by omega
    go_enter Tryd.func82, Tryd.ntmps82
    go_wp2_with fail
    go_region_held_law (fun w' => InReg w w')
      (first | with_reducible exact h0 | with_reducible exact hP.out)
      (first | (go_at_call 88; refine (W.out _ (hs.keep (show InReg w _ from by assumption))).mono ?_; rintro e wP ⟨rfl, bb⟩; have hP := Lib.hid (InReg.call (by assumption) bb)))
    go_wp2_with fail
    go_ret
    exact ⟨rfl, hP.out⟩
  · rw [h1] at d1
    rw [h2] at d0
    generalize f k = F at *
    clear WD hl hck h1 h2 hf hx
    go_enter Tryd.func82, Tryd.ntmps82
    go_wp2_with fail
    go_ret
    exact ⟨rfl, Below.refl _ _⟩
theorem right_below (f b g : Int) (w : World) (h : C.right f b g = true) : Calls Tryd.prog 66 #[.agg #[.int .i64 f, .int .i64 b, .int .i64 g]] w fun e w' => e = .returned (.bool true) ∧ Below w.heap.size w w' := by
  refine (right_is f b g true h w).mono ?_
  rintro e w' ⟨rfl, rfl⟩
  exact ⟨rfl, (Below.refl _ _).alloc (Nat.le_refl _) _⟩
theorem alone_right {f : Nat → PG.Cl} {n k : Nat} (hf : PG.RightRow f n) (hk : k < n) : aloneB ((List.range n).map f) k = false := by
  unfold aloneB
  rw [decide_eq_false_iff_not, PG.fnL_range hk, List.length_map, List.length_range]
  rintro (⟨a, b⟩ | ⟨a, b⟩)
  · have h := hf.left hk a
    exact b ⟨h.2.1, by rw [PG.fnL_range h.2.1]; exact h.2.2.1⟩
  · have h := hf.rightHalf hk a
    exact b ⟨h.2.1, by rw [PG.fnL_range (by omega)]; exact h.2.2⟩
set_option maxHeartbeats 2000000 in
theorem rightRow_any (f : Nat → PG.Cl) (n c B : Nat) (A : Option Addr) (w : World) (hf : PG.RightRow f n) (hl : SeenC w B A n ((List.range n).map f)) (hB : B ≤ w.heap.size) (hn : n ≤ 60) (hx : ∀ j, j < n → -2147483648 ≤ PG.rn (f j) ∧ PG.rn (f j) ≤ 2147483647) (hs : Spans w) :
    Calls Tryd.prog 63 #[.slice A n c] w fun e w' => e = .returned (.bool true) ∧ Below w.heap.size w w' := by
  have AL := hide (fun w' k (hb : Below w.heap.size w w') (hk : k < n) => alone_is _ n c B k false (alone_right hf hk) A w' (hl.below (hb.mono hB)) (by omega) hk)
  have RK := hide (fun w' k (hb : Below w.heap.size w w') (hk : k < n) => rightKind_any f n c B k A w' hf (hl.below (hb.mono hB)) (Nat.le_trans hB hb.size) hn hk hx (hs.keep hb))
  have RP := hide (fun w' k (hk : k < n) => right_below (PG.pn (f k)).1 (PG.pn (f k)).2.1 (PG.pn (f k)).2.2 w' (hf k hk).1)
  have HL := hide hl
  clear hl hf hx hs
  go_enter Tryd.func63, Tryd.ntmps63
  go_wp2_with fail
  go_loopw [6] (fun i wr => ∃ k : Nat, k ≤ n ∧ i = .int .i64 k ∧ Below w.heap.size w wr) (fun i _ => n - (intOf i).toNat)
  case atStart => exact ⟨0, Nat.zero_le _, rfl, Below.refl _ _⟩
  case round =>
    obtain ⟨k, hk, rfl, hb⟩ := hrel
    by_cases hlt : k < n
    · have hck := PG.range_at (f := f) hlt
      have HB := hide hb
      have hsz := hb.size
      have RPk := hide (fun w' => RP.out w' k hlt)
      have five := hide (fun w' (h : Below w.heap.size w w') => (HL.out.below (h.mono hB)).five hck)
      have HF := hide hck
      clear hck RP hb
      generalize f k = F at *
      go_wp2_with (first
        | (go_at_call 81
           go_must (refine (AL.out _ k HB.out hlt).mono ?_)
           rintro e w2 ⟨rfl, b2⟩
           have HB := hide (HB.out.trans (b2.mono hsz))
           have hsz := HB.out.size
           obtain ⟨ad, rfl, hadB, d0, d1, d2, d3, d4⟩ := five.out _ HB.out
           clear b2 AL)
        | (go_at_call 66
           go_must (refine (RPk.out _).mono ?_)
           rintro e w3 ⟨rfl, b3⟩
           have HB := hide (HB.out.trans (b3.mono hsz))
           have hsz := HB.out.size
           clear b3 RPk d0 d1 d2 d3 d4)
        | (go_at_call 82
           go_must (refine (RK.out _ k HB.out hlt).mono ?_)
           rintro e w4 ⟨rfl, b4⟩
           have HB := hide (HB.out.trans (b4.mono hsz))
           clear b4 RK))
      go_roundw
      case rel => exact ⟨k + 1, by omega, by go_num, HB.out⟩
      case measure => simp [intOf]; omega
    · obtain rfl : k = n := by omega
      go_wp2_with fail
      go_ret
      exact ⟨rfl, hb⟩
set_option maxHeartbeats 2000000 in
theorem gright_any (G : PG.Gr) (n cp B : Nat) (A : Option Addr) (w : World) (hG : PG.RightG G) (hl : SeenC w B A n (PG.cells G)) (hB : B ≤ w.heap.size) (hn : n = G.rows * G.cols) (hnc : n ≤ cp) (hcp : cp ≤ maxLen) (hx : ∀ r j, r < G.rows → j < G.cols → -2147483648 ≤ PG.rn (G.f r j) ∧ PG.rn (G.f r j) ≤ 2147483647) (hs : Spans w) :
    Calls Tryd.prog 31 #[gv G.rows G.cols (.slice A n cp)] w fun e w' => e = .returned (.bool true) ∧ Below w.heap.size w w' := by
  obtain ⟨g1, g2, g3, g4, g5⟩ := hG
  have hnn : 0 * G.cols + 0 < n := by rw [hn]; exact PG.place_lt g1 g3
  obtain ⟨c0, hc0'⟩ : ∃ c0, (PG.cells G)[0]? = some c0 := ⟨_, List.getElem?_eq_getElem (by rw [PG.cells_len]; omega)⟩
  obtain ⟨ad, rfl, hadB, _⟩ := hl.at_ hc0'
  clear hc0'
  have SZ := hide (fun w' => sized_any G.rows G.cols n cp (some ad) w' hn g1 g2 g3 g4)
  have RW : ∀ (w' : World) (k : Nat), Below w.heap.size w w' → k < G.rows → Calls Tryd.prog 64 #[gv G.rows G.cols (.slice (some ad) n cp), .int .i64 k] w' fun e w'' => ∃ ad' c', e = .returned (.slice (some ad') G.cols c') ∧ SeenC w'' w.heap.size (some ad') G.cols ((List.range G.cols).map (G.f k)) ∧ Below w'.heap.size w' w'' := fun w' k hb hk => by
    refine (row_any G.rows G.cols k n cp ad w' hn hnc hcp hk g2 g3 g4).mono ?_
    rintro e w'' ⟨⟨c', rfl, h1, h2⟩, bb⟩
    refine ⟨_, _, rfl, ?_, bb⟩
    have h := (row_seen ((hl.below (hb.mono hB)).below (bb.mono (Nat.le_trans hB hb.size))) hn hk g3).more hB
    rw [PG.row_cut hk] at h
    exact h
  have RW := hide RW
  have RR := hide (fun w' k c' (ad' : Addr) (hb : Below w.heap.size w w') (hk : k < G.rows) (h : SeenC w' w.heap.size (some ad') G.cols ((List.range G.cols).map (G.f k))) => rightRow_any (G.f k) G.cols c' w.heap.size (some ad') w' (g5 k hk) h hb.size g4 (fun j hj => hx k j hk hj) (hs.keep hb))
  clear hl hn hnc hcp hx hs g5 hnn
  unfold gv at *
  go_enter Tryd.func31, Tryd.ntmps31
  go_wp2_with (
    go_at_call 62
    go_must (refine (SZ.out _).mono ?_)
    rintro e w1 ⟨rfl, b1⟩
    have x0 := (Box.new w 24 #[.int .i64 G.rows, .int .i64 G.cols, .slice (some ad) n cp]).below b1 (by simp)
    have bb := ((Below.refl w.heap.size w).alloc (Nat.le_refl _) (.cells #[.int .i64 G.rows, .int .i64 G.cols, .slice (some ad) n cp] 24)).trans (b1.mono (by simp))
    obtain ⟨y0, y1, y2, _⟩ := x0.three
    clear b1 SZ)
  go_loopw [9] (fun i wr => ∃ k : Nat, k ≤ G.rows ∧ i = .int .i64 k ∧ Box wr w.heap.size 24 #[.int .i64 G.rows, .int .i64 G.cols, .slice (some ad) n cp] ∧ Below w.heap.size w wr) (fun i _ => G.rows - (intOf i).toNat)
  case atStart => exact ⟨0, Nat.zero_le _, rfl, x0, bb⟩
  case round =>
    clear x0 bb y0 y1 y2
    obtain ⟨k, hk, rfl, x0, hb⟩ := hrel
    by_cases hlt : k < G.rows
    · obtain ⟨y0, y1, y2, _⟩ := x0.three
      have HX := hide x0
      have HB := hide hb
      have hsz := hb.size
      clear hb x0
      go_wp2_with (first
        | (go_at_call 64
           go_must (refine (RW.out _ k HB.out hlt).mono ?_)
           rintro e w2 ⟨ad', c', rfl, hs2, b2⟩
           have HB := hide (HB.out.trans (b2.mono hsz))
           have hsz := HB.out.size
           have HX := hide (HX.out.below b2 HX.out.lt)
           have hs2 := hide hs2
           clear b2 RW y0 y1 y2)
        | (go_at_call 63
           go_must (refine (RR.out _ k _ _ HB.out hlt hs2.out).mono ?_)
           rintro e w3 ⟨rfl, b3⟩
           have HB := hide (HB.out.trans (b3.mono hsz))
           have HX := hide (HX.out.below b3 HX.out.lt)
           clear b3 RR hs2))
      go_roundw
      case rel => exact ⟨k + 1, by omega, by go_num, HX.out, HB.out⟩
      case measure => simp [intOf]; omega
    · obtain rfl : k = G.rows := by omega
      go_wp2_with fail
      go_ret
      exact ⟨rfl, hb⟩
end Go.Proofs.YtdcdinlppjlmfaaDoor
