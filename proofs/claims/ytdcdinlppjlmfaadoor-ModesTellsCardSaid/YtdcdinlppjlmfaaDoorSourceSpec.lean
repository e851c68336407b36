/- What an event makes of a screen, told plainly (chapter 14): print, exec, escape, the moves, csi, Do; a right screen stays right. -/
import Derived.Test.YtdcdinlppjlmfaaDoorModesSpec
import Derived.Test.YtdcdinlppjlmfaaDoorPenSpec
import Derived.Test.YtdcdinlppjlmfaaDoorCharsetSpec
set_option maxRecDepth 100000
namespace Go.Proofs.YtdcdinlppjlmfaaDoor
open Go.RowKit
set_option linter.unusedVariables false
namespace PS
theorem col_lt {n : Int} (h0 : 0 ≤ n) (h : n ≤ 255) : Col n := .inr (.inl ⟨h0, h⟩)
theorem col_no : Col (-1) := .inl rfl
theorem one_col {p : Pn} (h1 : Col p.fo) (h2 : Col p.ba) (n : Nat) : Col (one p n).fo ∧ Col (one p n).ba := by
  unfold one
  repeat' split
  all_goals (refine ⟨?_, ?_⟩ <;> (try dsimp only [plain]) <;> first | exact h1 | exact h2 | exact col_no | exact col_lt (by omega) (by omega))
theorem wide_col : ∀ (l : List Int) (c : Int), (wide l).1 = some c → Col c
  | [], c, h => by simp [wide] at h
  | [_], c, h => by simp [wide] at h
  | [a, b], c, h => by
    simp only [wide] at h
    split at h
    · rename_i hh
      simp only [Option.some.injEq] at h
      subst h
      exact col_lt (by omega) (by omega)
    · cases h
  | [a, b, d], c, h => by
    simp only [wide] at h
    split at h
    · split at h
      · simp only [Option.some.injEq] at h
        subst h
        exact col_lt (by omega) (by omega)
      · cases h
    · cases h
  | a :: b :: d :: e :: r, c, h => by
    simp only [wide] at h
    split at h
    · split at h
      · simp only [Option.some.injEq] at h
        subst h
        exact col_lt (by omega) (by omega)
      · cases h
    · repeat' (split at h)
      all_goals first | (cases h; done) | (simp only [Option.some.injEq] at h; subst h; exact .inr (.inr (by omega)))
theorem fore_col {p : Pn} (h1 : Col p.fo) (h2 : Col p.ba) {o : Option Int} (ho : ∀ c, o = some c → Col c) : Col (fore p o).fo ∧ Col (fore p o).ba := by
  cases o with
  | none => exact ⟨h1, h2⟩
  | some c => exact ⟨ho c rfl, h2⟩
theorem back_col {p : Pn} (h1 : Col p.fo) (h2 : Col p.ba) {o : Option Int} (ho : ∀ c, o = some c → Col c) : Col (back p o).fo ∧ Col (back p o).ba := by
  cases o with
  | none => exact ⟨h1, h2⟩
  | some c => exact ⟨h1, ho c rfl⟩
theorem app_col : ∀ (k : Nat) {p : Pn} (l : List Int), Col p.fo → Col p.ba → Col (app k p l).fo ∧ Col (app k p l).ba
  | _, p, [], h1, h2 => by rw [app_nil]; exact ⟨h1, h2⟩
  | 0, p, _ :: _, h1, h2 => ⟨h1, h2⟩
  | k + 1, p, x :: l, h1, h2 => by
    rw [app_cons]
    split
    · have := fore_col h1 h2 (wide_col l)
      exact app_col k _ this.1 this.2
    · split
      · have := back_col h1 h2 (wide_col l)
        exact app_col k _ this.1 this.2
      · have := one_col h1 h2 (pos x)
        exact app_col k _ this.1 this.2
theorem apply_col {p : Pn} (h1 : Col p.fo) (h2 : Col p.ba) (l : List Int) : Col (apply p l).fo ∧ Col (apply p l).ba := by
  unfold apply
  split
  · exact ⟨col_no, col_no⟩
  · exact app_col _ _ h1 h2
end PS
namespace SN
/-- SGR done to a screen's pen -/
def sgrP (p : PG.Pn) (l : List Int) : PG.Pn := ((PS.apply ⟨p.1, p.2.1, p.2.2.toNat⟩ l).fo, (PS.apply ⟨p.1, p.2.1, p.2.2.toNat⟩ l).ba, ((PS.apply ⟨p.1, p.2.1, p.2.2.toNat⟩ l).fl : Nat))
theorem col_iff {c : Int} : C.col c = true ↔ PS.Col c := by
  unfold C.col PS.Col
  simp
theorem right_sgr {p : PG.Pn} (h : PG.okPen p) (l : List Int) : PG.okPen (sgrP p l) := by
  obtain ⟨h1, h2, h3, h4⟩ := C.right_iff.1 h
  have c := PS.apply_col (p := ⟨p.1, p.2.1, p.2.2.toNat⟩) (col_iff.1 h1) (col_iff.1 h2) l
  have o := PS.apply_ok (p := ⟨p.1, p.2.1, p.2.2.toNat⟩) (show p.2.2.toNat < 256 by omega) l
  unfold PS.Ok at o
  refine C.right_iff.2 ⟨col_iff.2 c.1, col_iff.2 c.2, ?_, ?_⟩
  · show (0 : Int) ≤ ((PS.apply ⟨p.1, p.2.1, p.2.2.toNat⟩ l).fl : Nat)
    omega
  · show (((PS.apply ⟨p.1, p.2.1, p.2.2.toNat⟩ l).fl : Nat) : Int) ≤ 255
    omega
/-- the rune that is put: line drawing by the set that Shift names -/
def setNow (s : Sc) : Int := if s.sh = 0 then s.s0 else s.s1
def printX (s : Sc) (x : Int) : Int := if setNow s = 48 ∧ 95 ≤ x ∧ x ≤ 126 then CH.draw x else x
theorem printX_bd {s : Sc} {r p : Int} (h0 : 0 ≤ r) (h1 : r ≤ 1114111) (h : printX s r = p) : -2147483648 ≤ p ∧ p ≤ 2147483647 := by
  subst h
  unfold printX
  split
  · rename_i hh
    have e : ∀ k : Fin 32, -2147483648 ≤ CH.draw (95 + (k.val : Int)) ∧ CH.draw (95 + (k.val : Int)) ≤ 2147483647 := by decide
    have := e ⟨(r - 95).toNat, by omega⟩
    rw [show (95 + (((⟨(r - 95).toNat, by omega⟩ : Fin 32).val : Nat) : Int)) = r by show (95 + (((r - 95).toNat : Nat) : Int)) = r; omega] at this
    exact this
  · omega
/-- where it wraps, the cursor is in the next row -/
def wrapS (s : Sc) (w : Nat) : Sc := if s.wrap = true ∧ (s.pend = true ∨ s.g.cols < s.col + w) then feedS (s.u4 0) else s
/-- the last column in which it has room -/
def roomC (s : Sc) (w : Nat) : Nat := min s.col (s.g.cols - w)
def putS (s : Sc) (x : Int) (w : Nat) : Sc :=
  if s.g.cols ≤ roomC s w + w then ((s.uG (PG.putG s.g s.row (roomC s w) x s.pen)).u4 (s.g.cols - 1)).u5 s.wrap
  else ((s.uG (PG.putG s.g s.row (roomC s w) x s.pen)).u4 (roomC s w + w)).u5 false
def printS (s : Sc) (r : Int) : Sc := if C.width (printX s r) = 0 ∨ (s.g.cols : Int) < C.width (printX s r) then s else putS (wrapS s (C.width (printX s r)).toNat) (printX s r) (C.width (printX s r)).toNat
def execS (s : Sc) (b : Int) : Sc :=
  if b = 8 then atS s s.row ((s.col : Int) - 1)
  else if b = 9 then atS s s.row (TB.next s.tabs s.col s.g.cols)
  else if b = 10 ∨ b = 11 ∨ b = 12 then feedS s
  else if b = 13 then atS s s.row 0
  else if b = 14 then s.u14 1
  else if b = 15 then s.u14 0
  else s
def escS (s : Sc) (it fn : Int) : Sc :=
  if it = 40 ∨ it = 41 then (if fn = 48 ∨ fn = 66 then (if it = 40 then s.u12 fn else s.u13 fn) else s)
  else if it ≠ 0 then s
  else if fn = 55 then saveS s
  else if fn = 56 then restS s
  else if fn = 68 then feedS s
  else if fn = 69 then feedS (s.u4 0)
  else if fn = 77 then backS s
  else if fn = 72 then s.u11 (TB.put1 s.tabs s.col)
  else if fn = 99 then full s.g.rows s.g.cols
  else if fn = 61 then s.u19 true
  else if fn = 62 then s.u19 false
  else s
/-- a parameter: what stands for it where there is none, or none above nought -/
def argS (l : List Int) (i : Nat) (d : Int) : Int := if l.getD i 0 < 1 then d else l.getD i 0
/-- the moves: those that are one -/
def moveS (s : Sc) (fn : Int) (l : List Int) : Option Sc :=
  if fn = 65 then some (upS s (argS l 0 1).toNat)
  else if fn = 66 then some (downS s (argS l 0 1).toNat)
  else if fn = 67 then some (atS s s.row ((s.col : Int) + argS l 0 1))
  else if fn = 68 then some (atS s s.row ((s.col : Int) - argS l 0 1))
  else if fn = 69 then some (atS s (downR s (argS l 0 1).toNat) 0)
  else if fn = 70 then some (atS s (upR s (argS l 0 1).toNat) 0)
  else if fn = 71 ∨ fn = 96 then some (atS s s.row (argS l 0 1 - 1))
  else if fn = 100 then some (goS s (argS l 0 1 - 1) s.col)
  else if fn = 72 ∨ fn = 102 then some (goS s (argS l 0 1 - 1) (argS l 1 1 - 1))
  else none
/-- is the cursor within the margins? -/
def InM (s : Sc) : Prop := s.top ≤ s.row ∧ s.row ≤ s.bot
instance (s : Sc) : Decidable (InM s) := inferInstanceAs (Decidable (_ ∧ _))
def marginTop (l : List Int) : Int := argS l 0 1 - 1
def marginBot (s : Sc) (l : List Int) : Int := min (argS l 1 s.g.rows) s.g.rows - 1
def workS (s : Sc) (fn : Int) (l : List Int) : Sc :=
  if fn = 74 then (s.uG (PG.eraseI s.g s.row s.col (argS l 0 0) (fillP s))).u5 false
  else if fn = 75 then (s.uG (PG.lineI s.g s.row s.col (argS l 0 0) (fillP s))).u5 false
  else if fn = 76 then (if InM s then atS (s.uG (PG.scrollG s.g s.row s.bot (-(argS l 0 1)) (fillP s))) s.row 0 else s)
  else if fn = 77 then (if InM s then atS (s.uG (PG.scrollG s.g s.row s.bot (argS l 0 1) (fillP s))) s.row 0 else s)
  else if fn = 64 then (s.uG (PG.shiftG s.g s.row s.col (argS l 0 1) (fillP s))).u5 false
  else if fn = 80 then (s.uG (PG.shiftG s.g s.row s.col (-(argS l 0 1)) (fillP s))).u5 false
  else if fn = 88 then (s.uG (PG.wipeG s.g s.row s.col (s.col + (argS l 0 1).toNat) (fillP s))).u5 false
  else if fn = 83 then s.uG (PG.scrollG s.g s.top s.bot (argS l 0 1) (fillP s))
  else if fn = 84 then s.uG (PG.scrollG s.g s.top s.bot (-(argS l 0 1)) (fillP s))
  else if fn = 109 then s.uP (sgrP s.pen l)
  else if fn = 114 then (if marginTop l < marginBot s l then homeS ((s.u6 (marginTop l).toNat).u7 (marginBot s l).toNat) else s)
  else if fn = 103 then (if argS l 0 0 = 0 then s.u11 (TB.drop1 s.tabs s.col) else if argS l 0 0 = 3 then s.u11 0 else s)
  else if fn = 115 then saveS s
  else if fn = 117 then restS s
  else s
def modesS (s : Sc) (on : Bool) (l : List Int) : Sc := l.foldl (fun t n => modeS t n on) s
def csiS (s : Sc) (pv it fn : Int) (l : List Int) : Sc :=
  if it ≠ 0 ∨ (pv ≠ 0 ∧ pv ≠ 63) then s
  else if pv = 63 then (if fn = 104 then modesS s true l else if fn = 108 then modesS s false l else s)
  else (moveS s fn l).getD (workS s fn l)
/-- an event done: its kind, its rune, its bytes, its parameters -/
def doS (s : Sc) (kd rn pv it fn : Int) (l : List Int) : Sc :=
  if kd = 1 then printS s rn else if kd = 2 then execS s fn else if kd = 3 then escS s it fn else if kd = 4 then csiS s pv it fn l else s
-- what is right stays right
theorem right_uG {s : Sc} (h : RightS s) {G : PG.Gr} (hG : PG.RightG G) (h1 : G.rows = s.g.rows) (h2 : G.cols = s.g.cols) : RightS (s.uG G) := by
  refine ⟨hG, ?_, ?_, ?_, ?_, h.pen, h.tabs, h.set, ?_, ?_⟩
  · show s.row < G.rows
    rw [h1]; exact h.row
  · show s.col < G.cols
    rw [h2]; exact h.col
  · show s.bot < G.rows
    rw [h1]; exact h.bot
  · show s.top < s.bot ∨ (G.rows = 1 ∧ s.top = 0 ∧ s.bot = 0)
    rw [h1]; exact h.top
  · show s.pend = true → s.wrap = true ∧ s.col + 1 = G.cols
    rw [h2]; exact h.pend
  · show RightSv G.rows G.cols s.sv
    rw [h1, h2]; exact h.sv
theorem right_u5 {s : Sc} (h : RightS s) : RightS (s.u5 false) := ⟨h.g, h.row, h.col, h.bot, h.top, h.pen, h.tabs, h.set, (fun e => nomatch e), h.sv⟩
theorem right_u4 {s : Sc} (h : RightS s) {c : Nat} (hc : c < s.g.cols) : RightS ((s.u5 false).u4 c) := ⟨h.g, h.row, hc, h.bot, h.top, h.pen, h.tabs, h.set, (fun e => nomatch e), h.sv⟩
theorem right_u14 {s : Sc} (h : RightS s) {v : Int} (hv : v = 0 ∨ v = 1) : RightS (s.u14 v) := ⟨h.g, h.row, h.col, h.bot, h.top, h.pen, h.tabs, ⟨h.set.1, h.set.2.1, hv⟩, h.pend, h.sv⟩
theorem right_u11 {s : Sc} (h : RightS s) {t : Nat} (ht : TB.Ok t) : RightS (s.u11 t) := ⟨h.g, h.row, h.col, h.bot, h.top, h.pen, ht, h.set, h.pend, h.sv⟩
theorem right_u19 {s : Sc} (h : RightS s) (b : Bool) : RightS (s.u19 b) := ⟨h.g, h.row, h.col, h.bot, h.top, h.pen, h.tabs, h.set, h.pend, h.sv⟩
theorem right_uP {s : Sc} (h : RightS s) {p : PG.Pn} (hp : PG.okPen p) : RightS (s.uP p) := ⟨h.g, h.row, h.col, h.bot, h.top, hp, h.tabs, h.set, h.pend, h.sv⟩
/-- a feed in column 0, of a screen on which something may be pending -/
theorem feed_u4 (s : Sc) : feedS (s.u4 0) = feedS ((s.u5 false).u4 0) := by
  unfold feedS
  rfl
theorem right_feed0 {s : Sc} (h : RightS s) : RightS (feedS (s.u4 0)) := by
  rw [feed_u4]
  exact right_feed (right_u4 h h.g.2.2.1)
theorem feed_size (s : Sc) : (feedS s).g.rows = s.g.rows ∧ (feedS s).g.cols = s.g.cols := by
  unfold feedS
  split
  · exact PG.scroll_size s.g s.top s.bot 1 (fillP s)
  · exact ⟨rfl, rfl⟩
theorem right_wrap {s : Sc} (h : RightS s) (w : Nat) : RightS (wrapS s w) := by
  unfold wrapS
  split
  · exact right_feed0 h
  · exact h
theorem wrap_cols (s : Sc) (w : Nat) : (wrapS s w).g.cols = s.g.cols := by
  unfold wrapS
  split
  · exact (feed_size (s.u4 0)).2
  · rfl
theorem put_size (g : PG.Gr) (r c : Nat) (x : Int) (p : PG.Pn) : (PG.putG g r c x p).rows = g.rows ∧ (PG.putG g r c x p).cols = g.cols := by
  unfold PG.putG
  split <;> exact ⟨rfl, rfl⟩
theorem wipe_size (g : PG.Gr) (r a b : Nat) (p : PG.Pn) : (PG.wipeG g r a b p).rows = g.rows ∧ (PG.wipeG g r a b p).cols = g.cols := by
  unfold PG.wipeG
  split <;> exact ⟨rfl, rfl⟩
theorem right_putS {s : Sc} (h : RightS s) (x : Int) (w : Nat) : RightS (putS s x w) := by
  obtain ⟨e1, e2⟩ := put_size s.g s.row (roomC s w) x s.pen
  have hg := PG.right_putG h.g h.pen s.row (roomC s w) x
  have hc := h.g.2.2.1
  unfold putS
  split
  · refine ⟨hg, ?_, ?_, ?_, ?_, h.pen, h.tabs, h.set, ?_, ?_⟩
    · show s.row < (PG.putG s.g s.row (roomC s w) x s.pen).rows
      rw [e1]; exact h.row
    · show s.g.cols - 1 < (PG.putG s.g s.row (roomC s w) x s.pen).cols
      rw [e2]; omega
    · show s.bot < (PG.putG s.g s.row (roomC s w) x s.pen).rows
      rw [e1]; exact h.bot
    · show s.top < s.bot ∨ ((PG.putG s.g s.row (roomC s w) x s.pen).rows = 1 ∧ s.top = 0 ∧ s.bot = 0)
      rw [e1]; exact h.top
    · show s.wrap = true → s.wrap = true ∧ s.g.cols - 1 + 1 = (PG.putG s.g s.row (roomC s w) x s.pen).cols
      intro e
      rw [e2]; exact ⟨e, by omega⟩
    · show RightSv (PG.putG s.g s.row (roomC s w) x s.pen).rows (PG.putG s.g s.row (roomC s w) x s.pen).cols s.sv
      rw [e1, e2]; exact h.sv
  · refine ⟨hg, ?_, ?_, ?_, ?_, h.pen, h.tabs, h.set, (fun e => nomatch e), ?_⟩
    · show s.row < (PG.putG s.g s.row (roomC s w) x s.pen).rows
      rw [e1]; exact h.row
    · show roomC s w + w < (PG.putG s.g s.row (roomC s w) x s.pen).cols
      rw [e2]; omega
    · show s.bot < (PG.putG s.g s.row (roomC s w) x s.pen).rows
      rw [e1]; exact h.bot
    · show s.top < s.bot ∨ ((PG.putG s.g s.row (roomC s w) x s.pen).rows = 1 ∧ s.top = 0 ∧ s.bot = 0)
      rw [e1]; exact h.top
    · show RightSv (PG.putG s.g s.row (roomC s w) x s.pen).rows (PG.putG s.g s.row (roomC s w) x s.pen).cols s.sv
      rw [e1, e2]; exact h.sv
theorem right_printS {s : Sc} (h : RightS s) (r : Int) : RightS (printS s r) := by
  unfold printS
  split
  · exact h
  · exact right_putS (right_wrap h _) _ _
theorem right_execS {s : Sc} (h : RightS s) (b : Int) : RightS (execS s b) := by
  unfold execS
  split
  · exact right_at h _ _
  split
  · exact right_at h _ _
  split
  · exact right_feed h
  split
  · exact right_at h _ _
  split
  · exact right_u14 h (.inr rfl)
  split
  · exact right_u14 h (.inl rfl)
  · exact h
theorem some_ite {P : Sc → Prop} {c : Prop} [Decidable c] {a : Sc} {o : Option Sc} (h1 : P a) (h2 : ∀ t, o = some t → P t) : ∀ t, (if c then some a else o) = some t → P t := by
  intro t ht
  split at ht
  · cases ht
    exact h1
  · exact h2 t ht
theorem tabs_put1 {t c : Nat} (h : TB.Ok t) (hc : c < 60) : TB.Ok (TB.put1 t c) := by
  unfold TB.Ok TB.put1 at *
  exact Nat.or_lt_two_pow (n := 64) h (Nat.pow_lt_pow_right (by omega) (by omega))
theorem tabs_drop1 {t c : Nat} (h : TB.Ok t) : TB.Ok (TB.drop1 t c) := Nat.lt_of_le_of_lt Nat.and_le_left h
theorem right_escS {s : Sc} (h : RightS s) (it fn : Int) : RightS (escS s it fn) := by
  have hfull : RightS (full s.g.rows s.g.cols) := right_full h.g.1 h.g.2.1 h.g.2.2.1 h.g.2.2.2.1
  have hcol := h.col
  have hk := h.g.2.2.2.1
  unfold escS
  split
  · split
    · rename_i hf
      split
      · exact ⟨h.g, h.row, h.col, h.bot, h.top, h.pen, h.tabs, ⟨hf.symm, h.set.2.1, h.set.2.2⟩, h.pend, h.sv⟩
      · exact ⟨h.g, h.row, h.col, h.bot, h.top, h.pen, h.tabs, ⟨h.set.1, hf.symm, h.set.2.2⟩, h.pend, h.sv⟩
    · exact h
  split
  · exact h
  split
  · exact right_save h
  split
  · exact right_rest h
  split
  · exact right_feed h
  split
  · exact right_feed0 h
  split
  · exact right_back h
  split
  · exact right_u11 h (tabs_put1 h.tabs (by omega))
  split
  · exact hfull
  split
  · exact right_u19 h _
  split
  · exact right_u19 h _
  · exact h
theorem right_moveS {s : Sc} (h : RightS s) (fn : Int) (l : List Int) : ∀ t, moveS s fn l = some t → RightS t := by
  have hn : ∀ t, (none : Option Sc) = some t → RightS t := fun t e => nomatch e
  have ha := fun (r c : Int) => right_at h r c
  unfold moveS
  exact some_ite (ha _ _) (some_ite (ha _ _) (some_ite (ha _ _) (some_ite (ha _ _) (some_ite (ha _ _) (some_ite (ha _ _) (some_ite (ha _ _) (some_ite (ha _ _) (some_ite (ha _ _) hn))))))))
theorem ite_r {c : Prop} [Decidable c] {a b : Sc} (h1 : RightS a) (h2 : RightS b) : RightS (if c then a else b) := by
  split
  · exact h1
  · exact h2
theorem right_workS {s : Sc} (h : RightS s) (fn : Int) (l : List Int) : RightS (workS s fn l) := by
  have hp := right_fill h
  have hcol := h.col
  have hk := h.g.2.2.2.1
  have sc := fun (t b : Nat) (n : Int) => right_uG h (PG.right_scrollG h.g hp t b n) (PG.scroll_size s.g t b n (fillP s)).1 (PG.scroll_size s.g t b n (fillP s)).2
  have sh := fun (r c : Nat) (n : Int) => right_u5 (right_uG h (PG.right_shiftG h.g hp r c n) (PG.shift_size s.g r c n (fillP s)).1 (PG.shift_size s.g r c n (fillP s)).2)
  have wi := fun (r a b : Nat) => right_u5 (right_uG h (PG.right_wipeG h.g hp r a b) (wipe_size s.g r a b (fillP s)).1 (wipe_size s.g r a b (fillP s)).2)
  have er := fun (r c k : Int) => right_u5 (right_uG h (PG.right_eraseI h.g hp r c k) (PG.eraseI_size s.g r c k (fillP s)).1 (PG.eraseI_size s.g r c k (fillP s)).2)
  have li := fun (r c k : Int) => right_u5 (right_uG h (PG.right_lineI h.g hp r c k) (PG.lineI_size s.g r c k (fillP s)).1 (PG.lineI_size s.g r c k (fillP s)).2)
  have hm : RightS (if marginTop l < marginBot s l then homeS ((s.u6 (marginTop l).toNat).u7 (marginBot s l).toNat) else s) := by
    split
    · rename_i hm
      have h1 : 0 ≤ marginTop l := by
        unfold marginTop argS
        split <;> omega
      have h2 : marginBot s l ≤ (s.g.rows : Int) - 1 := by
        unfold marginBot
        omega
      have hR := h.g.1
      exact right_at (s := (s.u6 (marginTop l).toNat).u7 (marginBot s l).toNat) ⟨h.g, h.row, h.col, (by show (marginBot s l).toNat < s.g.rows; omega), .inl (by show (marginTop l).toNat < (marginBot s l).toNat; omega), h.pen, h.tabs, h.set, h.pend, h.sv⟩ _ _
    · exact h
  have h0 : TB.Ok 0 := by unfold TB.Ok; omega
  unfold workS
  exact ite_r (er _ _ _) (ite_r (li _ _ _) (ite_r (ite_r (right_at (sc _ _ _) _ _) h) (ite_r (ite_r (right_at (sc _ _ _) _ _) h) (ite_r (sh _ _ _) (ite_r (sh _ _ _) (ite_r (wi _ _ _) (ite_r (sc _ _ _) (ite_r (sc _ _ _) (ite_r (right_uP h (right_sgr h.pen l)) (ite_r hm (ite_r (ite_r (right_u11 h (tabs_drop1 h.tabs)) (ite_r (right_u11 h h0) h)) (ite_r (right_save h) (ite_r (right_rest h) h)))))))))))))
theorem right_modesS {s : Sc} (h : RightS s) (on : Bool) : ∀ l : List Int, RightS (modesS s on l) := by
  intro l
  unfold modesS
  induction l generalizing s with
  | nil => exact h
  | cons x l ih => exact ih (right_mode h x on)
theorem right_csiS {s : Sc} (h : RightS s) (pv it fn : Int) (l : List Int) : RightS (csiS s pv it fn l) := by
  unfold csiS
  split
  · exact h
  split
  · split
    · exact right_modesS h true l
    · split
      · exact right_modesS h false l
      · exact h
  · cases e : moveS s fn l with
    | none => exact right_workS h fn l
    | some t => exact right_moveS h fn l t e
theorem right_doS {s : Sc} (h : RightS s) (kd rn pv it fn : Int) (l : List Int) : RightS (doS s kd rn pv it fn l) := by
  unfold doS
  split
  · exact right_printS h rn
  split
  · exact right_execS h fn
  split
  · exact right_escS h it fn
  split
  · exact right_csiS h pv it fn l
  · exact h
end SN
end Go.Proofs.YtdcdinlppjlmfaaDoor
