/- The cursor's motions, told plainly: what At, Feed, Back, Up, Down, Go, Home, Save, Restore make; that all are right; what the laws say of them. -/
import Derived.Test.YtdcdinlppjlmfaaDoorScreenVal
import Derived.Test.YtdcdinlppjlmfaaDoorGridShift
set_option maxRecDepth 100000
namespace Go.Proofs.YtdcdinlppjlmfaaDoor
open Go.RowKit
set_option linter.unusedVariables false
namespace SN
/-- what is erased is in the pen's back alone -/
def fillP (s : Sc) : PG.Pn := (-1, s.pen.2.1, 0)
def feedS (s : Sc) : Sc := if s.row = s.bot then (s.uG (PG.scrollG s.g s.top s.bot 1 (fillP s))).u5 false else atS s ((s.row : Int) + 1) s.col
def backS (s : Sc) : Sc := if s.row = s.top then (s.uG (PG.scrollG s.g s.top s.bot (-1) (fillP s))).u5 false else atS s ((s.row : Int) - 1) s.col
def upR (s : Sc) (n : Nat) : Int := if s.top ≤ s.row then max ((s.row : Int) - n) s.top else (s.row : Int) - n
def downR (s : Sc) (n : Nat) : Int := if s.row ≤ s.bot then min ((s.row : Int) + n) s.bot else (s.row : Int) + n
def upS (s : Sc) (n : Nat) : Sc := atS s (upR s n) s.col
def downS (s : Sc) (n : Nat) : Sc := atS s (downR s n) s.col
def goR (s : Sc) (r : Int) : Int := if s.org = true then min ((s.top : Int) + r) s.bot else r
def goS (s : Sc) (r c : Int) : Sc := atS s (goR s r) c
def homeS (s : Sc) : Sc := goS s 0 0
def nowV (s : Sc) : Sv := ⟨s.row, s.col, s.pen, s.s0, s.s1, s.sh, s.org⟩
def saveS (s : Sc) : Sc := s.uV (nowV s)
def restS (s : Sc) : Sc := atS ((((s.uP s.sv.pen).uS s.sv.s0 s.sv.s1).u14 s.sv.sh).u16 s.sv.org) s.sv.row s.sv.col
theorem pin_lt (z : Int) {R : Nat} (h : 1 ≤ R) : pin z R < R := by
  unfold pin
  omega
theorem pin_nat {r R : Nat} (h : r < R) : pin r R = r := by
  unfold pin
  omega
theorem pin_mid {z : Int} {R : Nat} (h : 0 ≤ z) (h' : z < R) : (pin z R : Int) = z := by
  unfold pin
  omega
theorem pin_is (z : Int) {R : Nat} (h : 1 ≤ R) : (pin z R : Int) = min (max z 0) ((R : Int) - 1) := by
  unfold pin
  omega
theorem right_at {s : Sc} (h : RightS s) (r c : Int) : RightS (atS s r c) where
  g := h.g
  row := pin_lt r h.g.1
  col := pin_lt c h.g.2.2.1
  bot := h.bot
  top := h.top
  pen := h.pen
  tabs := h.tabs
  set := h.set
  pend := fun h => nomatch h
  sv := h.sv
theorem right_fill {s : Sc} (h : RightS s) : PG.okPen (fillP s) := by
  have := C.right_iff.1 h.pen
  exact C.right_iff.2 ⟨(by decide : C.col (-1) = true), this.2.1, by show (0 : Int) ≤ 0; omega, by show (0 : Int) ≤ 255; omega⟩
theorem right_scrolled {s : Sc} (h : RightS s) (n : Int) : RightS ((s.uG (PG.scrollG s.g s.top s.bot n (fillP s))).u5 false) := by
  obtain ⟨e1, e2⟩ := PG.scroll_size s.g s.top s.bot n (fillP s)
  generalize hG : PG.scrollG s.g s.top s.bot n (fillP s) = G at e1 e2
  have hg : PG.RightG G := hG ▸ PG.right_scrollG h.g (right_fill h) _ _ _
  refine ⟨hg, ?_, ?_, ?_, ?_, h.pen, h.tabs, h.set, (fun h => nomatch h), ?_⟩
  · show s.row < G.rows
    rw [e1]
    exact h.row
  · show s.col < G.cols
    rw [e2]
    exact h.col
  · show s.bot < G.rows
    rw [e1]
    exact h.bot
  · show s.top < s.bot ∨ (G.rows = 1 ∧ s.top = 0 ∧ s.bot = 0)
    rw [e1]
    exact h.top
  · show RightSv G.rows G.cols s.sv
    rw [e1, e2]
    exact h.sv
theorem right_feed {s : Sc} (h : RightS s) : RightS (feedS s) := by
  unfold feedS
  split
  · exact right_scrolled h 1
  · exact right_at h _ _
theorem right_back {s : Sc} (h : RightS s) : RightS (backS s) := by
  unfold backS
  split
  · exact right_scrolled h (-1)
  · exact right_at h _ _
theorem right_save {s : Sc} (h : RightS s) : RightS (saveS s) := { h with sv := ⟨h.row, h.col, h.pen, h.set⟩ }
theorem right_rest {s : Sc} (h : RightS s) : RightS (restS s) where
  g := h.g
  row := pin_lt _ h.g.1
  col := pin_lt _ h.g.2.2.1
  bot := h.bot
  top := h.top
  pen := h.sv.pen
  tabs := h.tabs
  set := h.sv.set
  pend := fun h => nomatch h
  sv := h.sv
theorem top_bot {s : Sc} (h : RightS s) : s.top ≤ s.bot := by
  rcases h.top with h | ⟨_, h1, h2⟩ <;> omega
/-- up and down within the margins stays within -/
theorem up_row {s : Sc} (h : RightS s) (n : Nat) : (upS s n).row ≤ s.row ∧ (s.top ≤ s.row → s.top ≤ (upS s n).row) := by
  have h1 := h.row
  have h2 := top_bot h
  have h3 := h.bot
  show pin (upR s n) s.g.rows ≤ s.row ∧ (s.top ≤ s.row → s.top ≤ pin (upR s n) s.g.rows)
  unfold pin upR
  split <;> omega
theorem down_row {s : Sc} (h : RightS s) (n : Nat) : s.row ≤ (downS s n).row ∧ (s.row ≤ s.bot → (downS s n).row ≤ s.bot) := by
  have h1 := h.row
  have h3 := h.bot
  show s.row ≤ pin (downR s n) s.g.rows ∧ (s.row ≤ s.bot → pin (downR s n) s.g.rows ≤ s.bot)
  unfold pin downR
  split <;> omega
theorem up_col {s : Sc} (h : RightS s) (n : Nat) : (upS s n).col = s.col := pin_nat h.col
theorem down_col {s : Sc} (h : RightS s) (n : Nat) : (downS s n).col = s.col := pin_nat h.col
/-- saved, moved and restored -/
theorem rest_save {s : Sc} (h : RightS s) (r c : Int) : restS (atS (saveS s) r c) = (saveS s).u5 false := by
  have e1 : pin (s.row : Int) s.g.rows = s.row := pin_nat h.row
  have e2 : pin (s.col : Int) s.g.cols = s.col := pin_nat h.col
  unfold restS atS saveS nowV
  simp only [Sc.u3, Sc.u4, Sc.u5, Sc.uV, Sc.uP, Sc.uS, Sc.u14, Sc.u16, e1, e2]
/-- a feed above the last row of the margins -/
theorem feed_in {s : Sc} (h : RightS s) {i : Nat} (hi : i < s.bot) : feedS (atS s i 0) = atS s ((i : Int) + 1) 0 := by
  have h3 := h.bot
  have e1 : pin (i : Int) s.g.rows = i := pin_nat (by omega)
  have e2 : pin (0 : Int) s.g.cols = 0 := pin_nat (r := 0) h.g.2.2.1
  unfold feedS
  rw [if_neg (show ¬ (atS s i 0).row = (atS s i 0).bot by show ¬ pin (i : Int) s.g.rows = s.bot; omega)]
  unfold atS
  simp only [Sc.u3, Sc.u4, Sc.u5, e1, e2, Int.natCast_zero]
theorem feed_bot {s : Sc} (h : s.row = s.bot) : feedS s = (s.uG (PG.scrollG s.g s.top s.bot 1 (fillP s))).u5 false := if_pos h
theorem back_top {s : Sc} (h : s.row = s.top) : backS s = (s.uG (PG.scrollG s.g s.top s.bot (-1) (fillP s))).u5 false := if_pos h
theorem at_row {s : Sc} {i : Nat} (h : i < s.g.rows) (c : Int) : (atS s i c).row = i := pin_nat h
theorem go_row {s : Sc} (h : RightS s) (y : Nat) (c : Int) : ((goS s y c).row : Int) = if s.org = true then min ((s.top : Int) + y) s.bot else min (y : Int) ((s.g.rows : Int) - 1) := by
  have h3 := h.bot
  show (pin (goR s y) s.g.rows : Int) = _
  unfold pin goR
  split <;> omega
end SN
end Go.Proofs.YtdcdinlppjlmfaaDoor
