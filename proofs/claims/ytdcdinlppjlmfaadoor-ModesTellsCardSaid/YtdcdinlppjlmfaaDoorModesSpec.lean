/- Modes, told plainly: what Set makes of a screen, what Report says of it; each mode is by itself. -/
import Derived.Test.YtdcdinlppjlmfaaDoorCursorSpec
set_option maxRecDepth 100000
namespace Go.Proofs.YtdcdinlppjlmfaaDoor
open Go.RowKit
set_option linter.unusedVariables false
namespace SN
def modeS (s : Sc) (n : Int) (on : Bool) : Sc := if n = 1 then s.u18 on else if n = 6 then homeS (s.u16 on) else if n = 7 then (s.u15 on).u5 (s.pend && on) else if n = 25 then s.u17 on else s
def modeV (s : Sc) (n : Int) : Bool := if n = 1 then s.keys else if n = 6 then s.org else if n = 7 then s.wrap else s.shown
def IsMode (n : Int) : Prop := n = 1 ∨ n = 6 ∨ n = 7 ∨ n = 25
instance (n : Int) : Decidable (IsMode n) := inferInstanceAs (Decidable (n = 1 ∨ n = 6 ∨ n = 7 ∨ n = 25))
def reportS (s : Sc) (n : Int) : Int := if IsMode n then (if modeV s n then 1 else 2) else 0
theorem mode_1 (s : Sc) (on : Bool) : modeS s 1 on = s.u18 on := rfl
theorem mode_6 (s : Sc) (on : Bool) : modeS s 6 on = homeS (s.u16 on) := rfl
theorem mode_7 (s : Sc) (on : Bool) : modeS s 7 on = (s.u15 on).u5 (s.pend && on) := rfl
theorem mode_25 (s : Sc) (on : Bool) : modeS s 25 on = s.u17 on := rfl
theorem mode_no (s : Sc) {n : Int} (on : Bool) (h : ¬ IsMode n) : modeS s n on = s := by
  unfold IsMode at h
  unfold modeS
  rw [if_neg (by omega), if_neg (by omega), if_neg (by omega), if_neg (by omega)]
theorem right_u16 {s : Sc} (h : RightS s) (b : Bool) : RightS (s.u16 b) := ⟨h.g, h.row, h.col, h.bot, h.top, h.pen, h.tabs, h.set, h.pend, h.sv⟩
theorem right_mode {s : Sc} (h : RightS s) (n : Int) (on : Bool) : RightS (modeS s n on) := by
  unfold modeS
  split
  · exact ⟨h.g, h.row, h.col, h.bot, h.top, h.pen, h.tabs, h.set, h.pend, h.sv⟩
  · split
    · exact right_at (right_u16 h on) _ _
    · split
      · refine ⟨h.g, h.row, h.col, h.bot, h.top, h.pen, h.tabs, h.set, fun e => ?_, h.sv⟩
        have e' : (s.pend && on) = true := e
        rw [Bool.and_eq_true] at e'
        exact ⟨e'.2, (h.pend e'.1).2⟩
      · split
        · exact ⟨h.g, h.row, h.col, h.bot, h.top, h.pen, h.tabs, h.set, h.pend, h.sv⟩
        · exact h
theorem modeV_set {n : Int} (h : IsMode n) (s : Sc) (on : Bool) : modeV (modeS s n on) n = on := by
  rcases h with rfl | rfl | rfl | rfl <;> rfl
theorem modeV_other {n m : Int} (h : IsMode n) (h' : IsMode m) (hne : m ≠ n) (s : Sc) (on : Bool) : modeV (modeS s n on) m = modeV s m := by
  rcases h with rfl | rfl | rfl | rfl <;> rcases h' with rfl | rfl | rfl | rfl <;> first | rfl | exact absurd rfl hne
theorem mode_g (s : Sc) (n : Int) (on : Bool) : (modeS s n on).g = s.g := by
  unfold modeS
  repeat' split
  all_goals rfl
theorem mode_top (s : Sc) (n : Int) (on : Bool) : (modeS s n on).top = s.top := by
  unfold modeS
  repeat' split
  all_goals rfl
theorem mode_bot (s : Sc) (n : Int) (on : Bool) : (modeS s n on).bot = s.bot := by
  unfold modeS
  repeat' split
  all_goals rfl
theorem mode_pen (s : Sc) (n : Int) (on : Bool) : (modeS s n on).pen = s.pen := by
  unfold modeS
  repeat' split
  all_goals rfl
theorem report_1 (s : Sc) {n : Int} (h : IsMode n) : (reportS s n == 1) = modeV s n := by
  unfold reportS
  rw [if_pos h]
  cases modeV s n <;> rfl
theorem report_set (s : Sc) {n : Int} (h : IsMode n) (on : Bool) : reportS (modeS s n on) n = if on then 1 else 2 := by
  unfold reportS
  rw [if_pos h, modeV_set h]
theorem report_no (s : Sc) {n : Int} (h : ¬ IsMode n) : reportS s n = 0 := if_neg h
/-- origin: the cursor is home -/
theorem mode6_row {s : Sc} (h : RightS s) (on : Bool) : (modeS s 6 on).row = if on then s.top else 0 := by
  have h1 := top_bot h
  have h2 := h.bot
  show pin (goR (s.u16 on) 0) s.g.rows = _
  cases on
  · exact pin_nat (r := 0) h.g.1
  · have e : goR (s.u16 true) 0 = (s.top : Nat) := by
      show min ((s.top : Int) + 0) (s.bot : Int) = (s.top : Int)
      omega
    rw [e]
    exact pin_nat (by omega)
theorem mode6_col {s : Sc} (h : RightS s) (on : Bool) : (modeS s 6 on).col = 0 := pin_nat (r := 0) h.g.2.2.1
end SN
end Go.Proofs.YtdcdinlppjlmfaaDoor
