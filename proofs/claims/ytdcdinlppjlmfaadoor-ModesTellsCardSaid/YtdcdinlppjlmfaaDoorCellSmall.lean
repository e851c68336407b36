/- Contracts of package cell's functions on pens. -/
import Derived.Test.YtdcdinlppjlmfaaDoorLib
import Derived.Test.YtdcdinlppjlmfaaDoorCellSpec
import Derived.Test.YtdcdinlppjlmfaaDoorRows
import Derived.WalkSpells
import Derived.WalkLawsBesides
set_option maxRecDepth 100000
namespace Go.Proofs.YtdcdinlppjlmfaaDoor
open Go.RowKit
set_option linter.unusedVariables false
set_option maxHeartbeats 400000 in
theorem isColor_any (c : Int) (w : World) : Calls Tryd.prog 83 #[.int .i64 c] w fun e w' => e = .returned (.bool (C.col c)) ∧ w = w' := by
  have cs : c < -1 ∨ c = -1 ∨ (0 ≤ c ∧ c ≤ 255) ∨ (255 < c ∧ c < 16777216) ∨ (16777216 ≤ c ∧ c < 33554432) ∨ 33554432 ≤ c := by omega
  have hr : ∀ b : Bool, (b = true ↔ (c = -1 ∨ (0 ≤ c ∧ c ≤ 255) ∨ (16777216 ≤ c ∧ c < 33554432))) → Ending.returned (.bool b) = .returned (.bool (C.col c)) := fun b hb => c_bool (by rw [Bool.eq_iff_iff, hb, C.col_iff])
  have HR := Lib.hid hr
  clear hr
  rcases cs with h | h | h | h | h | h
  · have q : (c == -1) = false := by simp; omega
    go_enter Tryd.func83, Tryd.ntmps83
    go_wp2
    go_ret
    exact ⟨HR.out _ (by simp; omega), rfl⟩
  · subst h
    go_enter Tryd.func83, Tryd.ntmps83
    go_wp2
    go_ret
    exact ⟨HR.out _ (by simp), rfl⟩
  all_goals
    have q : (c == -1) = false := by simp; omega
    go_enter Tryd.func83, Tryd.ntmps83
    go_wp2
    go_ret
    exact ⟨HR.out _ (by simp; omega), rfl⟩
theorem isColor_is (c : Int) (b : Bool) (h : C.col c = b) (w : World) : Calls Tryd.prog 83 #[.int .i64 c] w fun e w' => e = .returned (.bool b) ∧ w = w' := by
  subst h
  exact isColor_any c w
set_option maxHeartbeats 400000 in
theorem right_any (f b g : Int) (w : World) : Calls Tryd.prog 66 #[.agg #[.int .i64 f, .int .i64 b, .int .i64 g]] w fun e w' => e = .returned (.bool (C.right f b g)) ∧ w.alloc (.cells #[.int .i64 f, .int .i64 b, .int .i64 g] 26) = w' := by
  have hr : ∀ r : Bool, r = C.right f b g → Ending.returned (.bool r) = .returned (.bool (C.right f b g)) := fun r h => c_bool h
  have HR := Lib.hid hr
  clear hr
  have cg : g < 0 ∨ (0 ≤ g ∧ g ≤ 255) ∨ 255 < g := by omega
  rcases h1 : C.col f with _ | _
  · have e : false = C.right f b g := by simp [C.right, h1]
    have E := Lib.hid e
    have c1 := fun w' => isColor_is f _ h1 w'
    clear h1 e cg
    go_enter Tryd.func66, Tryd.ntmps66
    go_wp2_with (go_at_call 83; refine (c1 _).mono ?_; rintro e w' ⟨rfl, rfl⟩)
    go_ret
    exact ⟨HR.out _ E.out, rfl⟩
  rcases h2 : C.col b with _ | _
  · have e : false = C.right f b g := by simp [C.right, h2]
    have E := Lib.hid e
    have c1 := fun w' => isColor_is f _ h1 w'
    have c2 := fun w' => isColor_is b _ h2 w'
    clear h1 h2 e cg
    go_enter Tryd.func66, Tryd.ntmps66
    go_wp2_with fail
    refine (c1 _).mono ?_
    rintro e w' ⟨rfl, rfl⟩
    go_wp2_with fail
    refine (c2 _).mono ?_
    rintro e w' ⟨rfl, rfl⟩
    go_wp2_with fail
    go_ret
    exact ⟨HR.out _ E.out, rfl⟩
  have c1 := fun w' => isColor_is f _ h1 w'
  have c2 := fun w' => isColor_is b _ h2 w'
  have e : decide (0 ≤ g ∧ g ≤ 255) = C.right f b g := by simp [C.right, h1, h2]
  have E := Lib.hid e
  clear h1 h2 e
  rcases cg with h | h | h
  all_goals
    go_enter Tryd.func66, Tryd.ntmps66
    go_wp2_with fail
    refine (c1 _).mono ?_
    rintro e w' ⟨rfl, rfl⟩
    go_wp2_with fail
    refine (c2 _).mono ?_
    rintro e w' ⟨rfl, rfl⟩
    go_wp2_with fail
    go_ret
    exact ⟨HR.out _ (by rw [← E.out]; simp; omega), rfl⟩
theorem right_is (f b g : Int) (r : Bool) (h : C.right f b g = r) (w : World) : Calls Tryd.prog 66 #[.agg #[.int .i64 f, .int .i64 b, .int .i64 g]] w fun e w' => e = .returned (.bool r) ∧ w.alloc (.cells #[.int .i64 f, .int .i64 b, .int .i64 g] 26) = w' := by
  subst h
  exact right_any f b g w
set_option maxHeartbeats 400000 in
theorem plain_any (w : World) : Calls Tryd.prog 23 #[] w fun e w' => e = .returned (.agg #[.int .i64 (-1), .int .i64 (-1), .int .i64 0]) ∧ w.alloc (.cells #[.int .i64 (-1), .int .i64 (-1), .int .i64 0] 26) = w' := by
  go_enter Tryd.func23, Tryd.ntmps23
  go_wp2
  exact bodyPost_ret (v := .agg #[.int .i64 (-1), .int .i64 (-1), .int .i64 0]) (by simp [results, Tryd.results23, go_sem]) rfl ⟨rfl, rfl⟩
set_option maxHeartbeats 400000 in
theorem blank_any (f b g : Int) (w : World) : Calls Tryd.prog 39 #[.agg #[.int .i64 f, .int .i64 b, .int .i64 g]] w fun e w' => e = .returned (.agg #[.int .i32 32, .int .i64 0, .int .i64 f, .int .i64 b, .int .i64 g]) ∧ Below w.heap.size w w' := by
  go_enter Tryd.func39, Tryd.ntmps39
  go_wp2
  exact bodyPost_ret (v := .agg #[.int .i32 32, .int .i64 0, .int .i64 f, .int .i64 b, .int .i64 g]) (by simp [results, Tryd.results39, go_sem]) rfl ⟨rfl, ((Below.refl _ _).alloc (Nat.le_refl _) _).alloc (by simp) _⟩
end Go.Proofs.YtdcdinlppjlmfaaDoor
