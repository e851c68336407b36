/- '==' and '!=' on pens and cells. -/
import Derived.Test.YtdcdinlppjlmfaaDoorCellSmall
import Derived.Laws.StructEq
set_option maxRecDepth 100000
namespace Go.Proofs.YtdcdinlppjlmfaaDoor
open Go Go.RowKit
set_option linter.unusedVariables false
theorem pen_guard : Tryd.prog.eqGuardType Tryd.prog.depth 26 = false := by kernel_rfl
theorem cell_guard : Tryd.prog.eqGuardType Tryd.prog.depth 58 = false := by kernel_rfl
set_option maxHeartbeats 1000000 in
theorem pen_eqIn (d : Nat) (a b c a' b' c' : Int) (w : World) : (Op.equalIn (d + 2) 26 (.agg #[.int .i64 a, .int .i64 b, .int .i64 c]) (.agg #[.int .i64 a', .int .i64 b', .int .i64 c'])).run Tryd.prog w = .ok (a == a' && b == b' && c == c') w := by
  have u3 := Tryd.underlying3
  have a3 := Tryd.isAgg3
  have z3 := Tryd.sizeOf3
  have hS : Tryd.prog.underlying 26 = some (.struct (Tryd.prog.fieldsOf 26)) := by kernel_rfl
  have hp : Tryd.prog.stoodInHeld 26 = false := by kernel_rfl
  rw [run_equalIn_agg w (d + 1) _ _ _ hS hp]
  simp only [Program.fieldsOf, Tryd.underlying26]
  go_simp
  by_cases h1 : a = a' <;> by_cases h2 : b = b' <;> by_cases h3 : c = c' <;> simp [h1, h2, h3]
set_option maxHeartbeats 1000000 in
theorem cell_eqIn (d : Nat) (r k a b c r' k' a' b' c' : Int) (w : World) : (Op.equalIn (d + 3) 58 (.agg #[.int .i32 r, .int .i64 k, .int .i64 a, .int .i64 b, .int .i64 c]) (.agg #[.int .i32 r', .int .i64 k', .int .i64 a', .int .i64 b', .int .i64 c'])).run Tryd.prog w = .ok (r == r' && k == k' && a == a' && b == b' && c == c') w := by
  have u3 := Tryd.underlying3
  have a3 := Tryd.isAgg3
  have z3 := Tryd.sizeOf3
  have u4 := Tryd.underlying21
  have a4 := Tryd.isAgg21
  have z4 := Tryd.sizeOf21
  have a5 := Tryd.isAgg26
  have z5 := Tryd.sizeOf26
  have hS : Tryd.prog.underlying 58 = some (.struct (Tryd.prog.fieldsOf 58)) := by kernel_rfl
  have hp : Tryd.prog.stoodInHeld 58 = false := by kernel_rfl
  have pe := pen_eqIn d a b c a' b' c'
  rw [run_equalIn_agg w (d + 2) _ _ _ hS hp]
  simp only [Program.fieldsOf, Tryd.underlying58]
  go_simp
  by_cases h1 : r = r' <;> by_cases h2 : k = k' <;> by_cases h3 : a = a' <;> by_cases h4 : b = b' <;> by_cases h5 : c = c' <;> simp [h1, h2, h3, h4, h5]
theorem eql_pen (a b c a' b' c' : Int) (w : World) : (binOp .eql 26 (.agg #[.int .i64 a, .int .i64 b, .int .i64 c]) (.agg #[.int .i64 a', .int .i64 b', .int .i64 c'])).run Tryd.prog w = .ok (.bool (a == a' && b == b' && c == c')) w := by
  rw [run_eql_struct, pen_eqIn 9998]
  rfl
theorem neq_pen (a b c a' b' c' : Int) (w : World) : (binOp .neq 26 (.agg #[.int .i64 a, .int .i64 b, .int .i64 c]) (.agg #[.int .i64 a', .int .i64 b', .int .i64 c'])).run Tryd.prog w = .ok (.bool (!(a == a' && b == b' && c == c'))) w := by
  rw [run_neq_struct, pen_eqIn 9998]
  rfl
theorem eql_cell (r k a b c r' k' a' b' c' : Int) (w : World) : (binOp .eql 58 (.agg #[.int .i32 r, .int .i64 k, .int .i64 a, .int .i64 b, .int .i64 c]) (.agg #[.int .i32 r', .int .i64 k', .int .i64 a', .int .i64 b', .int .i64 c'])).run Tryd.prog w = .ok (.bool (r == r' && k == k' && a == a' && b == b' && c == c')) w := by
  rw [run_eql_struct, cell_eqIn 9997]
  rfl
theorem neq_cell (r k a b c r' k' a' b' c' : Int) (w : World) : (binOp .neq 58 (.agg #[.int .i32 r, .int .i64 k, .int .i64 a, .int .i64 b, .int .i64 c]) (.agg #[.int .i32 r', .int .i64 k', .int .i64 a', .int .i64 b', .int .i64 c'])).run Tryd.prog w = .ok (.bool (!(r == r' && k == k' && a == a' && b == b' && c == c'))) w := by
  rw [run_neq_struct, cell_eqIn 9997]
  rfl
end Go.Proofs.YtdcdinlppjlmfaaDoor
