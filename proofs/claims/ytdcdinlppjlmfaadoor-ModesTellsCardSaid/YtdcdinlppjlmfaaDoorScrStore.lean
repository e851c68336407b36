/- A whole screen stored in a drawn region, wherever the store comes up. -/
import Derived.Test.YtdcdinlppjlmfaaDoorScreenEq
set_option maxRecDepth 100000
namespace Go.Proofs.YtdcdinlppjlmfaaDoor
open Go Go.RowKit
set_option linter.unusedVariables false
/-- a store of a whole screen, wherever it comes up -/
theorem exec_store_any {w : World} {g T : Nat} {cs ds : Array Value} (h : Box w g T cs) (hs : cs.size = 29) (hd : ds.size = 29) (h1 : ds.all (·.oneCell') = true) (ρ : Operand → Value) (o : Oper) {y z : Operand} (ho : o.op = .store 32 y z) (hy : ρ y = .pointer (some ⟨g, 0, none⟩)) (hz : ρ z = .agg ds) :
    (execOp ρ o).run Tryd.prog w = .ok .skip (setL w g 0 ds.toList) := by
  unfold execOp
  simp only [ho, hy, hz, Instr.storeAt, Instr.sureAddr, Sem.run_bind, Sem.run_pure, Result.andThen_ok, run_storeVar_mid w g 0 32 ds (h.there (hs.trans hd.symm)) (by rw [size_screen, hd]) h1]
  rw [setCells_setL]
end Go.Proofs.YtdcdinlppjlmfaaDoor
