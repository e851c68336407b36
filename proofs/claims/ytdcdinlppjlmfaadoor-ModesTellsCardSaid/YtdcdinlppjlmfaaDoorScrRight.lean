/- A right screen is told to be right by the landed Right. -/
import Derived.Test.YtdcdinlppjlmfaaDoorScreenYes
set_option maxRecDepth 100000
namespace Go.Proofs.YtdcdinlppjlmfaaDoor
open Go.RowKit
set_option linter.unusedVariables false
theorem sright_is (s : SN.Sc) (x : Value) (hs : SN.RightS s) (w : World) (h : IsG w s.g (gv s.g.rows s.g.cols x)) (hsp : Spans w) :
    Calls Tryd.prog 16 #[.agg (scA x s)] w fun e w' => e = .returned (.bool true) ∧ Below w.heap.size w w' := by
  rw [scA_raw]
  exact sright_raw (SN.raw s) x true (right_raw hs) hs.g w h hsp
end Go.Proofs.YtdcdinlppjlmfaaDoor
