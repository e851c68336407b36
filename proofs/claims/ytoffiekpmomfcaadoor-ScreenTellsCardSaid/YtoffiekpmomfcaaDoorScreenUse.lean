/- What the laws call: the landed package screen, told of screens of any numbers. -/
import Derived.Test.YtoffiekpmomfcaaDoorScreenRef
import Derived.Test.YtoffiekpmomfcaaDoorScreenFit
import Derived.Test.YtoffiekpmomfcaaDoorScreenSame
set_option maxRecDepth 100000
namespace Go.Proofs.YtoffiekpmomfcaaDoor
open Go.RowKit
set_option linter.unusedVariables false
theorem ssame_raw (p q : SN.Rw) (x y : Value) (b c : Bool) (hb : b = true ↔ PG.Alike p.g q.g) (hc : (b && p.same q) = c) (hp : PG.RightG p.g) (w : World) (h : IsG w p.g (gv p.g.rows p.g.cols x)) (h' : IsG w q.g (gv q.g.rows q.g.cols y)) :
    Calls Tryd.prog 16 #[.agg (rwA x p), .agg (rwA y q)] w fun e w' => e = .returned (.bool c) ∧ Below w.heap.size w w' := ssame_go p q x y b c hb hc w h h'
theorem slooks_raw (p q : SN.Rw) (x y : Value) (b c : Bool) (hb : b = true ↔ PG.Alike p.g q.g) (hc : (b && p.looks q) = c) (hp : PG.RightG p.g) (w : World) (h : IsG w p.g (gv p.g.rows p.g.cols x)) (h' : IsG w q.g (gv q.g.rows q.g.cols y)) :
    Calls Tryd.prog 10 #[.agg (rwA x p), .agg (rwA y q)] w fun e w' => e = .returned (.bool c) ∧ Below w.heap.size w w' := slooks_go p q x y b c hb hc w h h'
theorem sright_is (s : SN.Sc) (x : Value) (hs : SN.RightS s) (w : World) (h : IsG w s.g (gv s.g.rows s.g.cols x)) (hsp : Spans w) :
    Calls Tryd.prog 9 #[.agg (scA x s)] w fun e w' => e = .returned (.bool true) ∧ Below w.heap.size w w' := by
  rw [scA_raw]
  exact sright_raw (SN.raw s) x true (right_raw hs) hs.g w h hsp
end Go.Proofs.YtoffiekpmomfcaaDoor
