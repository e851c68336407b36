/- SourceText told of any arguments. -/
import Derived.Test.YtoaabebgmdbjeaaGreatDoorQb29
set_option maxRecDepth 100000
set_option maxHeartbeats 16000000
set_option linter.unusedVariables false
namespace Go.Proofs.YtoaabebgmdbjeaaGreatDoor
open Go.RowKit
theorem N9 (n1 n2 n3:Int) (b:Bool) (w:World) (hw1:(Lit.int .i64 n1).wf=true) (hw2:(Lit.int .i64 n2).wf=true) (hw3:(Lit.int .i64 n3).wf=true) (h1:Ew w) (h2:GL w) (h3:Jt w) (h4:DZ w) (h5:Fp w):
  Calls Tryz.prog 6 #[.int .i64 n1,.int .i64 n2,.int .i64 n3,.bool b] w fun e w'=>e=.returned (.bool true)/\Below w.heap.size w w':=
 QT n1 n2 n3 b w (bounds_i64 hw1) (bounds_i64 hw2) (bounds_i64 hw3) ⟨h1,h2,h3,h4⟩ h5
end Go.Proofs.YtoaabebgmdbjeaaGreatDoor
