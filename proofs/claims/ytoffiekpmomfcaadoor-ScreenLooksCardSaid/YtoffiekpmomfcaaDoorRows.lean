/-
  NARROWER THAN 'FOR EVERY INPUT', by the rows' own cells (each row's printed sentence says how): ScreenRuns: laid · ScreenTells: laid · ScreenLooks: laid · ScreenSizes: laid.
  DERIVED. THE GIVEN ROWS OF THIS SEAT. 4 by the template 'for every input the law returns true; each argument reads behind the call as it read before'; 0 by the template 'total and deterministic' (their statements: YtoffiekpmomfcaaDoorTotals.lean).
  GIVEN WITH THE SEED: the statements are not yours to turn. If you find one false, say at which input.
  Laid BY PROGRAM, IN A SANDBOX (cutbox-rows.mjs): the forced cells as the released guide's own fill.sh prints them over the translation 4a6b1eae4acec1ba… (all of the seat's roots in one cut). By AI agents, Wed Nov 11 2026. No macro, syntax, notation, axiom, sorry.
-/
import Derived.Test.YtoffiekpmomfcaaDoorChecked
import GoSem.Claim
import GoSem.ClaimJoined
import GoSem.ClaimMapViews
import Derived.JoinedTies
import Derived.KernelRfl
namespace Go.Proofs.YtoffiekpmomfcaaDoor
/- THE CELL 'sum', in the pinned program and in every row, IS THE sha256 OF THE DUMP (.gsa) THAT YtoffiekpmomfcaaDoorProg.lean LOADS. Nothing in Lean hashes anything: it is a label: what it is worth is what the hold of that sum in a sandbox is worth. -/
noncomputable def Tryd.pinned : Pinned := { name := "ytoffiekpmomfcaadoor", sum := "4a6b1eae4acec1ba87b89a5b4a1e1417ecd0dc29901ca296e72c55dede44bca0", checked := Tryd.checked }
namespace Rows
def none {H : Type} : Left H := { results := [], args := [] }

/- WHAT THE LISTED PACKAGE-LEVEL VARIABLES READ AS WHEN THE CALL BEGINS. Each datum BY PROGRAM (the guide's laid-datum.mjs) off the statement by which the dump's own 'gosem.cut.vars' lays the variable. In a bare row this is a premise. The card (YtoffiekpmomfcaaDoorCards.lean) ties it to the program's text. -/
def laid_linguist_cell_spans {H : Type} : DataW H := .agg [.agg [.lit (.int .i32 127), .lit (.int .i32 159), .lit (.int .i64 0)], .agg [.lit (.int .i32 768), .lit (.int .i32 879), .lit (.int .i64 0)], .agg [.lit (.int .i32 4352), .lit (.int .i32 4447), .lit (.int .i64 2)], .agg [.lit (.int .i32 11904), .lit (.int .i32 42191), .lit (.int .i64 2)], .agg [.lit (.int .i32 44032), .lit (.int .i32 55203), .lit (.int .i64 2)], .agg [.lit (.int .i32 55296), .lit (.int .i32 57343), .lit (.int .i64 0)], .agg [.lit (.int .i32 63744), .lit (.int .i32 64255), .lit (.int .i64 2)], .agg [.lit (.int .i32 65072), .lit (.int .i32 65135), .lit (.int .i64 2)], .agg [.lit (.int .i32 65280), .lit (.int .i32 65376), .lit (.int .i64 2)], .agg [.lit (.int .i32 65504), .lit (.int .i32 65510), .lit (.int .i64 2)], .agg [.lit (.int .i32 127744), .lit (.int .i32 129791), .lit (.int .i64 2)], .agg [.lit (.int .i32 131072), .lit (.int .i32 262141), .lit (.int .i64 2)]]

/-- 'linguistlaw11.ScreenRuns': WHATEVER THE INPUT: true; the input reads as it did. -/
def screenRunsSpec : ChangeSpec := { name := "screenRuns", fn := fun _ => fun
  | [] => { results := [.lit (.bool true)], args := [] }
  | _ => none }
def screenRunsRow : OpenClaim := { program := "ytoffiekpmomfcaadoor", sum := "4a6b1eae4acec1ba87b89a5b4a1e1417ecd0dc29901ca296e72c55dede44bca0", func := "linguist/linguistlaw11.ScreenRuns", spec := "screenRuns", named := ["linguist/cell.spans"], apart := false, laid := [("linguist/cell.spans", laid_linguist_cell_spans)] }
def ScreenRunsSaid : Prop := screenRunsRow.holds Tryd.pinned (OpenSpec.ofChange screenRunsSpec)

/-- ITS FALSE NEIGHBOUR: 'it returns false'. Refute it at one input. -/
def screenRunsWrong : ChangeSpec := { name := "screenRuns", fn := fun _ => fun
  | [] => { results := [.lit (.bool false)], args := [] }
  | _ => none }
def ScreenRunsWrongFalsely : Prop := screenRunsRow.holds Tryd.pinned (OpenSpec.ofChange screenRunsWrong)

/-- 'linguistlaw11.ScreenTells': WHATEVER THE INPUT: true; the input reads as it did. -/
def screenTellsSpec : ChangeSpec := { name := "screenTells", fn := fun _ => fun
  | [d1, d2, d3, d4, d5] => { results := [.lit (.bool true)], args := [d1, d2, d3, d4, d5] }
  | _ => none }
def screenTellsRow : OpenClaim := { program := "ytoffiekpmomfcaadoor", sum := "4a6b1eae4acec1ba87b89a5b4a1e1417ecd0dc29901ca296e72c55dede44bca0", func := "linguist/linguistlaw11.ScreenTells", spec := "screenTells", named := ["linguist/cell.spans"], apart := false, laid := [("linguist/cell.spans", laid_linguist_cell_spans)] }
def ScreenTellsSaid : Prop := screenTellsRow.holds Tryd.pinned (OpenSpec.ofChange screenTellsSpec)

/-- ITS FALSE NEIGHBOUR: 'it returns false'. Refute it at one input. -/
def screenTellsWrong : ChangeSpec := { name := "screenTells", fn := fun _ => fun
  | [d1, d2, d3, d4, d5] => { results := [.lit (.bool false)], args := [d1, d2, d3, d4, d5] }
  | _ => none }
def ScreenTellsWrongFalsely : Prop := screenTellsRow.holds Tryd.pinned (OpenSpec.ofChange screenTellsWrong)

/-- 'linguistlaw11.ScreenLooks': WHATEVER THE INPUT: true; the input reads as it did. -/
def screenLooksSpec : ChangeSpec := { name := "screenLooks", fn := fun _ => fun
  | [d1, d2] => { results := [.lit (.bool true)], args := [d1, d2] }
  | _ => none }
def screenLooksRow : OpenClaim := { program := "ytoffiekpmomfcaadoor", sum := "4a6b1eae4acec1ba87b89a5b4a1e1417ecd0dc29901ca296e72c55dede44bca0", func := "linguist/linguistlaw11.ScreenLooks", spec := "screenLooks", named := ["linguist/cell.spans"], apart := false, laid := [("linguist/cell.spans", laid_linguist_cell_spans)] }
def ScreenLooksSaid : Prop := screenLooksRow.holds Tryd.pinned (OpenSpec.ofChange screenLooksSpec)

/-- ITS FALSE NEIGHBOUR: 'it returns false'. Refute it at one input. -/
def screenLooksWrong : ChangeSpec := { name := "screenLooks", fn := fun _ => fun
  | [d1, d2] => { results := [.lit (.bool false)], args := [d1, d2] }
  | _ => none }
def ScreenLooksWrongFalsely : Prop := screenLooksRow.holds Tryd.pinned (OpenSpec.ofChange screenLooksWrong)

/-- 'linguistlaw11.ScreenSizes': WHATEVER THE INPUT: true; the input reads as it did. -/
def screenSizesSpec : ChangeSpec := { name := "screenSizes", fn := fun _ => fun
  | [d1, d2, d3] => { results := [.lit (.bool true)], args := [d1, d2, d3] }
  | _ => none }
def screenSizesRow : OpenClaim := { program := "ytoffiekpmomfcaadoor", sum := "4a6b1eae4acec1ba87b89a5b4a1e1417ecd0dc29901ca296e72c55dede44bca0", func := "linguist/linguistlaw11.ScreenSizes", spec := "screenSizes", named := ["linguist/cell.spans"], apart := false, laid := [("linguist/cell.spans", laid_linguist_cell_spans)] }
def ScreenSizesSaid : Prop := screenSizesRow.holds Tryd.pinned (OpenSpec.ofChange screenSizesSpec)

/-- ITS FALSE NEIGHBOUR: 'it returns false'. Refute it at one input. -/
def screenSizesWrong : ChangeSpec := { name := "screenSizes", fn := fun _ => fun
  | [d1, d2, d3] => { results := [.lit (.bool false)], args := [d1, d2, d3] }
  | _ => none }
def ScreenSizesWrongFalsely : Prop := screenSizesRow.holds Tryd.pinned (OpenSpec.ofChange screenSizesWrong)

/- THE SECOND FORM. 'bulk': how many values and letters a reading holds, each counted each time it is reached (what is shared counts as often as it is met; a slice's spare places count too). A statement '..UptoSaid' is the law's where the arguments, and the package variables that the reading takes, are together of bulk at most 1048576: NARROWER than '..Said'. Prove '..Said' where nothing that the law and all that it calls make is longer than what came in: it says more and counts as full. Else prove '..UptoSaid'. A law counts once. -/
mutual
def uptoBulk {H : Type} : DataW H → Nat
  | .lit (.string bytes) => bytes.length + 1
  | .lit _ => 1
  | .nil => 1
  | .ptr d => uptoBulk d + 1
  | .slice elems spare => uptoBulkAll elems + uptoBulkAll spare + 1
  | .agg parts => uptoBulkAll parts + 1
  | .iface _ d => uptoBulk d + 1
  | .map entries => uptoBulkEntries entries + 1
  | .held _ => 1
def uptoBulkAll {H : Type} : List (DataW H) → Nat
  | [] => 0
  | d :: r => uptoBulk d + uptoBulkAll r
def uptoBulkEntries {H : Type} : List (Lit × DataW H) → Nat
  | [] => 0
  | x :: r => uptoBulkEntry x + uptoBulkEntries r
def uptoBulkEntry {H : Type} : Lit × DataW H → Nat
  | (.string bytes, d) => bytes.length + uptoBulk d + 1
  | (_, d) => uptoBulk d + 1
 end
def uptoSmall : (H : Type) → List (DataW H) → Bool := fun _ ds => decide (uptoBulkAll ds ≤ 1048576)
def OpenSpec.upto (s : _root_.Go.ChangeSpec) : _root_.Go.OpenSpec := { _root_.Go.OpenSpec.ofChange s with cond := some uptoSmall }

/-- 'linguistlaw11.ScreenRuns', WHERE WHAT IT READS IS OF BULK AT MOST 1048576: true; the input reads as it did. -/
def screenRunsUptoRow : OpenClaim := { program := "ytoffiekpmomfcaadoor", sum := "4a6b1eae4acec1ba87b89a5b4a1e1417ecd0dc29901ca296e72c55dede44bca0", func := "linguist/linguistlaw11.ScreenRuns", spec := "screenRuns", named := ["linguist/cell.spans"], apart := false, laid := [("linguist/cell.spans", laid_linguist_cell_spans)], narrowed := true }
def ScreenRunsUptoSaid : Prop := screenRunsUptoRow.holds Tryd.pinned (OpenSpec.upto screenRunsSpec)

/-- 'linguistlaw11.ScreenTells', WHERE WHAT IT READS IS OF BULK AT MOST 1048576: true; the input reads as it did. -/
def screenTellsUptoRow : OpenClaim := { program := "ytoffiekpmomfcaadoor", sum := "4a6b1eae4acec1ba87b89a5b4a1e1417ecd0dc29901ca296e72c55dede44bca0", func := "linguist/linguistlaw11.ScreenTells", spec := "screenTells", named := ["linguist/cell.spans"], apart := false, laid := [("linguist/cell.spans", laid_linguist_cell_spans)], narrowed := true }
def ScreenTellsUptoSaid : Prop := screenTellsUptoRow.holds Tryd.pinned (OpenSpec.upto screenTellsSpec)

/-- 'linguistlaw11.ScreenLooks', WHERE WHAT IT READS IS OF BULK AT MOST 1048576: true; the input reads as it did. -/
def screenLooksUptoRow : OpenClaim := { program := "ytoffiekpmomfcaadoor", sum := "4a6b1eae4acec1ba87b89a5b4a1e1417ecd0dc29901ca296e72c55dede44bca0", func := "linguist/linguistlaw11.ScreenLooks", spec := "screenLooks", named := ["linguist/cell.spans"], apart := false, laid := [("linguist/cell.spans", laid_linguist_cell_spans)], narrowed := true }
def ScreenLooksUptoSaid : Prop := screenLooksUptoRow.holds Tryd.pinned (OpenSpec.upto screenLooksSpec)

/-- 'linguistlaw11.ScreenSizes', WHERE WHAT IT READS IS OF BULK AT MOST 1048576: true; the input reads as it did. -/
def screenSizesUptoRow : OpenClaim := { program := "ytoffiekpmomfcaadoor", sum := "4a6b1eae4acec1ba87b89a5b4a1e1417ecd0dc29901ca296e72c55dede44bca0", func := "linguist/linguistlaw11.ScreenSizes", spec := "screenSizes", named := ["linguist/cell.spans"], apart := false, laid := [("linguist/cell.spans", laid_linguist_cell_spans)], narrowed := true }
def ScreenSizesUptoSaid : Prop := screenSizesUptoRow.holds Tryd.pinned (OpenSpec.upto screenSizesSpec)

end Rows
end Go.Proofs.YtoffiekpmomfcaaDoor
