/-
  NARROWER THAN 'FOR EVERY INPUT', by the rows' own cells (each row's printed sentence says how): CellRuns: laid · CellTells: laid · CellPacks: laid · CellWidths: laid · CellFlags: laid.
  DERIVED. THE GIVEN ROWS OF THIS SEAT. 5 by the template 'for every input the law returns true; each argument reads behind the call as it read before'; 0 by the template 'total and deterministic' (their statements: YtcadaeidcdnldaaDoorTotals.lean).
  GIVEN WITH THE SEED: the statements are not yours to turn. If you find one false, say at which input.
  Laid BY PROGRAM, IN A SANDBOX (cutbox-rows.mjs): the forced cells as the released guide's own fill.sh prints them over the translation c41f99d1c56a9eff… (all of the seat's roots in one cut). By AI agents, Wed Nov 11 2026. No macro, syntax, notation, axiom, sorry.
-/
import Derived.Test.YtcadaeidcdnldaaDoorChecked
import GoSem.Claim
import GoSem.ClaimJoined
import GoSem.ClaimMapViews
import Derived.JoinedTies
import Derived.KernelRfl
namespace Go.Proofs.YtcadaeidcdnldaaDoor
/- THE CELL 'sum', in the pinned program and in every row, IS THE sha256 OF THE DUMP (.gsa) THAT YtcadaeidcdnldaaDoorProg.lean LOADS. Nothing in Lean hashes anything: it is a label: what it is worth is what the hold of that sum in a sandbox is worth. -/
noncomputable def Tryd.pinned : Pinned := { name := "ytcadaeidcdnldaadoor", sum := "c41f99d1c56a9eff76170ab4753e3175b1a3d98b42b1f0266e5c267c3bc61c34", checked := Tryd.checked }
namespace Rows
def none {H : Type} : Left H := { results := [], args := [] }

/- WHAT THE LISTED PACKAGE-LEVEL VARIABLES READ AS WHEN THE CALL BEGINS. Each datum BY PROGRAM (the guide's laid-datum.mjs) off the statement by which the dump's own 'gosem.cut.vars' lays the variable. In a bare row this is a premise. The card (YtcadaeidcdnldaaDoorCards.lean) ties it to the program's text. -/
def laid_linguist_cell_spans {H : Type} : DataW H := .agg [.agg [.lit (.int .i32 127), .lit (.int .i32 159), .lit (.int .i64 0)], .agg [.lit (.int .i32 768), .lit (.int .i32 879), .lit (.int .i64 0)], .agg [.lit (.int .i32 4352), .lit (.int .i32 4447), .lit (.int .i64 2)], .agg [.lit (.int .i32 11904), .lit (.int .i32 42191), .lit (.int .i64 2)], .agg [.lit (.int .i32 44032), .lit (.int .i32 55203), .lit (.int .i64 2)], .agg [.lit (.int .i32 55296), .lit (.int .i32 57343), .lit (.int .i64 0)], .agg [.lit (.int .i32 63744), .lit (.int .i32 64255), .lit (.int .i64 2)], .agg [.lit (.int .i32 65072), .lit (.int .i32 65135), .lit (.int .i64 2)], .agg [.lit (.int .i32 65280), .lit (.int .i32 65376), .lit (.int .i64 2)], .agg [.lit (.int .i32 65504), .lit (.int .i32 65510), .lit (.int .i64 2)], .agg [.lit (.int .i32 127744), .lit (.int .i32 129791), .lit (.int .i64 2)], .agg [.lit (.int .i32 131072), .lit (.int .i32 262141), .lit (.int .i64 2)]]

/-- 'linguistlaw2.CellRuns': WHATEVER THE INPUT: true; the input reads as it did. -/
def cellRunsSpec : ChangeSpec := { name := "cellRuns", fn := fun _ => fun
  | [] => { results := [.lit (.bool true)], args := [] }
  | _ => none }
def cellRunsRow : OpenClaim := { program := "ytcadaeidcdnldaadoor", sum := "c41f99d1c56a9eff76170ab4753e3175b1a3d98b42b1f0266e5c267c3bc61c34", func := "linguist/linguistlaw2.CellRuns", spec := "cellRuns", named := ["linguist/cell.spans"], apart := false, laid := [("linguist/cell.spans", laid_linguist_cell_spans)] }
def CellRunsSaid : Prop := cellRunsRow.holds Tryd.pinned (OpenSpec.ofChange cellRunsSpec)

/-- ITS FALSE NEIGHBOUR: 'it returns false'. Refute it at one input. -/
def cellRunsWrong : ChangeSpec := { name := "cellRuns", fn := fun _ => fun
  | [] => { results := [.lit (.bool false)], args := [] }
  | _ => none }
def CellRunsWrongFalsely : Prop := cellRunsRow.holds Tryd.pinned (OpenSpec.ofChange cellRunsWrong)

/-- 'linguistlaw2.CellTells': WHATEVER THE INPUT: true; the input reads as it did. -/
def cellTellsSpec : ChangeSpec := { name := "cellTells", fn := fun _ => fun
  | [d1, d2, d3] => { results := [.lit (.bool true)], args := [d1, d2, d3] }
  | _ => none }
def cellTellsRow : OpenClaim := { program := "ytcadaeidcdnldaadoor", sum := "c41f99d1c56a9eff76170ab4753e3175b1a3d98b42b1f0266e5c267c3bc61c34", func := "linguist/linguistlaw2.CellTells", spec := "cellTells", named := ["linguist/cell.spans"], apart := false, laid := [("linguist/cell.spans", laid_linguist_cell_spans)] }
def CellTellsSaid : Prop := cellTellsRow.holds Tryd.pinned (OpenSpec.ofChange cellTellsSpec)

/-- ITS FALSE NEIGHBOUR: 'it returns false'. Refute it at one input. -/
def cellTellsWrong : ChangeSpec := { name := "cellTells", fn := fun _ => fun
  | [d1, d2, d3] => { results := [.lit (.bool false)], args := [d1, d2, d3] }
  | _ => none }
def CellTellsWrongFalsely : Prop := cellTellsRow.holds Tryd.pinned (OpenSpec.ofChange cellTellsWrong)

/-- 'linguistlaw2.CellPacks': WHATEVER THE INPUT: true; the input reads as it did. -/
def cellPacksSpec : ChangeSpec := { name := "cellPacks", fn := fun _ => fun
  | [d1, d2, d3, d4] => { results := [.lit (.bool true)], args := [d1, d2, d3, d4] }
  | _ => none }
def cellPacksRow : OpenClaim := { program := "ytcadaeidcdnldaadoor", sum := "c41f99d1c56a9eff76170ab4753e3175b1a3d98b42b1f0266e5c267c3bc61c34", func := "linguist/linguistlaw2.CellPacks", spec := "cellPacks", named := ["linguist/cell.spans"], apart := false, laid := [("linguist/cell.spans", laid_linguist_cell_spans)] }
def CellPacksSaid : Prop := cellPacksRow.holds Tryd.pinned (OpenSpec.ofChange cellPacksSpec)

/-- ITS FALSE NEIGHBOUR: 'it returns false'. Refute it at one input. -/
def cellPacksWrong : ChangeSpec := { name := "cellPacks", fn := fun _ => fun
  | [d1, d2, d3, d4] => { results := [.lit (.bool false)], args := [d1, d2, d3, d4] }
  | _ => none }
def CellPacksWrongFalsely : Prop := cellPacksRow.holds Tryd.pinned (OpenSpec.ofChange cellPacksWrong)

/-- 'linguistlaw2.CellWidths': WHATEVER THE INPUT: true; the input reads as it did. -/
def cellWidthsSpec : ChangeSpec := { name := "cellWidths", fn := fun _ => fun
  | [d] => { results := [.lit (.bool true)], args := [d] }
  | _ => none }
def cellWidthsRow : OpenClaim := { program := "ytcadaeidcdnldaadoor", sum := "c41f99d1c56a9eff76170ab4753e3175b1a3d98b42b1f0266e5c267c3bc61c34", func := "linguist/linguistlaw2.CellWidths", spec := "cellWidths", named := ["linguist/cell.spans"], apart := false, laid := [("linguist/cell.spans", laid_linguist_cell_spans)] }
def CellWidthsSaid : Prop := cellWidthsRow.holds Tryd.pinned (OpenSpec.ofChange cellWidthsSpec)

/-- ITS FALSE NEIGHBOUR: 'it returns false'. Refute it at one input. -/
def cellWidthsWrong : ChangeSpec := { name := "cellWidths", fn := fun _ => fun
  | [d] => { results := [.lit (.bool false)], args := [d] }
  | _ => none }
def CellWidthsWrongFalsely : Prop := cellWidthsRow.holds Tryd.pinned (OpenSpec.ofChange cellWidthsWrong)

/-- 'linguistlaw2.CellFlags': WHATEVER THE INPUT: true; the input reads as it did. -/
def cellFlagsSpec : ChangeSpec := { name := "cellFlags", fn := fun _ => fun
  | [d1, d2] => { results := [.lit (.bool true)], args := [d1, d2] }
  | _ => none }
def cellFlagsRow : OpenClaim := { program := "ytcadaeidcdnldaadoor", sum := "c41f99d1c56a9eff76170ab4753e3175b1a3d98b42b1f0266e5c267c3bc61c34", func := "linguist/linguistlaw2.CellFlags", spec := "cellFlags", named := ["linguist/cell.spans"], apart := false, laid := [("linguist/cell.spans", laid_linguist_cell_spans)] }
def CellFlagsSaid : Prop := cellFlagsRow.holds Tryd.pinned (OpenSpec.ofChange cellFlagsSpec)

/-- ITS FALSE NEIGHBOUR: 'it returns false'. Refute it at one input. -/
def cellFlagsWrong : ChangeSpec := { name := "cellFlags", fn := fun _ => fun
  | [d1, d2] => { results := [.lit (.bool false)], args := [d1, d2] }
  | _ => none }
def CellFlagsWrongFalsely : Prop := cellFlagsRow.holds Tryd.pinned (OpenSpec.ofChange cellFlagsWrong)

/- THE SECOND FORM. 'bulk': how many values and letters a reading holds, each counted each time it is reached (what is shared counts as often as it is met; a slice's spare places count too). A statement '..UptoSaid' is the law's where the arguments, and the package variables that the reading takes, are together of bulk at most 1048576: NARROWER than '..Said'. Prove '..Said' where nothing that the law and all that it calls make is longer than what came in: it says more and counts as full. Else prove '..UptoSaid'. A law counts once. -/
mutual
def uptoBulk {H : Type} : DataW H → Nat
  | .lit (.string bytes) => bytes.length + 1
  | .lit _ => 1
  | .nil => 1
  | .ptr d => uptoBulk d + 1
  | .slice elems spare => uptoBulkAll elems + uptoBulkAll spare + 1
  | .agg parts => uptoBulkAll parts + 1
  | .iface _ d => uptoBulk d + 1
  | .map entries => uptoBulkEntries entries + 1
  | .held _ => 1
def uptoBulkAll {H : Type} : List (DataW H) → Nat
  | [] => 0
  | d :: r => uptoBulk d + uptoBulkAll r
def uptoBulkEntries {H : Type} : List (Lit × DataW H) → Nat
  | [] => 0
  | x :: r => uptoBulkEntry x + uptoBulkEntries r
def uptoBulkEntry {H : Type} : Lit × DataW H → Nat
  | (.string bytes, d) => bytes.length + uptoBulk d + 1
  | (_, d) => uptoBulk d + 1
 end
def uptoSmall : (H : Type) → List (DataW H) → Bool := fun _ ds => decide (uptoBulkAll ds ≤ 1048576)
def OpenSpec.upto (s : _root_.Go.ChangeSpec) : _root_.Go.OpenSpec := { _root_.Go.OpenSpec.ofChange s with cond := some uptoSmall }

/-- 'linguistlaw2.CellRuns', WHERE WHAT IT READS IS OF BULK AT MOST 1048576: true; the input reads as it did. -/
def cellRunsUptoRow : OpenClaim := { program := "ytcadaeidcdnldaadoor", sum := "c41f99d1c56a9eff76170ab4753e3175b1a3d98b42b1f0266e5c267c3bc61c34", func := "linguist/linguistlaw2.CellRuns", spec := "cellRuns", named := ["linguist/cell.spans"], apart := false, laid := [("linguist/cell.spans", laid_linguist_cell_spans)], narrowed := true }
def CellRunsUptoSaid : Prop := cellRunsUptoRow.holds Tryd.pinned (OpenSpec.upto cellRunsSpec)

/-- 'linguistlaw2.CellTells', WHERE WHAT IT READS IS OF BULK AT MOST 1048576: true; the input reads as it did. -/
def cellTellsUptoRow : OpenClaim := { program := "ytcadaeidcdnldaadoor", sum := "c41f99d1c56a9eff76170ab4753e3175b1a3d98b42b1f0266e5c267c3bc61c34", func := "linguist/linguistlaw2.CellTells", spec := "cellTells", named := ["linguist/cell.spans"], apart := false, laid := [("linguist/cell.spans", laid_linguist_cell_spans)], narrowed := true }
def CellTellsUptoSaid : Prop := cellTellsUptoRow.holds Tryd.pinned (OpenSpec.upto cellTellsSpec)

/-- 'linguistlaw2.CellPacks', WHERE WHAT IT READS IS OF BULK AT MOST 1048576: true; the input reads as it did. -/
def cellPacksUptoRow : OpenClaim := { program := "ytcadaeidcdnldaadoor", sum := "c41f99d1c56a9eff76170ab4753e3175b1a3d98b42b1f0266e5c267c3bc61c34", func := "linguist/linguistlaw2.CellPacks", spec := "cellPacks", named := ["linguist/cell.spans"], apart := false, laid := [("linguist/cell.spans", laid_linguist_cell_spans)], narrowed := true }
def CellPacksUptoSaid : Prop := cellPacksUptoRow.holds Tryd.pinned (OpenSpec.upto cellPacksSpec)

/-- 'linguistlaw2.CellWidths', WHERE WHAT IT READS IS OF BULK AT MOST 1048576: true; the input reads as it did. -/
def cellWidthsUptoRow : OpenClaim := { program := "ytcadaeidcdnldaadoor", sum := "c41f99d1c56a9eff76170ab4753e3175b1a3d98b42b1f0266e5c267c3bc61c34", func := "linguist/linguistlaw2.CellWidths", spec := "cellWidths", named := ["linguist/cell.spans"], apart := false, laid := [("linguist/cell.spans", laid_linguist_cell_spans)], narrowed := true }
def CellWidthsUptoSaid : Prop := cellWidthsUptoRow.holds Tryd.pinned (OpenSpec.upto cellWidthsSpec)

/-- 'linguistlaw2.CellFlags', WHERE WHAT IT READS IS OF BULK AT MOST 1048576: true; the input reads as it did. -/
def cellFlagsUptoRow : OpenClaim := { program := "ytcadaeidcdnldaadoor", sum := "c41f99d1c56a9eff76170ab4753e3175b1a3d98b42b1f0266e5c267c3bc61c34", func := "linguist/linguistlaw2.CellFlags", spec := "cellFlags", named := ["linguist/cell.spans"], apart := false, laid := [("linguist/cell.spans", laid_linguist_cell_spans)], narrowed := true }
def CellFlagsUptoSaid : Prop := cellFlagsUptoRow.holds Tryd.pinned (OpenSpec.upto cellFlagsSpec)

end Rows
end Go.Proofs.YtcadaeidcdnldaaDoor
