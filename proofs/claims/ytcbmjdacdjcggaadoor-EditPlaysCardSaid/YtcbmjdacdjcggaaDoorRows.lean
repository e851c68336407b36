/-
  NARROWER THAN 'FOR EVERY INPUT', by the rows' own cells (each row's printed sentence says how): EditRuns: laid · EditPlays: laid · EditLaws: laid · EditRows: laid · EditParts: laid.
  DERIVED. THE GIVEN ROWS OF THIS SEAT. 5 by the template 'for every input the law returns true; each argument reads behind the call as it read before'; 0 by the template 'total and deterministic' (their statements: YtcbmjdacdjcggaaDoorTotals.lean).
  GIVEN WITH THE SEED: the statements are not yours to turn. If you find one false, say at which input.
  Laid BY PROGRAM, IN A SANDBOX (cutbox-rows.mjs): the forced cells as the released guide's own fill.sh prints them over the translation 510e54517394173d… (all of the seat's roots in one cut). By AI agents, Wed Nov 11 2026. No macro, syntax, notation, axiom, sorry.
-/
import Derived.Test.YtcbmjdacdjcggaaDoorChecked
import GoSem.Claim
import GoSem.ClaimJoined
import GoSem.ClaimMapViews
import Derived.JoinedTies
import Derived.KernelRfl
namespace Go.Proofs.YtcbmjdacdjcggaaDoor
/- THE CELL 'sum', in the pinned program and in every row, IS THE sha256 OF THE DUMP (.gsa) THAT YtcbmjdacdjcggaaDoorProg.lean LOADS. Nothing in Lean hashes anything: it is a label: what it is worth is what the hold of that sum in a sandbox is worth. -/
noncomputable def Tryd.pinned : Pinned := { name := "ytcbmjdacdjcggaadoor", sum := "510e54517394173d39354c3b134c45a7b7ee823e184e0ea1793ef4033c056071", checked := Tryd.checked }
namespace Rows
def none {H : Type} : Left H := { results := [], args := [] }

/- WHAT THE LISTED PACKAGE-LEVEL VARIABLES READ AS WHEN THE CALL BEGINS. Each datum BY PROGRAM (the guide's laid-datum.mjs) off the statement by which the dump's own 'gosem.cut.vars' lays the variable. In a bare row this is a premise. The card (YtcbmjdacdjcggaaDoorCards.lean) ties it to the program's text. -/
def laid_linguist_cell_spans {H : Type} : DataW H := .agg [.agg [.lit (.int .i32 127), .lit (.int .i32 159), .lit (.int .i64 0)], .agg [.lit (.int .i32 768), .lit (.int .i32 879), .lit (.int .i64 0)], .agg [.lit (.int .i32 4352), .lit (.int .i32 4447), .lit (.int .i64 2)], .agg [.lit (.int .i32 11904), .lit (.int .i32 42191), .lit (.int .i64 2)], .agg [.lit (.int .i32 44032), .lit (.int .i32 55203), .lit (.int .i64 2)], .agg [.lit (.int .i32 55296), .lit (.int .i32 57343), .lit (.int .i64 0)], .agg [.lit (.int .i32 63744), .lit (.int .i32 64255), .lit (.int .i64 2)], .agg [.lit (.int .i32 65072), .lit (.int .i32 65135), .lit (.int .i64 2)], .agg [.lit (.int .i32 65280), .lit (.int .i32 65376), .lit (.int .i64 2)], .agg [.lit (.int .i32 65504), .lit (.int .i32 65510), .lit (.int .i64 2)], .agg [.lit (.int .i32 127744), .lit (.int .i32 129791), .lit (.int .i64 2)], .agg [.lit (.int .i32 131072), .lit (.int .i32 262141), .lit (.int .i64 2)]]

/-- 'linguistlaw8.EditRuns': WHATEVER THE INPUT: true; the input reads as it did. -/
def editRunsSpec : ChangeSpec := { name := "editRuns", fn := fun _ => fun
  | [] => { results := [.lit (.bool true)], args := [] }
  | _ => none }
def editRunsRow : OpenClaim := { program := "ytcbmjdacdjcggaadoor", sum := "510e54517394173d39354c3b134c45a7b7ee823e184e0ea1793ef4033c056071", func := "linguist/linguistlaw8.EditRuns", spec := "editRuns", unfollowed := true, recurses := true, named := ["linguist/cell.spans"], apart := false, laid := [("linguist/cell.spans", laid_linguist_cell_spans)] }
def EditRunsSaid : Prop := editRunsRow.holds Tryd.pinned (OpenSpec.ofChange editRunsSpec)

/-- ITS FALSE NEIGHBOUR: 'it returns false'. Refute it at one input. -/
def editRunsWrong : ChangeSpec := { name := "editRuns", fn := fun _ => fun
  | [] => { results := [.lit (.bool false)], args := [] }
  | _ => none }
def EditRunsWrongFalsely : Prop := editRunsRow.holds Tryd.pinned (OpenSpec.ofChange editRunsWrong)

/-- 'linguistlaw8.EditPlays': WHATEVER THE INPUT: true; the input reads as it did. -/
def editPlaysSpec : ChangeSpec := { name := "editPlays", fn := fun _ => fun
  | [d1, d2] => { results := [.lit (.bool true)], args := [d1, d2] }
  | _ => none }
def editPlaysRow : OpenClaim := { program := "ytcbmjdacdjcggaadoor", sum := "510e54517394173d39354c3b134c45a7b7ee823e184e0ea1793ef4033c056071", func := "linguist/linguistlaw8.EditPlays", spec := "editPlays", unfollowed := true, recurses := true, named := ["linguist/cell.spans"], apart := false, laid := [("linguist/cell.spans", laid_linguist_cell_spans)] }
def EditPlaysSaid : Prop := editPlaysRow.holds Tryd.pinned (OpenSpec.ofChange editPlaysSpec)

/-- ITS FALSE NEIGHBOUR: 'it returns false'. Refute it at one input. -/
def editPlaysWrong : ChangeSpec := { name := "editPlays", fn := fun _ => fun
  | [d1, d2] => { results := [.lit (.bool false)], args := [d1, d2] }
  | _ => none }
def EditPlaysWrongFalsely : Prop := editPlaysRow.holds Tryd.pinned (OpenSpec.ofChange editPlaysWrong)

/-- 'linguistlaw8.EditLaws': WHATEVER THE INPUT: true; the input reads as it did. -/
def editLawsSpec : ChangeSpec := { name := "editLaws", fn := fun _ => fun
  | [d1, d2, d3, d4, d5] => { results := [.lit (.bool true)], args := [d1, d2, d3, d4, d5] }
  | _ => none }
def editLawsRow : OpenClaim := { program := "ytcbmjdacdjcggaadoor", sum := "510e54517394173d39354c3b134c45a7b7ee823e184e0ea1793ef4033c056071", func := "linguist/linguistlaw8.EditLaws", spec := "editLaws", unfollowed := true, recurses := true, named := ["linguist/cell.spans"], apart := false, laid := [("linguist/cell.spans", laid_linguist_cell_spans)] }
def EditLawsSaid : Prop := editLawsRow.holds Tryd.pinned (OpenSpec.ofChange editLawsSpec)

/-- ITS FALSE NEIGHBOUR: 'it returns false'. Refute it at one input. -/
def editLawsWrong : ChangeSpec := { name := "editLaws", fn := fun _ => fun
  | [d1, d2, d3, d4, d5] => { results := [.lit (.bool false)], args := [d1, d2, d3, d4, d5] }
  | _ => none }
def EditLawsWrongFalsely : Prop := editLawsRow.holds Tryd.pinned (OpenSpec.ofChange editLawsWrong)

/-- 'linguistlaw8.EditRows': WHATEVER THE INPUT: true; the input reads as it did. -/
def editRowsSpec : ChangeSpec := { name := "editRows", fn := fun _ => fun
  | [d1, d2, d3] => { results := [.lit (.bool true)], args := [d1, d2, d3] }
  | _ => none }
def editRowsRow : OpenClaim := { program := "ytcbmjdacdjcggaadoor", sum := "510e54517394173d39354c3b134c45a7b7ee823e184e0ea1793ef4033c056071", func := "linguist/linguistlaw8.EditRows", spec := "editRows", unfollowed := true, recurses := true, named := ["linguist/cell.spans"], apart := false, laid := [("linguist/cell.spans", laid_linguist_cell_spans)] }
def EditRowsSaid : Prop := editRowsRow.holds Tryd.pinned (OpenSpec.ofChange editRowsSpec)

/-- ITS FALSE NEIGHBOUR: 'it returns false'. Refute it at one input. -/
def editRowsWrong : ChangeSpec := { name := "editRows", fn := fun _ => fun
  | [d1, d2, d3] => { results := [.lit (.bool false)], args := [d1, d2, d3] }
  | _ => none }
def EditRowsWrongFalsely : Prop := editRowsRow.holds Tryd.pinned (OpenSpec.ofChange editRowsWrong)

/-- 'linguistlaw8.EditParts': WHATEVER THE INPUT: true; the input reads as it did. -/
def editPartsSpec : ChangeSpec := { name := "editParts", fn := fun _ => fun
  | [d1, d2, d3, d4] => { results := [.lit (.bool true)], args := [d1, d2, d3, d4] }
  | _ => none }
def editPartsRow : OpenClaim := { program := "ytcbmjdacdjcggaadoor", sum := "510e54517394173d39354c3b134c45a7b7ee823e184e0ea1793ef4033c056071", func := "linguist/linguistlaw8.EditParts", spec := "editParts", unfollowed := true, recurses := true, named := ["linguist/cell.spans"], apart := false, laid := [("linguist/cell.spans", laid_linguist_cell_spans)] }
def EditPartsSaid : Prop := editPartsRow.holds Tryd.pinned (OpenSpec.ofChange editPartsSpec)

/-- ITS FALSE NEIGHBOUR: 'it returns false'. Refute it at one input. -/
def editPartsWrong : ChangeSpec := { name := "editParts", fn := fun _ => fun
  | [d1, d2, d3, d4] => { results := [.lit (.bool false)], args := [d1, d2, d3, d4] }
  | _ => none }
def EditPartsWrongFalsely : Prop := editPartsRow.holds Tryd.pinned (OpenSpec.ofChange editPartsWrong)

/- THE SECOND FORM. 'bulk': how many values and letters a reading holds, each counted each time it is reached (what is shared counts as often as it is met; a slice's spare places count too). A statement '..UptoSaid' is the law's where the arguments, and the package variables that the reading takes, are together of bulk at most 1048576: NARROWER than '..Said'. Prove '..Said' where nothing that the law and all that it calls make is longer than what came in: it says more and counts as full. Else prove '..UptoSaid'. A law counts once. -/
mutual
def uptoBulk {H : Type} : DataW H → Nat
  | .lit (.string bytes) => bytes.length + 1
  | .lit _ => 1
  | .nil => 1
  | .ptr d => uptoBulk d + 1
  | .slice elems spare => uptoBulkAll elems + uptoBulkAll spare + 1
  | .agg parts => uptoBulkAll parts + 1
  | .iface _ d => uptoBulk d + 1
  | .map entries => uptoBulkEntries entries + 1
  | .held _ => 1
def uptoBulkAll {H : Type} : List (DataW H) → Nat
  | [] => 0
  | d :: r => uptoBulk d + uptoBulkAll r
def uptoBulkEntries {H : Type} : List (Lit × DataW H) → Nat
  | [] => 0
  | x :: r => uptoBulkEntry x + uptoBulkEntries r
def uptoBulkEntry {H : Type} : Lit × DataW H → Nat
  | (.string bytes, d) => bytes.length + uptoBulk d + 1
  | (_, d) => uptoBulk d + 1
 end
def uptoSmall : (H : Type) → List (DataW H) → Bool := fun _ ds => decide (uptoBulkAll ds ≤ 1048576)
def OpenSpec.upto (s : _root_.Go.ChangeSpec) : _root_.Go.OpenSpec := { _root_.Go.OpenSpec.ofChange s with cond := some uptoSmall }

/-- 'linguistlaw8.EditRuns', WHERE WHAT IT READS IS OF BULK AT MOST 1048576: true; the input reads as it did. -/
def editRunsUptoRow : OpenClaim := { program := "ytcbmjdacdjcggaadoor", sum := "510e54517394173d39354c3b134c45a7b7ee823e184e0ea1793ef4033c056071", func := "linguist/linguistlaw8.EditRuns", spec := "editRuns", unfollowed := true, recurses := true, named := ["linguist/cell.spans"], apart := false, laid := [("linguist/cell.spans", laid_linguist_cell_spans)], narrowed := true }
def EditRunsUptoSaid : Prop := editRunsUptoRow.holds Tryd.pinned (OpenSpec.upto editRunsSpec)

/-- 'linguistlaw8.EditPlays', WHERE WHAT IT READS IS OF BULK AT MOST 1048576: true; the input reads as it did. -/
def editPlaysUptoRow : OpenClaim := { program := "ytcbmjdacdjcggaadoor", sum := "510e54517394173d39354c3b134c45a7b7ee823e184e0ea1793ef4033c056071", func := "linguist/linguistlaw8.EditPlays", spec := "editPlays", unfollowed := true, recurses := true, named := ["linguist/cell.spans"], apart := false, laid := [("linguist/cell.spans", laid_linguist_cell_spans)], narrowed := true }
def EditPlaysUptoSaid : Prop := editPlaysUptoRow.holds Tryd.pinned (OpenSpec.upto editPlaysSpec)

/-- 'linguistlaw8.EditLaws', WHERE WHAT IT READS IS OF BULK AT MOST 1048576: true; the input reads as it did. -/
def editLawsUptoRow : OpenClaim := { program := "ytcbmjdacdjcggaadoor", sum := "510e54517394173d39354c3b134c45a7b7ee823e184e0ea1793ef4033c056071", func := "linguist/linguistlaw8.EditLaws", spec := "editLaws", unfollowed := true, recurses := true, named := ["linguist/cell.spans"], apart := false, laid := [("linguist/cell.spans", laid_linguist_cell_spans)], narrowed := true }
def EditLawsUptoSaid : Prop := editLawsUptoRow.holds Tryd.pinned (OpenSpec.upto editLawsSpec)

/-- 'linguistlaw8.EditRows', WHERE WHAT IT READS IS OF BULK AT MOST 1048576: true; the input reads as it did. -/
def editRowsUptoRow : OpenClaim := { program := "ytcbmjdacdjcggaadoor", sum := "510e54517394173d39354c3b134c45a7b7ee823e184e0ea1793ef4033c056071", func := "linguist/linguistlaw8.EditRows", spec := "editRows", unfollowed := true, recurses := true, named := ["linguist/cell.spans"], apart := false, laid := [("linguist/cell.spans", laid_linguist_cell_spans)], narrowed := true }
def EditRowsUptoSaid : Prop := editRowsUptoRow.holds Tryd.pinned (OpenSpec.upto editRowsSpec)

/-- 'linguistlaw8.EditParts', WHERE WHAT IT READS IS OF BULK AT MOST 1048576: true; the input reads as it did. -/
def editPartsUptoRow : OpenClaim := { program := "ytcbmjdacdjcggaadoor", sum := "510e54517394173d39354c3b134c45a7b7ee823e184e0ea1793ef4033c056071", func := "linguist/linguistlaw8.EditParts", spec := "editParts", unfollowed := true, recurses := true, named := ["linguist/cell.spans"], apart := false, laid := [("linguist/cell.spans", laid_linguist_cell_spans)], narrowed := true }
def EditPartsUptoSaid : Prop := editPartsUptoRow.holds Tryd.pinned (OpenSpec.upto editPartsSpec)

end Rows
end Go.Proofs.YtcbmjdacdjcggaaDoor
