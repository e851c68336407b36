/-
  NARROWER THAN 'FOR EVERY INPUT', by the rows' own cells (each row's printed sentence says how): ModesRuns: laid · ModesTells: laid · ModesMany: laid · ModesOrigin: laid.
  DERIVED. THE GIVEN ROWS OF THIS SEAT. 4 by the template 'for every input the law returns true; each argument reads behind the call as it read before'; 0 by the template 'total and deterministic' (their statements: YtdcdinlppjlmfaaDoorTotals.lean).
  GIVEN WITH THE SEED: the statements are not yours to turn. If you find one false, say at which input.
  Laid BY PROGRAM, IN A SANDBOX (cutbox-rows.mjs): the forced cells as the released guide's own fill.sh prints them over the translation 2579a2d49f9fe261… (all of the seat's roots in one cut). By AI agents, Wed Nov 11 2026. No macro, syntax, notation, axiom, sorry.
-/
import Derived.Test.YtdcdinlppjlmfaaDoorChecked
import GoSem.Claim
import GoSem.ClaimJoined
import GoSem.ClaimMapViews
import Derived.JoinedTies
import Derived.KernelRfl
namespace Go.Proofs.YtdcdinlppjlmfaaDoor
/- THE CELL 'sum', in the pinned program and in every row, IS THE sha256 OF THE DUMP (.gsa) THAT YtdcdinlppjlmfaaDoorProg.lean LOADS. Nothing in Lean hashes anything: it is a label: what it is worth is what the hold of that sum in a sandbox is worth. -/
noncomputable def Tryd.pinned : Pinned := { name := "ytdcdinlppjlmfaadoor", sum := "2579a2d49f9fe261371566a8b699fd7eba465cf9c66573c2d40b989a84b9b206", checked := Tryd.checked }
namespace Rows
def none {H : Type} : Left H := { results := [], args := [] }

/- WHAT THE LISTED PACKAGE-LEVEL VARIABLES READ AS WHEN THE CALL BEGINS. Each datum BY PROGRAM (the guide's laid-datum.mjs) off the statement by which the dump's own 'gosem.cut.vars' lays the variable. In a bare row this is a premise. The card (YtdcdinlppjlmfaaDoorCards.lean) ties it to the program's text. -/
def laid_linguist_modes_known {H : Type} : DataW H := .agg [.lit (.int .i64 1), .lit (.int .i64 6), .lit (.int .i64 7), .lit (.int .i64 25)]
def laid_linguist_cell_spans {H : Type} : DataW H := .agg [.agg [.lit (.int .i32 127), .lit (.int .i32 159), .lit (.int .i64 0)], .agg [.lit (.int .i32 768), .lit (.int .i32 879), .lit (.int .i64 0)], .agg [.lit (.int .i32 4352), .lit (.int .i32 4447), .lit (.int .i64 2)], .agg [.lit (.int .i32 11904), .lit (.int .i32 42191), .lit (.int .i64 2)], .agg [.lit (.int .i32 44032), .lit (.int .i32 55203), .lit (.int .i64 2)], .agg [.lit (.int .i32 55296), .lit (.int .i32 57343), .lit (.int .i64 0)], .agg [.lit (.int .i32 63744), .lit (.int .i32 64255), .lit (.int .i64 2)], .agg [.lit (.int .i32 65072), .lit (.int .i32 65135), .lit (.int .i64 2)], .agg [.lit (.int .i32 65280), .lit (.int .i32 65376), .lit (.int .i64 2)], .agg [.lit (.int .i32 65504), .lit (.int .i32 65510), .lit (.int .i64 2)], .agg [.lit (.int .i32 127744), .lit (.int .i32 129791), .lit (.int .i64 2)], .agg [.lit (.int .i32 131072), .lit (.int .i32 262141), .lit (.int .i64 2)]]

/-- 'linguistlaw13.ModesRuns': WHATEVER THE INPUT: true; the input reads as it did. -/
def modesRunsSpec : ChangeSpec := { name := "modesRuns", fn := fun _ => fun
  | [] => { results := [.lit (.bool true)], args := [] }
  | _ => none }
def modesRunsRow : OpenClaim := { program := "ytdcdinlppjlmfaadoor", sum := "2579a2d49f9fe261371566a8b699fd7eba465cf9c66573c2d40b989a84b9b206", func := "linguist/linguistlaw13.ModesRuns", spec := "modesRuns", named := ["linguist/modes.known"], apart := false, laid := [("linguist/modes.known", laid_linguist_modes_known)] }
def ModesRunsSaid : Prop := modesRunsRow.holds Tryd.pinned (OpenSpec.ofChange modesRunsSpec)

/-- ITS FALSE NEIGHBOUR: 'it returns false'. Refute it at one input. -/
def modesRunsWrong : ChangeSpec := { name := "modesRuns", fn := fun _ => fun
  | [] => { results := [.lit (.bool false)], args := [] }
  | _ => none }
def ModesRunsWrongFalsely : Prop := modesRunsRow.holds Tryd.pinned (OpenSpec.ofChange modesRunsWrong)

/-- 'linguistlaw13.ModesTells': WHATEVER THE INPUT: true; the input reads as it did. -/
def modesTellsSpec : ChangeSpec := { name := "modesTells", fn := fun _ => fun
  | [d1, d2, d3, d4, d5] => { results := [.lit (.bool true)], args := [d1, d2, d3, d4, d5] }
  | _ => none }
def modesTellsRow : OpenClaim := { program := "ytdcdinlppjlmfaadoor", sum := "2579a2d49f9fe261371566a8b699fd7eba465cf9c66573c2d40b989a84b9b206", func := "linguist/linguistlaw13.ModesTells", spec := "modesTells", named := ["linguist/cell.spans", "linguist/modes.known"], apart := false, laid := [("linguist/cell.spans", laid_linguist_cell_spans), ("linguist/modes.known", laid_linguist_modes_known)] }
def ModesTellsSaid : Prop := modesTellsRow.holds Tryd.pinned (OpenSpec.ofChange modesTellsSpec)

/-- ITS FALSE NEIGHBOUR: 'it returns false'. Refute it at one input. -/
def modesTellsWrong : ChangeSpec := { name := "modesTells", fn := fun _ => fun
  | [d1, d2, d3, d4, d5] => { results := [.lit (.bool false)], args := [d1, d2, d3, d4, d5] }
  | _ => none }
def ModesTellsWrongFalsely : Prop := modesTellsRow.holds Tryd.pinned (OpenSpec.ofChange modesTellsWrong)

/-- 'linguistlaw13.ModesMany': WHATEVER THE INPUT: true; the input reads as it did. -/
def modesManySpec : ChangeSpec := { name := "modesMany", fn := fun _ => fun
  | [d1, d2, d3] => { results := [.lit (.bool true)], args := [d1, d2, d3] }
  | _ => none }
def modesManyRow : OpenClaim := { program := "ytdcdinlppjlmfaadoor", sum := "2579a2d49f9fe261371566a8b699fd7eba465cf9c66573c2d40b989a84b9b206", func := "linguist/linguistlaw13.ModesMany", spec := "modesMany", named := ["linguist/modes.known"], apart := false, laid := [("linguist/modes.known", laid_linguist_modes_known)] }
def ModesManySaid : Prop := modesManyRow.holds Tryd.pinned (OpenSpec.ofChange modesManySpec)

/-- ITS FALSE NEIGHBOUR: 'it returns false'. Refute it at one input. -/
def modesManyWrong : ChangeSpec := { name := "modesMany", fn := fun _ => fun
  | [d1, d2, d3] => { results := [.lit (.bool false)], args := [d1, d2, d3] }
  | _ => none }
def ModesManyWrongFalsely : Prop := modesManyRow.holds Tryd.pinned (OpenSpec.ofChange modesManyWrong)

/-- 'linguistlaw13.ModesOrigin': WHATEVER THE INPUT: true; the input reads as it did. -/
def modesOriginSpec : ChangeSpec := { name := "modesOrigin", fn := fun _ => fun
  | [d] => { results := [.lit (.bool true)], args := [d] }
  | _ => none }
def modesOriginRow : OpenClaim := { program := "ytdcdinlppjlmfaadoor", sum := "2579a2d49f9fe261371566a8b699fd7eba465cf9c66573c2d40b989a84b9b206", func := "linguist/linguistlaw13.ModesOrigin", spec := "modesOrigin", named := ["linguist/modes.known"], apart := false, laid := [("linguist/modes.known", laid_linguist_modes_known)] }
def ModesOriginSaid : Prop := modesOriginRow.holds Tryd.pinned (OpenSpec.ofChange modesOriginSpec)

/-- ITS FALSE NEIGHBOUR: 'it returns false'. Refute it at one input. -/
def modesOriginWrong : ChangeSpec := { name := "modesOrigin", fn := fun _ => fun
  | [d] => { results := [.lit (.bool false)], args := [d] }
  | _ => none }
def ModesOriginWrongFalsely : Prop := modesOriginRow.holds Tryd.pinned (OpenSpec.ofChange modesOriginWrong)

/- THE SECOND FORM. 'bulk': how many values and letters a reading holds, each counted each time it is reached (what is shared counts as often as it is met; a slice's spare places count too). A statement '..UptoSaid' is the law's where the arguments, and the package variables that the reading takes, are together of bulk at most 1048576: NARROWER than '..Said'. Prove '..Said' where nothing that the law and all that it calls make is longer than what came in: it says more and counts as full. Else prove '..UptoSaid'. A law counts once. -/
mutual
def uptoBulk {H : Type} : DataW H → Nat
  | .lit (.string bytes) => bytes.length + 1
  | .lit _ => 1
  | .nil => 1
  | .ptr d => uptoBulk d + 1
  | .slice elems spare => uptoBulkAll elems + uptoBulkAll spare + 1
  | .agg parts => uptoBulkAll parts + 1
  | .iface _ d => uptoBulk d + 1
  | .map entries => uptoBulkEntries entries + 1
  | .held _ => 1
def uptoBulkAll {H : Type} : List (DataW H) → Nat
  | [] => 0
  | d :: r => uptoBulk d + uptoBulkAll r
def uptoBulkEntries {H : Type} : List (Lit × DataW H) → Nat
  | [] => 0
  | x :: r => uptoBulkEntry x + uptoBulkEntries r
def uptoBulkEntry {H : Type} : Lit × DataW H → Nat
  | (.string bytes, d) => bytes.length + uptoBulk d + 1
  | (_, d) => uptoBulk d + 1
 end
def uptoSmall : (H : Type) → List (DataW H) → Bool := fun _ ds => decide (uptoBulkAll ds ≤ 1048576)
def OpenSpec.upto (s : _root_.Go.ChangeSpec) : _root_.Go.OpenSpec := { _root_.Go.OpenSpec.ofChange s with cond := some uptoSmall }

/-- 'linguistlaw13.ModesRuns', WHERE WHAT IT READS IS OF BULK AT MOST 1048576: true; the input reads as it did. -/
def modesRunsUptoRow : OpenClaim := { program := "ytdcdinlppjlmfaadoor", sum := "2579a2d49f9fe261371566a8b699fd7eba465cf9c66573c2d40b989a84b9b206", func := "linguist/linguistlaw13.ModesRuns", spec := "modesRuns", named := ["linguist/modes.known"], apart := false, laid := [("linguist/modes.known", laid_linguist_modes_known)], narrowed := true }
def ModesRunsUptoSaid : Prop := modesRunsUptoRow.holds Tryd.pinned (OpenSpec.upto modesRunsSpec)

/-- 'linguistlaw13.ModesTells', WHERE WHAT IT READS IS OF BULK AT MOST 1048576: true; the input reads as it did. -/
def modesTellsUptoRow : OpenClaim := { program := "ytdcdinlppjlmfaadoor", sum := "2579a2d49f9fe261371566a8b699fd7eba465cf9c66573c2d40b989a84b9b206", func := "linguist/linguistlaw13.ModesTells", spec := "modesTells", named := ["linguist/cell.spans", "linguist/modes.known"], apart := false, laid := [("linguist/cell.spans", laid_linguist_cell_spans), ("linguist/modes.known", laid_linguist_modes_known)], narrowed := true }
def ModesTellsUptoSaid : Prop := modesTellsUptoRow.holds Tryd.pinned (OpenSpec.upto modesTellsSpec)

/-- 'linguistlaw13.ModesMany', WHERE WHAT IT READS IS OF BULK AT MOST 1048576: true; the input reads as it did. -/
def modesManyUptoRow : OpenClaim := { program := "ytdcdinlppjlmfaadoor", sum := "2579a2d49f9fe261371566a8b699fd7eba465cf9c66573c2d40b989a84b9b206", func := "linguist/linguistlaw13.ModesMany", spec := "modesMany", named := ["linguist/modes.known"], apart := false, laid := [("linguist/modes.known", laid_linguist_modes_known)], narrowed := true }
def ModesManyUptoSaid : Prop := modesManyUptoRow.holds Tryd.pinned (OpenSpec.upto modesManySpec)

/-- 'linguistlaw13.ModesOrigin', WHERE WHAT IT READS IS OF BULK AT MOST 1048576: true; the input reads as it did. -/
def modesOriginUptoRow : OpenClaim := { program := "ytdcdinlppjlmfaadoor", sum := "2579a2d49f9fe261371566a8b699fd7eba465cf9c66573c2d40b989a84b9b206", func := "linguist/linguistlaw13.ModesOrigin", spec := "modesOrigin", named := ["linguist/modes.known"], apart := false, laid := [("linguist/modes.known", laid_linguist_modes_known)], narrowed := true }
def ModesOriginUptoSaid : Prop := modesOriginUptoRow.holds Tryd.pinned (OpenSpec.upto modesOriginSpec)

end Rows
end Go.Proofs.YtdcdinlppjlmfaaDoor
