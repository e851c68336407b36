/-
  NARROWER THAN 'FOR EVERY INPUT', by the rows' own cells (each row's printed sentence says how): CursorRuns: laid · CursorTells: laid · CursorLaws: laid · CursorScrolls: laid · CursorGo: laid.
  DERIVED. THE GIVEN ROWS OF THIS SEAT. 5 by the template 'for every input the law returns true; each argument reads behind the call as it read before'; 0 by the template 'total and deterministic' (their statements: YtbhnipepbckalaaDoorTotals.lean).
  GIVEN WITH THE SEED: the statements are not yours to turn. If you find one false, say at which input.
  Laid BY PROGRAM, IN A SANDBOX (cutbox-rows.mjs): the forced cells as the released guide's own fill.sh prints them over the translation f081009f9c7d5def… (all of the seat's roots in one cut). By AI agents, Wed Nov 11 2026. No macro, syntax, notation, axiom, sorry.
-/
import Derived.Test.YtbhnipepbckalaaDoorChecked
import GoSem.Claim
import GoSem.ClaimJoined
import GoSem.ClaimMapViews
import Derived.JoinedTies
import Derived.KernelRfl
namespace Go.Proofs.YtbhnipepbckalaaDoor
/- THE CELL 'sum', in the pinned program and in every row, IS THE sha256 OF THE DUMP (.gsa) THAT YtbhnipepbckalaaDoorProg.lean LOADS. Nothing in Lean hashes anything: it is a label: what it is worth is what the hold of that sum in a sandbox is worth. -/
noncomputable def Tryd.pinned : Pinned := { name := "ytbhnipepbckalaadoor", sum := "f081009f9c7d5def87d6e0875238a1bc88eb33b584a0125423a193cc0c0daf9a", checked := Tryd.checked }
namespace Rows
def none {H : Type} : Left H := { results := [], args := [] }

/- WHAT THE LISTED PACKAGE-LEVEL VARIABLES READ AS WHEN THE CALL BEGINS. Each datum BY PROGRAM (the guide's laid-datum.mjs) off the statement by which the dump's own 'gosem.cut.vars' lays the variable. In a bare row this is a premise. The card (YtbhnipepbckalaaDoorCards.lean) ties it to the program's text. -/
def laid_linguist_cell_spans {H : Type} : DataW H := .agg [.agg [.lit (.int .i32 127), .lit (.int .i32 159), .lit (.int .i64 0)], .agg [.lit (.int .i32 768), .lit (.int .i32 879), .lit (.int .i64 0)], .agg [.lit (.int .i32 4352), .lit (.int .i32 4447), .lit (.int .i64 2)], .agg [.lit (.int .i32 11904), .lit (.int .i32 42191), .lit (.int .i64 2)], .agg [.lit (.int .i32 44032), .lit (.int .i32 55203), .lit (.int .i64 2)], .agg [.lit (.int .i32 55296), .lit (.int .i32 57343), .lit (.int .i64 0)], .agg [.lit (.int .i32 63744), .lit (.int .i32 64255), .lit (.int .i64 2)], .agg [.lit (.int .i32 65072), .lit (.int .i32 65135), .lit (.int .i64 2)], .agg [.lit (.int .i32 65280), .lit (.int .i32 65376), .lit (.int .i64 2)], .agg [.lit (.int .i32 65504), .lit (.int .i32 65510), .lit (.int .i64 2)], .agg [.lit (.int .i32 127744), .lit (.int .i32 129791), .lit (.int .i64 2)], .agg [.lit (.int .i32 131072), .lit (.int .i32 262141), .lit (.int .i64 2)]]

/-- 'linguistlaw12.CursorRuns': WHATEVER THE INPUT: true; the input reads as it did. -/
def cursorRunsSpec : ChangeSpec := { name := "cursorRuns", fn := fun _ => fun
  | [] => { results := [.lit (.bool true)], args := [] }
  | _ => none }
def cursorRunsRow : OpenClaim := { program := "ytbhnipepbckalaadoor", sum := "f081009f9c7d5def87d6e0875238a1bc88eb33b584a0125423a193cc0c0daf9a", func := "linguist/linguistlaw12.CursorRuns", spec := "cursorRuns", unfollowed := true, recurses := true, named := ["linguist/cell.spans"], apart := false, laid := [("linguist/cell.spans", laid_linguist_cell_spans)] }
def CursorRunsSaid : Prop := cursorRunsRow.holds Tryd.pinned (OpenSpec.ofChange cursorRunsSpec)

/-- ITS FALSE NEIGHBOUR: 'it returns false'. Refute it at one input. -/
def cursorRunsWrong : ChangeSpec := { name := "cursorRuns", fn := fun _ => fun
  | [] => { results := [.lit (.bool false)], args := [] }
  | _ => none }
def CursorRunsWrongFalsely : Prop := cursorRunsRow.holds Tryd.pinned (OpenSpec.ofChange cursorRunsWrong)

/-- 'linguistlaw12.CursorTells': WHATEVER THE INPUT: true; the input reads as it did. -/
def cursorTellsSpec : ChangeSpec := { name := "cursorTells", fn := fun _ => fun
  | [d1, d2, d3, d4, d5] => { results := [.lit (.bool true)], args := [d1, d2, d3, d4, d5] }
  | _ => none }
def cursorTellsRow : OpenClaim := { program := "ytbhnipepbckalaadoor", sum := "f081009f9c7d5def87d6e0875238a1bc88eb33b584a0125423a193cc0c0daf9a", func := "linguist/linguistlaw12.CursorTells", spec := "cursorTells", unfollowed := true, recurses := true, named := ["linguist/cell.spans"], apart := false, laid := [("linguist/cell.spans", laid_linguist_cell_spans)] }
def CursorTellsSaid : Prop := cursorTellsRow.holds Tryd.pinned (OpenSpec.ofChange cursorTellsSpec)

/-- ITS FALSE NEIGHBOUR: 'it returns false'. Refute it at one input. -/
def cursorTellsWrong : ChangeSpec := { name := "cursorTells", fn := fun _ => fun
  | [d1, d2, d3, d4, d5] => { results := [.lit (.bool false)], args := [d1, d2, d3, d4, d5] }
  | _ => none }
def CursorTellsWrongFalsely : Prop := cursorTellsRow.holds Tryd.pinned (OpenSpec.ofChange cursorTellsWrong)

/-- 'linguistlaw12.CursorLaws': WHATEVER THE INPUT: true; the input reads as it did. -/
def cursorLawsSpec : ChangeSpec := { name := "cursorLaws", fn := fun _ => fun
  | [d1, d2] => { results := [.lit (.bool true)], args := [d1, d2] }
  | _ => none }
def cursorLawsRow : OpenClaim := { program := "ytbhnipepbckalaadoor", sum := "f081009f9c7d5def87d6e0875238a1bc88eb33b584a0125423a193cc0c0daf9a", func := "linguist/linguistlaw12.CursorLaws", spec := "cursorLaws", unfollowed := true, recurses := true, named := ["linguist/cell.spans"], apart := false, laid := [("linguist/cell.spans", laid_linguist_cell_spans)] }
def CursorLawsSaid : Prop := cursorLawsRow.holds Tryd.pinned (OpenSpec.ofChange cursorLawsSpec)

/-- ITS FALSE NEIGHBOUR: 'it returns false'. Refute it at one input. -/
def cursorLawsWrong : ChangeSpec := { name := "cursorLaws", fn := fun _ => fun
  | [d1, d2] => { results := [.lit (.bool false)], args := [d1, d2] }
  | _ => none }
def CursorLawsWrongFalsely : Prop := cursorLawsRow.holds Tryd.pinned (OpenSpec.ofChange cursorLawsWrong)

/-- 'linguistlaw12.CursorScrolls': WHATEVER THE INPUT: true; the input reads as it did. -/
def cursorScrollsSpec : ChangeSpec := { name := "cursorScrolls", fn := fun _ => fun
  | [d] => { results := [.lit (.bool true)], args := [d] }
  | _ => none }
def cursorScrollsRow : OpenClaim := { program := "ytbhnipepbckalaadoor", sum := "f081009f9c7d5def87d6e0875238a1bc88eb33b584a0125423a193cc0c0daf9a", func := "linguist/linguistlaw12.CursorScrolls", spec := "cursorScrolls", unfollowed := true, recurses := true, named := ["linguist/cell.spans"], apart := false, laid := [("linguist/cell.spans", laid_linguist_cell_spans)] }
def CursorScrollsSaid : Prop := cursorScrollsRow.holds Tryd.pinned (OpenSpec.ofChange cursorScrollsSpec)

/-- ITS FALSE NEIGHBOUR: 'it returns false'. Refute it at one input. -/
def cursorScrollsWrong : ChangeSpec := { name := "cursorScrolls", fn := fun _ => fun
  | [d] => { results := [.lit (.bool false)], args := [d] }
  | _ => none }
def CursorScrollsWrongFalsely : Prop := cursorScrollsRow.holds Tryd.pinned (OpenSpec.ofChange cursorScrollsWrong)

/-- 'linguistlaw12.CursorGo': WHATEVER THE INPUT: true; the input reads as it did. -/
def cursorGoSpec : ChangeSpec := { name := "cursorGo", fn := fun _ => fun
  | [d1, d2, d3] => { results := [.lit (.bool true)], args := [d1, d2, d3] }
  | _ => none }
def cursorGoRow : OpenClaim := { program := "ytbhnipepbckalaadoor", sum := "f081009f9c7d5def87d6e0875238a1bc88eb33b584a0125423a193cc0c0daf9a", func := "linguist/linguistlaw12.CursorGo", spec := "cursorGo", unfollowed := true, recurses := true, named := ["linguist/cell.spans"], apart := false, laid := [("linguist/cell.spans", laid_linguist_cell_spans)] }
def CursorGoSaid : Prop := cursorGoRow.holds Tryd.pinned (OpenSpec.ofChange cursorGoSpec)

/-- ITS FALSE NEIGHBOUR: 'it returns false'. Refute it at one input. -/
def cursorGoWrong : ChangeSpec := { name := "cursorGo", fn := fun _ => fun
  | [d1, d2, d3] => { results := [.lit (.bool false)], args := [d1, d2, d3] }
  | _ => none }
def CursorGoWrongFalsely : Prop := cursorGoRow.holds Tryd.pinned (OpenSpec.ofChange cursorGoWrong)

/- THE SECOND FORM. 'bulk': how many values and letters a reading holds, each counted each time it is reached (what is shared counts as often as it is met; a slice's spare places count too). A statement '..UptoSaid' is the law's where the arguments, and the package variables that the reading takes, are together of bulk at most 1048576: NARROWER than '..Said'. Prove '..Said' where nothing that the law and all that it calls make is longer than what came in: it says more and counts as full. Else prove '..UptoSaid'. A law counts once. -/
mutual
def uptoBulk {H : Type} : DataW H → Nat
  | .lit (.string bytes) => bytes.length + 1
  | .lit _ => 1
  | .nil => 1
  | .ptr d => uptoBulk d + 1
  | .slice elems spare => uptoBulkAll elems + uptoBulkAll spare + 1
  | .agg parts => uptoBulkAll parts + 1
  | .iface _ d => uptoBulk d + 1
  | .map entries => uptoBulkEntries entries + 1
  | .held _ => 1
def uptoBulkAll {H : Type} : List (DataW H) → Nat
  | [] => 0
  | d :: r => uptoBulk d + uptoBulkAll r
def uptoBulkEntries {H : Type} : List (Lit × DataW H) → Nat
  | [] => 0
  | x :: r => uptoBulkEntry x + uptoBulkEntries r
def uptoBulkEntry {H : Type} : Lit × DataW H → Nat
  | (.string bytes, d) => bytes.length + uptoBulk d + 1
  | (_, d) => uptoBulk d + 1
 end
def uptoSmall : (H : Type) → List (DataW H) → Bool := fun _ ds => decide (uptoBulkAll ds ≤ 1048576)
def OpenSpec.upto (s : _root_.Go.ChangeSpec) : _root_.Go.OpenSpec := { _root_.Go.OpenSpec.ofChange s with cond := some uptoSmall }

/-- 'linguistlaw12.CursorRuns', WHERE WHAT IT READS IS OF BULK AT MOST 1048576: true; the input reads as it did. -/
def cursorRunsUptoRow : OpenClaim := { program := "ytbhnipepbckalaadoor", sum := "f081009f9c7d5def87d6e0875238a1bc88eb33b584a0125423a193cc0c0daf9a", func := "linguist/linguistlaw12.CursorRuns", spec := "cursorRuns", unfollowed := true, recurses := true, named := ["linguist/cell.spans"], apart := false, laid := [("linguist/cell.spans", laid_linguist_cell_spans)], narrowed := true }
def CursorRunsUptoSaid : Prop := cursorRunsUptoRow.holds Tryd.pinned (OpenSpec.upto cursorRunsSpec)

/-- 'linguistlaw12.CursorTells', WHERE WHAT IT READS IS OF BULK AT MOST 1048576: true; the input reads as it did. -/
def cursorTellsUptoRow : OpenClaim := { program := "ytbhnipepbckalaadoor", sum := "f081009f9c7d5def87d6e0875238a1bc88eb33b584a0125423a193cc0c0daf9a", func := "linguist/linguistlaw12.CursorTells", spec := "cursorTells", unfollowed := true, recurses := true, named := ["linguist/cell.spans"], apart := false, laid := [("linguist/cell.spans", laid_linguist_cell_spans)], narrowed := true }
def CursorTellsUptoSaid : Prop := cursorTellsUptoRow.holds Tryd.pinned (OpenSpec.upto cursorTellsSpec)

/-- 'linguistlaw12.CursorLaws', WHERE WHAT IT READS IS OF BULK AT MOST 1048576: true; the input reads as it did. -/
def cursorLawsUptoRow : OpenClaim := { program := "ytbhnipepbckalaadoor", sum := "f081009f9c7d5def87d6e0875238a1bc88eb33b584a0125423a193cc0c0daf9a", func := "linguist/linguistlaw12.CursorLaws", spec := "cursorLaws", unfollowed := true, recurses := true, named := ["linguist/cell.spans"], apart := false, laid := [("linguist/cell.spans", laid_linguist_cell_spans)], narrowed := true }
def CursorLawsUptoSaid : Prop := cursorLawsUptoRow.holds Tryd.pinned (OpenSpec.upto cursorLawsSpec)

/-- 'linguistlaw12.CursorScrolls', WHERE WHAT IT READS IS OF BULK AT MOST 1048576: true; the input reads as it did. -/
def cursorScrollsUptoRow : OpenClaim := { program := "ytbhnipepbckalaadoor", sum := "f081009f9c7d5def87d6e0875238a1bc88eb33b584a0125423a193cc0c0daf9a", func := "linguist/linguistlaw12.CursorScrolls", spec := "cursorScrolls", unfollowed := true, recurses := true, named := ["linguist/cell.spans"], apart := false, laid := [("linguist/cell.spans", laid_linguist_cell_spans)], narrowed := true }
def CursorScrollsUptoSaid : Prop := cursorScrollsUptoRow.holds Tryd.pinned (OpenSpec.upto cursorScrollsSpec)

/-- 'linguistlaw12.CursorGo', WHERE WHAT IT READS IS OF BULK AT MOST 1048576: true; the input reads as it did. -/
def cursorGoUptoRow : OpenClaim := { program := "ytbhnipepbckalaadoor", sum := "f081009f9c7d5def87d6e0875238a1bc88eb33b584a0125423a193cc0c0daf9a", func := "linguist/linguistlaw12.CursorGo", spec := "cursorGo", unfollowed := true, recurses := true, named := ["linguist/cell.spans"], apart := false, laid := [("linguist/cell.spans", laid_linguist_cell_spans)], narrowed := true }
def CursorGoUptoSaid : Prop := cursorGoUptoRow.holds Tryd.pinned (OpenSpec.upto cursorGoSpec)

end Rows
end Go.Proofs.YtbhnipepbckalaaDoor
