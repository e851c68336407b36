/-
  NARROWER THAN 'FOR EVERY INPUT', by the rows' own cells (each row's printed sentence says how): PenRuns: laid · PenTells: laid · PenSaid: laid · PenParts: laid · PenColours: laid.
  DERIVED. THE GIVEN ROWS OF THIS SEAT. 5 by the template 'for every input the law returns true; each argument reads behind the call as it read before'; 0 by the template 'total and deterministic' (their statements: YtnjkongbccblaaaDoorTotals.lean).
  GIVEN WITH THE SEED: the statements are not yours to turn. If you find one false, say at which input.
  Laid BY PROGRAM, IN A SANDBOX (cutbox-rows.mjs): the forced cells as the released guide's own fill.sh prints them over the translation 3fd7e12cfd890a80… (all of the seat's roots in one cut). By AI agents, Wed Nov 11 2026. No macro, syntax, notation, axiom, sorry.
-/
import Derived.Test.YtnjkongbccblaaaDoorChecked
import GoSem.Claim
import GoSem.ClaimJoined
import GoSem.ClaimMapViews
import Derived.JoinedTies
import Derived.KernelRfl
namespace Go.Proofs.YtnjkongbccblaaaDoor
/- THE CELL 'sum', in the pinned program and in every row, IS THE sha256 OF THE DUMP (.gsa) THAT YtnjkongbccblaaaDoorProg.lean LOADS. Nothing in Lean hashes anything: it is a label: what it is worth is what the hold of that sum in a sandbox is worth. -/
noncomputable def Tryd.pinned : Pinned := { name := "ytnjkongbccblaaadoor", sum := "3fd7e12cfd890a80e7a999a9d3aa7121b28582774386c5066bcd8305d199e6f4", checked := Tryd.checked }
namespace Rows
def none {H : Type} : Left H := { results := [], args := [] }

/- WHAT THE LISTED PACKAGE-LEVEL VARIABLES READ AS WHEN THE CALL BEGINS. Each datum BY PROGRAM (the guide's laid-datum.mjs) off the statement by which the dump's own 'gosem.cut.vars' lays the variable. In a bare row this is a premise. The card (YtnjkongbccblaaaDoorCards.lean) ties it to the program's text. -/
def laid_linguist_pen_flags {H : Type} : DataW H := .agg [.lit (.int .i64 0), .lit (.int .i64 1), .lit (.int .i64 2), .lit (.int .i64 4), .lit (.int .i64 8), .lit (.int .i64 16), .lit (.int .i64 0), .lit (.int .i64 32), .lit (.int .i64 64), .lit (.int .i64 128)]

/-- 'linguistlaw10.PenRuns': WHATEVER THE INPUT: true; the input reads as it did. -/
def penRunsSpec : ChangeSpec := { name := "penRuns", fn := fun _ => fun
  | [] => { results := [.lit (.bool true)], args := [] }
  | _ => none }
def penRunsRow : OpenClaim := { program := "ytnjkongbccblaaadoor", sum := "3fd7e12cfd890a80e7a999a9d3aa7121b28582774386c5066bcd8305d199e6f4", func := "linguist/linguistlaw10.PenRuns", spec := "penRuns", named := ["linguist/pen.flags"], apart := false, laid := [("linguist/pen.flags", laid_linguist_pen_flags)] }
def PenRunsSaid : Prop := penRunsRow.holds Tryd.pinned (OpenSpec.ofChange penRunsSpec)

/-- ITS FALSE NEIGHBOUR: 'it returns false'. Refute it at one input. -/
def penRunsWrong : ChangeSpec := { name := "penRuns", fn := fun _ => fun
  | [] => { results := [.lit (.bool false)], args := [] }
  | _ => none }
def PenRunsWrongFalsely : Prop := penRunsRow.holds Tryd.pinned (OpenSpec.ofChange penRunsWrong)

/-- 'linguistlaw10.PenTells': WHATEVER THE INPUT: true; the input reads as it did. -/
def penTellsSpec : ChangeSpec := { name := "penTells", fn := fun _ => fun
  | [d1, d2, d3, d4] => { results := [.lit (.bool true)], args := [d1, d2, d3, d4] }
  | _ => none }
def penTellsRow : OpenClaim := { program := "ytnjkongbccblaaadoor", sum := "3fd7e12cfd890a80e7a999a9d3aa7121b28582774386c5066bcd8305d199e6f4", func := "linguist/linguistlaw10.PenTells", spec := "penTells", named := ["linguist/pen.flags"], apart := false, laid := [("linguist/pen.flags", laid_linguist_pen_flags)] }
def PenTellsSaid : Prop := penTellsRow.holds Tryd.pinned (OpenSpec.ofChange penTellsSpec)

/-- ITS FALSE NEIGHBOUR: 'it returns false'. Refute it at one input. -/
def penTellsWrong : ChangeSpec := { name := "penTells", fn := fun _ => fun
  | [d1, d2, d3, d4] => { results := [.lit (.bool false)], args := [d1, d2, d3, d4] }
  | _ => none }
def PenTellsWrongFalsely : Prop := penTellsRow.holds Tryd.pinned (OpenSpec.ofChange penTellsWrong)

/-- 'linguistlaw10.PenSaid': WHATEVER THE INPUT: true; the input reads as it did. -/
def penSaidSpec : ChangeSpec := { name := "penSaid", fn := fun _ => fun
  | [d1, d2] => { results := [.lit (.bool true)], args := [d1, d2] }
  | _ => none }
def penSaidRow : OpenClaim := { program := "ytnjkongbccblaaadoor", sum := "3fd7e12cfd890a80e7a999a9d3aa7121b28582774386c5066bcd8305d199e6f4", func := "linguist/linguistlaw10.PenSaid", spec := "penSaid", named := ["linguist/pen.flags"], apart := false, laid := [("linguist/pen.flags", laid_linguist_pen_flags)] }
def PenSaidSaid : Prop := penSaidRow.holds Tryd.pinned (OpenSpec.ofChange penSaidSpec)

/-- ITS FALSE NEIGHBOUR: 'it returns false'. Refute it at one input. -/
def penSaidWrong : ChangeSpec := { name := "penSaid", fn := fun _ => fun
  | [d1, d2] => { results := [.lit (.bool false)], args := [d1, d2] }
  | _ => none }
def PenSaidWrongFalsely : Prop := penSaidRow.holds Tryd.pinned (OpenSpec.ofChange penSaidWrong)

/-- 'linguistlaw10.PenParts': WHATEVER THE INPUT: true; the input reads as it did. -/
def penPartsSpec : ChangeSpec := { name := "penParts", fn := fun _ => fun
  | [d1, d2, d3, d4] => { results := [.lit (.bool true)], args := [d1, d2, d3, d4] }
  | _ => none }
def penPartsRow : OpenClaim := { program := "ytnjkongbccblaaadoor", sum := "3fd7e12cfd890a80e7a999a9d3aa7121b28582774386c5066bcd8305d199e6f4", func := "linguist/linguistlaw10.PenParts", spec := "penParts", named := ["linguist/pen.flags"], apart := false, laid := [("linguist/pen.flags", laid_linguist_pen_flags)] }
def PenPartsSaid : Prop := penPartsRow.holds Tryd.pinned (OpenSpec.ofChange penPartsSpec)

/-- ITS FALSE NEIGHBOUR: 'it returns false'. Refute it at one input. -/
def penPartsWrong : ChangeSpec := { name := "penParts", fn := fun _ => fun
  | [d1, d2, d3, d4] => { results := [.lit (.bool false)], args := [d1, d2, d3, d4] }
  | _ => none }
def PenPartsWrongFalsely : Prop := penPartsRow.holds Tryd.pinned (OpenSpec.ofChange penPartsWrong)

/-- 'linguistlaw10.PenColours': WHATEVER THE INPUT: true; the input reads as it did. -/
def penColoursSpec : ChangeSpec := { name := "penColours", fn := fun _ => fun
  | [d1, d2, d3, d4, d5] => { results := [.lit (.bool true)], args := [d1, d2, d3, d4, d5] }
  | _ => none }
def penColoursRow : OpenClaim := { program := "ytnjkongbccblaaadoor", sum := "3fd7e12cfd890a80e7a999a9d3aa7121b28582774386c5066bcd8305d199e6f4", func := "linguist/linguistlaw10.PenColours", spec := "penColours", named := ["linguist/pen.flags"], apart := false, laid := [("linguist/pen.flags", laid_linguist_pen_flags)] }
def PenColoursSaid : Prop := penColoursRow.holds Tryd.pinned (OpenSpec.ofChange penColoursSpec)

/-- ITS FALSE NEIGHBOUR: 'it returns false'. Refute it at one input. -/
def penColoursWrong : ChangeSpec := { name := "penColours", fn := fun _ => fun
  | [d1, d2, d3, d4, d5] => { results := [.lit (.bool false)], args := [d1, d2, d3, d4, d5] }
  | _ => none }
def PenColoursWrongFalsely : Prop := penColoursRow.holds Tryd.pinned (OpenSpec.ofChange penColoursWrong)

/- THE SECOND FORM. 'bulk': how many values and letters a reading holds, each counted each time it is reached (what is shared counts as often as it is met; a slice's spare places count too). A statement '..UptoSaid' is the law's where the arguments, and the package variables that the reading takes, are together of bulk at most 1048576: NARROWER than '..Said'. Prove '..Said' where nothing that the law and all that it calls make is longer than what came in: it says more and counts as full. Else prove '..UptoSaid'. A law counts once. -/
mutual
def uptoBulk {H : Type} : DataW H → Nat
  | .lit (.string bytes) => bytes.length + 1
  | .lit _ => 1
  | .nil => 1
  | .ptr d => uptoBulk d + 1
  | .slice elems spare => uptoBulkAll elems + uptoBulkAll spare + 1
  | .agg parts => uptoBulkAll parts + 1
  | .iface _ d => uptoBulk d + 1
  | .map entries => uptoBulkEntries entries + 1
  | .held _ => 1
def uptoBulkAll {H : Type} : List (DataW H) → Nat
  | [] => 0
  | d :: r => uptoBulk d + uptoBulkAll r
def uptoBulkEntries {H : Type} : List (Lit × DataW H) → Nat
  | [] => 0
  | x :: r => uptoBulkEntry x + uptoBulkEntries r
def uptoBulkEntry {H : Type} : Lit × DataW H → Nat
  | (.string bytes, d) => bytes.length + uptoBulk d + 1
  | (_, d) => uptoBulk d + 1
 end
def uptoSmall : (H : Type) → List (DataW H) → Bool := fun _ ds => decide (uptoBulkAll ds ≤ 1048576)
def OpenSpec.upto (s : _root_.Go.ChangeSpec) : _root_.Go.OpenSpec := { _root_.Go.OpenSpec.ofChange s with cond := some uptoSmall }

/-- 'linguistlaw10.PenRuns', WHERE WHAT IT READS IS OF BULK AT MOST 1048576: true; the input reads as it did. -/
def penRunsUptoRow : OpenClaim := { program := "ytnjkongbccblaaadoor", sum := "3fd7e12cfd890a80e7a999a9d3aa7121b28582774386c5066bcd8305d199e6f4", func := "linguist/linguistlaw10.PenRuns", spec := "penRuns", named := ["linguist/pen.flags"], apart := false, laid := [("linguist/pen.flags", laid_linguist_pen_flags)], narrowed := true }
def PenRunsUptoSaid : Prop := penRunsUptoRow.holds Tryd.pinned (OpenSpec.upto penRunsSpec)

/-- 'linguistlaw10.PenTells', WHERE WHAT IT READS IS OF BULK AT MOST 1048576: true; the input reads as it did. -/
def penTellsUptoRow : OpenClaim := { program := "ytnjkongbccblaaadoor", sum := "3fd7e12cfd890a80e7a999a9d3aa7121b28582774386c5066bcd8305d199e6f4", func := "linguist/linguistlaw10.PenTells", spec := "penTells", named := ["linguist/pen.flags"], apart := false, laid := [("linguist/pen.flags", laid_linguist_pen_flags)], narrowed := true }
def PenTellsUptoSaid : Prop := penTellsUptoRow.holds Tryd.pinned (OpenSpec.upto penTellsSpec)

/-- 'linguistlaw10.PenSaid', WHERE WHAT IT READS IS OF BULK AT MOST 1048576: true; the input reads as it did. -/
def penSaidUptoRow : OpenClaim := { program := "ytnjkongbccblaaadoor", sum := "3fd7e12cfd890a80e7a999a9d3aa7121b28582774386c5066bcd8305d199e6f4", func := "linguist/linguistlaw10.PenSaid", spec := "penSaid", named := ["linguist/pen.flags"], apart := false, laid := [("linguist/pen.flags", laid_linguist_pen_flags)], narrowed := true }
def PenSaidUptoSaid : Prop := penSaidUptoRow.holds Tryd.pinned (OpenSpec.upto penSaidSpec)

/-- 'linguistlaw10.PenParts', WHERE WHAT IT READS IS OF BULK AT MOST 1048576: true; the input reads as it did. -/
def penPartsUptoRow : OpenClaim := { program := "ytnjkongbccblaaadoor", sum := "3fd7e12cfd890a80e7a999a9d3aa7121b28582774386c5066bcd8305d199e6f4", func := "linguist/linguistlaw10.PenParts", spec := "penParts", named := ["linguist/pen.flags"], apart := false, laid := [("linguist/pen.flags", laid_linguist_pen_flags)], narrowed := true }
def PenPartsUptoSaid : Prop := penPartsUptoRow.holds Tryd.pinned (OpenSpec.upto penPartsSpec)

/-- 'linguistlaw10.PenColours', WHERE WHAT IT READS IS OF BULK AT MOST 1048576: true; the input reads as it did. -/
def penColoursUptoRow : OpenClaim := { program := "ytnjkongbccblaaadoor", sum := "3fd7e12cfd890a80e7a999a9d3aa7121b28582774386c5066bcd8305d199e6f4", func := "linguist/linguistlaw10.PenColours", spec := "penColours", named := ["linguist/pen.flags"], apart := false, laid := [("linguist/pen.flags", laid_linguist_pen_flags)], narrowed := true }
def PenColoursUptoSaid : Prop := penColoursUptoRow.holds Tryd.pinned (OpenSpec.upto penColoursSpec)

end Rows
end Go.Proofs.YtnjkongbccblaaaDoor
