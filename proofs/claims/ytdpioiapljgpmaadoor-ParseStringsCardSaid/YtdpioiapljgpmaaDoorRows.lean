/-
  NARROWER THAN 'FOR EVERY INPUT', by the rows' own cells (each row's printed sentence says how): ParseRuns: laid · ParseCuts: laid · ParseEnds: laid · ParseLong: laid · ParseStrings: laid.
  DERIVED. THE GIVEN ROWS OF THIS SEAT. 5 by the template 'for every input the law returns true; each argument reads behind the call as it read before'; 0 by the template 'total and deterministic' (their statements: YtdpioiapljgpmaaDoorTotals.lean).
  GIVEN WITH THE SEED: the statements are not yours to turn. If you find one false, say at which input.
  Laid BY PROGRAM, IN A SANDBOX (cutbox-rows.mjs): the forced cells as the released guide's own fill.sh prints them over the translation 242b9e175592be91… (all of the seat's roots in one cut). By AI agents, Wed Nov 11 2026. No macro, syntax, notation, axiom, sorry.
-/
import Derived.Test.YtdpioiapljgpmaaDoorChecked
import GoSem.Claim
import GoSem.ClaimJoined
import GoSem.ClaimMapViews
import Derived.JoinedTies
import Derived.KernelRfl
namespace Go.Proofs.YtdpioiapljgpmaaDoor
/- THE CELL 'sum', in the pinned program and in every row, IS THE sha256 OF THE DUMP (.gsa) THAT YtdpioiapljgpmaaDoorProg.lean LOADS. Nothing in Lean hashes anything: it is a label: what it is worth is what the hold of that sum in a sandbox is worth. -/
noncomputable def Tryd.pinned : Pinned := { name := "ytdpioiapljgpmaadoor", sum := "242b9e175592be91268373d91051dc32e4cdce166120656894e8ba5eb0f244a2", checked := Tryd.checked }
namespace Rows
def none {H : Type} : Left H := { results := [], args := [] }

/- WHAT THE LISTED PACKAGE-LEVEL VARIABLES READ AS WHEN THE CALL BEGINS. Each datum BY PROGRAM (the guide's laid-datum.mjs) off the statement by which the dump's own 'gosem.cut.vars' lays the variable. In a bare row this is a premise. The card (YtdpioiapljgpmaaDoorCards.lean) ties it to the program's text. -/
def laid_linguist_parse_runs {H : Type} : DataW H := .agg [.agg [.lit (.int .u8 6), .lit (.int .u8 0)], .agg [.lit (.int .u8 7), .lit (.int .u8 1)], .agg [.lit (.int .u8 23), .lit (.int .u8 0)], .agg [.lit (.int .u8 24), .lit (.int .u8 2)], .agg [.lit (.int .u8 25), .lit (.int .u8 0)], .agg [.lit (.int .u8 26), .lit (.int .u8 2)], .agg [.lit (.int .u8 27), .lit (.int .u8 3)], .agg [.lit (.int .u8 31), .lit (.int .u8 0)], .agg [.lit (.int .u8 47), .lit (.int .u8 4)], .agg [.lit (.int .u8 57), .lit (.int .u8 5)], .agg [.lit (.int .u8 58), .lit (.int .u8 6)], .agg [.lit (.int .u8 59), .lit (.int .u8 7)], .agg [.lit (.int .u8 63), .lit (.int .u8 8)], .agg [.lit (.int .u8 79), .lit (.int .u8 13)], .agg [.lit (.int .u8 80), .lit (.int .u8 11)], .agg [.lit (.int .u8 87), .lit (.int .u8 13)], .agg [.lit (.int .u8 88), .lit (.int .u8 11)], .agg [.lit (.int .u8 90), .lit (.int .u8 13)], .agg [.lit (.int .u8 91), .lit (.int .u8 9)], .agg [.lit (.int .u8 92), .lit (.int .u8 12)], .agg [.lit (.int .u8 93), .lit (.int .u8 10)], .agg [.lit (.int .u8 95), .lit (.int .u8 11)], .agg [.lit (.int .u8 126), .lit (.int .u8 13)], .agg [.lit (.int .u8 127), .lit (.int .u8 14)]]
def laid_linguist_parse_moves {H : Type} : DataW H := .agg [.agg [.lit (.int .u8 0), .lit (.int .u8 0), .lit (.int .u8 0), .lit (.int .u8 0), .lit (.int .u8 0), .lit (.int .u8 0), .lit (.int .u8 0), .lit (.int .u8 0), .lit (.int .u8 0), .lit (.int .u8 0), .lit (.int .u8 0), .lit (.int .u8 0), .lit (.int .u8 0), .lit (.int .u8 0), .lit (.int .u8 0), .lit (.int .u8 0)], .agg [.lit (.int .u8 32), .lit (.int .u8 32), .lit (.int .u8 0), .lit (.int .u8 2), .lit (.int .u8 16), .lit (.int .u8 16), .lit (.int .u8 16), .lit (.int .u8 16), .lit (.int .u8 16), .lit (.int .u8 16), .lit (.int .u8 16), .lit (.int .u8 16), .lit (.int .u8 16), .lit (.int .u8 16), .lit (.int .u8 0), .lit (.int .u8 48)], .agg [.lit (.int .u8 32), .lit (.int .u8 32), .lit (.int .u8 1), .lit (.int .u8 2), .lit (.int .u8 115), .lit (.int .u8 145), .lit (.int .u8 145), .lit (.int .u8 145), .lit (.int .u8 145), .lit (.int .u8 5), .lit (.int .u8 9), .lit (.int .u8 11), .lit (.int .u8 145), .lit (.int .u8 145), .lit (.int .u8 0), .lit (.int .u8 49)], .agg [.lit (.int .u8 32), .lit (.int .u8 32), .lit (.int .u8 1), .lit (.int .u8 2), .lit (.int .u8 4), .lit (.int .u8 145), .lit (.int .u8 145), .lit (.int .u8 145), .lit (.int .u8 145), .lit (.int .u8 145), .lit (.int .u8 145), .lit (.int .u8 145), .lit (.int .u8 145), .lit (.int .u8 145), .lit (.int .u8 0), .lit (.int .u8 49)], .agg [.lit (.int .u8 32), .lit (.int .u8 32), .lit (.int .u8 1), .lit (.int .u8 2), .lit (.int .u8 0), .lit (.int .u8 1), .lit (.int .u8 1), .lit (.int .u8 1), .lit (.int .u8 1), .lit (.int .u8 1), .lit (.int .u8 1), .lit (.int .u8 1), .lit (.int .u8 1), .lit (.int .u8 1), .lit (.int .u8 0), .lit (.int .u8 49)], .agg [.lit (.int .u8 32), .lit (.int .u8 32), .lit (.int .u8 1), .lit (.int .u8 2), .lit (.int .u8 119), .lit (.int .u8 86), .lit (.int .u8 8), .lit (.int .u8 102), .lit (.int .u8 70), .lit (.int .u8 161), .lit (.int .u8 161), .lit (.int .u8 161), .lit (.int .u8 161), .lit (.int .u8 161), .lit (.int .u8 0), .lit (.int .u8 49)], .agg [.lit (.int .u8 32), .lit (.int .u8 32), .lit (.int .u8 1), .lit (.int .u8 2), .lit (.int .u8 119), .lit (.int .u8 80), .lit (.int .u8 8), .lit (.int .u8 96), .lit (.int .u8 8), .lit (.int .u8 161), .lit (.int .u8 161), .lit (.int .u8 161), .lit (.int .u8 161), .lit (.int .u8 161), .lit (.int .u8 0), .lit (.int .u8 49)], .agg [.lit (.int .u8 32), .lit (.int .u8 32), .lit (.int .u8 1), .lit (.int .u8 2), .lit (.int .u8 8), .lit (.int .u8 8), .lit (.int .u8 8), .lit (.int .u8 8), .lit (.int .u8 8), .lit (.int .u8 161), .lit (.int .u8 161), .lit (.int .u8 161), .lit (.int .u8 161), .lit (.int .u8 161), .lit (.int .u8 0), .lit (.int .u8 49)], .agg [.lit (.int .u8 32), .lit (.int .u8 32), .lit (.int .u8 1), .lit (.int .u8 2), .lit (.int .u8 0), .lit (.int .u8 0), .lit (.int .u8 0), .lit (.int .u8 0), .lit (.int .u8 0), .lit (.int .u8 1), .lit (.int .u8 1), .lit (.int .u8 1), .lit (.int .u8 1), .lit (.int .u8 1), .lit (.int .u8 0), .lit (.int .u8 49)], .agg [.lit (.int .u8 0), .lit (.int .u8 177), .lit (.int .u8 1), .lit (.int .u8 10), .lit (.int .u8 128), .lit (.int .u8 128), .lit (.int .u8 128), .lit (.int .u8 128), .lit (.int .u8 128), .lit (.int .u8 128), .lit (.int .u8 128), .lit (.int .u8 128), .lit (.int .u8 128), .lit (.int .u8 128), .lit (.int .u8 128), .lit (.int .u8 128)], .agg [.lit (.int .u8 194), .lit (.int .u8 194), .lit (.int .u8 194), .lit (.int .u8 194), .lit (.int .u8 194), .lit (.int .u8 194), .lit (.int .u8 194), .lit (.int .u8 194), .lit (.int .u8 194), .lit (.int .u8 194), .lit (.int .u8 194), .lit (.int .u8 194), .lit (.int .u8 177), .lit (.int .u8 194), .lit (.int .u8 194), .lit (.int .u8 194)], .agg [.lit (.int .u8 0), .lit (.int .u8 1), .lit (.int .u8 1), .lit (.int .u8 12), .lit (.int .u8 0), .lit (.int .u8 0), .lit (.int .u8 0), .lit (.int .u8 0), .lit (.int .u8 0), .lit (.int .u8 0), .lit (.int .u8 0), .lit (.int .u8 0), .lit (.int .u8 0), .lit (.int .u8 0), .lit (.int .u8 0), .lit (.int .u8 0)], .agg [.lit (.int .u8 194), .lit (.int .u8 194), .lit (.int .u8 194), .lit (.int .u8 194), .lit (.int .u8 194), .lit (.int .u8 194), .lit (.int .u8 194), .lit (.int .u8 194), .lit (.int .u8 194), .lit (.int .u8 194), .lit (.int .u8 194), .lit (.int .u8 194), .lit (.int .u8 1), .lit (.int .u8 194), .lit (.int .u8 194), .lit (.int .u8 194)]]

/-- 'linguistlaw5.ParseRuns': WHATEVER THE INPUT: true; the input reads as it did. -/
def parseRunsSpec : ChangeSpec := { name := "parseRuns", fn := fun _ => fun
  | [] => { results := [.lit (.bool true)], args := [] }
  | _ => none }
def parseRunsRow : OpenClaim := { program := "ytdpioiapljgpmaadoor", sum := "242b9e175592be91268373d91051dc32e4cdce166120656894e8ba5eb0f244a2", func := "linguist/linguistlaw5.ParseRuns", spec := "parseRuns", named := ["linguist/parse.moves", "linguist/parse.runs"], apart := false, laid := [("linguist/parse.runs", laid_linguist_parse_runs), ("linguist/parse.moves", laid_linguist_parse_moves)] }
def ParseRunsSaid : Prop := parseRunsRow.holds Tryd.pinned (OpenSpec.ofChange parseRunsSpec)

/-- ITS FALSE NEIGHBOUR: 'it returns false'. Refute it at one input. -/
def parseRunsWrong : ChangeSpec := { name := "parseRuns", fn := fun _ => fun
  | [] => { results := [.lit (.bool false)], args := [] }
  | _ => none }
def ParseRunsWrongFalsely : Prop := parseRunsRow.holds Tryd.pinned (OpenSpec.ofChange parseRunsWrong)

/-- 'linguistlaw5.ParseCuts': WHATEVER THE INPUT: true; the input reads as it did. -/
def parseCutsSpec : ChangeSpec := { name := "parseCuts", fn := fun _ => fun
  | [d1, d2] => { results := [.lit (.bool true)], args := [d1, d2] }
  | _ => none }
def parseCutsRow : OpenClaim := { program := "ytdpioiapljgpmaadoor", sum := "242b9e175592be91268373d91051dc32e4cdce166120656894e8ba5eb0f244a2", func := "linguist/linguistlaw5.ParseCuts", spec := "parseCuts", named := ["linguist/parse.moves", "linguist/parse.runs"], apart := false, laid := [("linguist/parse.runs", laid_linguist_parse_runs), ("linguist/parse.moves", laid_linguist_parse_moves)] }
def ParseCutsSaid : Prop := parseCutsRow.holds Tryd.pinned (OpenSpec.ofChange parseCutsSpec)

/-- ITS FALSE NEIGHBOUR: 'it returns false'. Refute it at one input. -/
def parseCutsWrong : ChangeSpec := { name := "parseCuts", fn := fun _ => fun
  | [d1, d2] => { results := [.lit (.bool false)], args := [d1, d2] }
  | _ => none }
def ParseCutsWrongFalsely : Prop := parseCutsRow.holds Tryd.pinned (OpenSpec.ofChange parseCutsWrong)

/-- 'linguistlaw5.ParseEnds': WHATEVER THE INPUT: true; the input reads as it did. -/
def parseEndsSpec : ChangeSpec := { name := "parseEnds", fn := fun _ => fun
  | [d1, d2] => { results := [.lit (.bool true)], args := [d1, d2] }
  | _ => none }
def parseEndsRow : OpenClaim := { program := "ytdpioiapljgpmaadoor", sum := "242b9e175592be91268373d91051dc32e4cdce166120656894e8ba5eb0f244a2", func := "linguist/linguistlaw5.ParseEnds", spec := "parseEnds", named := ["linguist/parse.moves", "linguist/parse.runs"], apart := false, laid := [("linguist/parse.runs", laid_linguist_parse_runs), ("linguist/parse.moves", laid_linguist_parse_moves)] }
def ParseEndsSaid : Prop := parseEndsRow.holds Tryd.pinned (OpenSpec.ofChange parseEndsSpec)

/-- ITS FALSE NEIGHBOUR: 'it returns false'. Refute it at one input. -/
def parseEndsWrong : ChangeSpec := { name := "parseEnds", fn := fun _ => fun
  | [d1, d2] => { results := [.lit (.bool false)], args := [d1, d2] }
  | _ => none }
def ParseEndsWrongFalsely : Prop := parseEndsRow.holds Tryd.pinned (OpenSpec.ofChange parseEndsWrong)

/-- 'linguistlaw5.ParseLong': WHATEVER THE INPUT: true; the input reads as it did. -/
def parseLongSpec : ChangeSpec := { name := "parseLong", fn := fun _ => fun
  | [d1, d2] => { results := [.lit (.bool true)], args := [d1, d2] }
  | _ => none }
def parseLongRow : OpenClaim := { program := "ytdpioiapljgpmaadoor", sum := "242b9e175592be91268373d91051dc32e4cdce166120656894e8ba5eb0f244a2", func := "linguist/linguistlaw5.ParseLong", spec := "parseLong", named := ["linguist/parse.moves", "linguist/parse.runs"], apart := false, laid := [("linguist/parse.runs", laid_linguist_parse_runs), ("linguist/parse.moves", laid_linguist_parse_moves)] }
def ParseLongSaid : Prop := parseLongRow.holds Tryd.pinned (OpenSpec.ofChange parseLongSpec)

/-- ITS FALSE NEIGHBOUR: 'it returns false'. Refute it at one input. -/
def parseLongWrong : ChangeSpec := { name := "parseLong", fn := fun _ => fun
  | [d1, d2] => { results := [.lit (.bool false)], args := [d1, d2] }
  | _ => none }
def ParseLongWrongFalsely : Prop := parseLongRow.holds Tryd.pinned (OpenSpec.ofChange parseLongWrong)

/-- 'linguistlaw5.ParseStrings': WHATEVER THE INPUT: true; the input reads as it did. -/
def parseStringsSpec : ChangeSpec := { name := "parseStrings", fn := fun _ => fun
  | [d1, d2, d3] => { results := [.lit (.bool true)], args := [d1, d2, d3] }
  | _ => none }
def parseStringsRow : OpenClaim := { program := "ytdpioiapljgpmaadoor", sum := "242b9e175592be91268373d91051dc32e4cdce166120656894e8ba5eb0f244a2", func := "linguist/linguistlaw5.ParseStrings", spec := "parseStrings", named := ["linguist/parse.moves", "linguist/parse.runs"], apart := false, laid := [("linguist/parse.runs", laid_linguist_parse_runs), ("linguist/parse.moves", laid_linguist_parse_moves)] }
def ParseStringsSaid : Prop := parseStringsRow.holds Tryd.pinned (OpenSpec.ofChange parseStringsSpec)

/-- ITS FALSE NEIGHBOUR: 'it returns false'. Refute it at one input. -/
def parseStringsWrong : ChangeSpec := { name := "parseStrings", fn := fun _ => fun
  | [d1, d2, d3] => { results := [.lit (.bool false)], args := [d1, d2, d3] }
  | _ => none }
def ParseStringsWrongFalsely : Prop := parseStringsRow.holds Tryd.pinned (OpenSpec.ofChange parseStringsWrong)

/- THE SECOND FORM. 'bulk': how many values and letters a reading holds, each counted each time it is reached (what is shared counts as often as it is met; a slice's spare places count too). A statement '..UptoSaid' is the law's where the arguments, and the package variables that the reading takes, are together of bulk at most 1048576: NARROWER than '..Said'. Prove '..Said' where nothing that the law and all that it calls make is longer than what came in: it says more and counts as full. Else prove '..UptoSaid'. A law counts once. -/
mutual
def uptoBulk {H : Type} : DataW H → Nat
  | .lit (.string bytes) => bytes.length + 1
  | .lit _ => 1
  | .nil => 1
  | .ptr d => uptoBulk d + 1
  | .slice elems spare => uptoBulkAll elems + uptoBulkAll spare + 1
  | .agg parts => uptoBulkAll parts + 1
  | .iface _ d => uptoBulk d + 1
  | .map entries => uptoBulkEntries entries + 1
  | .held _ => 1
def uptoBulkAll {H : Type} : List (DataW H) → Nat
  | [] => 0
  | d :: r => uptoBulk d + uptoBulkAll r
def uptoBulkEntries {H : Type} : List (Lit × DataW H) → Nat
  | [] => 0
  | x :: r => uptoBulkEntry x + uptoBulkEntries r
def uptoBulkEntry {H : Type} : Lit × DataW H → Nat
  | (.string bytes, d) => bytes.length + uptoBulk d + 1
  | (_, d) => uptoBulk d + 1
 end
def uptoSmall : (H : Type) → List (DataW H) → Bool := fun _ ds => decide (uptoBulkAll ds ≤ 1048576)
def OpenSpec.upto (s : _root_.Go.ChangeSpec) : _root_.Go.OpenSpec := { _root_.Go.OpenSpec.ofChange s with cond := some uptoSmall }

/-- 'linguistlaw5.ParseRuns', WHERE WHAT IT READS IS OF BULK AT MOST 1048576: true; the input reads as it did. -/
def parseRunsUptoRow : OpenClaim := { program := "ytdpioiapljgpmaadoor", sum := "242b9e175592be91268373d91051dc32e4cdce166120656894e8ba5eb0f244a2", func := "linguist/linguistlaw5.ParseRuns", spec := "parseRuns", named := ["linguist/parse.moves", "linguist/parse.runs"], apart := false, laid := [("linguist/parse.runs", laid_linguist_parse_runs), ("linguist/parse.moves", laid_linguist_parse_moves)], narrowed := true }
def ParseRunsUptoSaid : Prop := parseRunsUptoRow.holds Tryd.pinned (OpenSpec.upto parseRunsSpec)

/-- 'linguistlaw5.ParseCuts', WHERE WHAT IT READS IS OF BULK AT MOST 1048576: true; the input reads as it did. -/
def parseCutsUptoRow : OpenClaim := { program := "ytdpioiapljgpmaadoor", sum := "242b9e175592be91268373d91051dc32e4cdce166120656894e8ba5eb0f244a2", func := "linguist/linguistlaw5.ParseCuts", spec := "parseCuts", named := ["linguist/parse.moves", "linguist/parse.runs"], apart := false, laid := [("linguist/parse.runs", laid_linguist_parse_runs), ("linguist/parse.moves", laid_linguist_parse_moves)], narrowed := true }
def ParseCutsUptoSaid : Prop := parseCutsUptoRow.holds Tryd.pinned (OpenSpec.upto parseCutsSpec)

/-- 'linguistlaw5.ParseEnds', WHERE WHAT IT READS IS OF BULK AT MOST 1048576: true; the input reads as it did. -/
def parseEndsUptoRow : OpenClaim := { program := "ytdpioiapljgpmaadoor", sum := "242b9e175592be91268373d91051dc32e4cdce166120656894e8ba5eb0f244a2", func := "linguist/linguistlaw5.ParseEnds", spec := "parseEnds", named := ["linguist/parse.moves", "linguist/parse.runs"], apart := false, laid := [("linguist/parse.runs", laid_linguist_parse_runs), ("linguist/parse.moves", laid_linguist_parse_moves)], narrowed := true }
def ParseEndsUptoSaid : Prop := parseEndsUptoRow.holds Tryd.pinned (OpenSpec.upto parseEndsSpec)

/-- 'linguistlaw5.ParseLong', WHERE WHAT IT READS IS OF BULK AT MOST 1048576: true; the input reads as it did. -/
def parseLongUptoRow : OpenClaim := { program := "ytdpioiapljgpmaadoor", sum := "242b9e175592be91268373d91051dc32e4cdce166120656894e8ba5eb0f244a2", func := "linguist/linguistlaw5.ParseLong", spec := "parseLong", named := ["linguist/parse.moves", "linguist/parse.runs"], apart := false, laid := [("linguist/parse.runs", laid_linguist_parse_runs), ("linguist/parse.moves", laid_linguist_parse_moves)], narrowed := true }
def ParseLongUptoSaid : Prop := parseLongUptoRow.holds Tryd.pinned (OpenSpec.upto parseLongSpec)

/-- 'linguistlaw5.ParseStrings', WHERE WHAT IT READS IS OF BULK AT MOST 1048576: true; the input reads as it did. -/
def parseStringsUptoRow : OpenClaim := { program := "ytdpioiapljgpmaadoor", sum := "242b9e175592be91268373d91051dc32e4cdce166120656894e8ba5eb0f244a2", func := "linguist/linguistlaw5.ParseStrings", spec := "parseStrings", named := ["linguist/parse.moves", "linguist/parse.runs"], apart := false, laid := [("linguist/parse.runs", laid_linguist_parse_runs), ("linguist/parse.moves", laid_linguist_parse_moves)], narrowed := true }
def ParseStringsUptoSaid : Prop := parseStringsUptoRow.holds Tryd.pinned (OpenSpec.upto parseStringsSpec)

end Rows
end Go.Proofs.YtdpioiapljgpmaaDoor
