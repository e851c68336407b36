/-
  NARROWER THAN 'FOR EVERY INPUT', by the rows' own cells (each row's printed sentence says how): SeqRuns: laid · SeqTells: laid · SeqBack: laid · SeqArgs: laid · SeqMany: laid · SeqText: laid.
  DERIVED. THE GIVEN ROWS OF THIS SEAT. 6 by the template 'for every input the law returns true; each argument reads behind the call as it read before'; 0 by the template 'total and deterministic' (their statements: YtnnjppgmadmmaaaDoorTotals.lean).
  GIVEN WITH THE SEED: the statements are not yours to turn. If you find one false, say at which input.
  Laid BY PROGRAM, IN A SANDBOX (cutbox-rows.mjs): the forced cells as the released guide's own fill.sh prints them over the translation 79529fcd8faadef4… (all of the seat's roots in one cut). By AI agents, Wed Nov 11 2026. No macro, syntax, notation, axiom, sorry.
-/
import Derived.Test.YtnnjppgmadmmaaaDoorChecked
import GoSem.Claim
import GoSem.ClaimJoined
import GoSem.ClaimMapViews
import Derived.JoinedTies
import Derived.KernelRfl
namespace Go.Proofs.YtnnjppgmadmmaaaDoor
/- THE CELL 'sum', in the pinned program and in every row, IS THE sha256 OF THE DUMP (.gsa) THAT YtnnjppgmadmmaaaDoorProg.lean LOADS. Nothing in Lean hashes anything: it is a label: what it is worth is what the hold of that sum in a sandbox is worth. -/
noncomputable def Tryd.pinned : Pinned := { name := "ytnnjppgmadmmaaadoor", sum := "79529fcd8faadef426f0dadc86c029ed3d0e42c263c17f4402f047d0eb02f098", checked := Tryd.checked }
namespace Rows
def none {H : Type} : Left H := { results := [], args := [] }

/- WHAT THE LISTED PACKAGE-LEVEL VARIABLES READ AS WHEN THE CALL BEGINS. Each datum BY PROGRAM (the guide's laid-datum.mjs) off the statement by which the dump's own 'gosem.cut.vars' lays the variable. In a bare row this is a premise. The card (YtnnjppgmadmmaaaDoorCards.lean) ties it to the program's text. -/
def laid_math_bits_deBruijn32tab {H : Type} : DataW H := .agg [.lit (.int .u8 0), .lit (.int .u8 1), .lit (.int .u8 28), .lit (.int .u8 2), .lit (.int .u8 29), .lit (.int .u8 14), .lit (.int .u8 24), .lit (.int .u8 3), .lit (.int .u8 30), .lit (.int .u8 22), .lit (.int .u8 20), .lit (.int .u8 15), .lit (.int .u8 25), .lit (.int .u8 17), .lit (.int .u8 4), .lit (.int .u8 8), .lit (.int .u8 31), .lit (.int .u8 27), .lit (.int .u8 13), .lit (.int .u8 23), .lit (.int .u8 21), .lit (.int .u8 19), .lit (.int .u8 16), .lit (.int .u8 7), .lit (.int .u8 26), .lit (.int .u8 12), .lit (.int .u8 18), .lit (.int .u8 6), .lit (.int .u8 11), .lit (.int .u8 5), .lit (.int .u8 10), .lit (.int .u8 9)]
def laid_math_bits_deBruijn64tab {H : Type} : DataW H := .agg [.lit (.int .u8 0), .lit (.int .u8 1), .lit (.int .u8 56), .lit (.int .u8 2), .lit (.int .u8 57), .lit (.int .u8 49), .lit (.int .u8 28), .lit (.int .u8 3), .lit (.int .u8 61), .lit (.int .u8 58), .lit (.int .u8 42), .lit (.int .u8 50), .lit (.int .u8 38), .lit (.int .u8 29), .lit (.int .u8 17), .lit (.int .u8 4), .lit (.int .u8 62), .lit (.int .u8 47), .lit (.int .u8 59), .lit (.int .u8 36), .lit (.int .u8 45), .lit (.int .u8 43), .lit (.int .u8 51), .lit (.int .u8 22), .lit (.int .u8 53), .lit (.int .u8 39), .lit (.int .u8 33), .lit (.int .u8 30), .lit (.int .u8 24), .lit (.int .u8 18), .lit (.int .u8 12), .lit (.int .u8 5), .lit (.int .u8 63), .lit (.int .u8 55), .lit (.int .u8 48), .lit (.int .u8 27), .lit (.int .u8 60), .lit (.int .u8 41), .lit (.int .u8 37), .lit (.int .u8 16), .lit (.int .u8 46), .lit (.int .u8 35), .lit (.int .u8 44), .lit (.int .u8 21), .lit (.int .u8 52), .lit (.int .u8 32), .lit (.int .u8 23), .lit (.int .u8 11), .lit (.int .u8 54), .lit (.int .u8 26), .lit (.int .u8 40), .lit (.int .u8 15), .lit (.int .u8 34), .lit (.int .u8 20), .lit (.int .u8 31), .lit (.int .u8 10), .lit (.int .u8 25), .lit (.int .u8 14), .lit (.int .u8 19), .lit (.int .u8 9), .lit (.int .u8 13), .lit (.int .u8 8), .lit (.int .u8 7), .lit (.int .u8 6)]
def laid_internal_strconv_uint64pow10 {H : Type} : DataW H := .agg [.lit (.int .u64 1), .lit (.int .u64 10), .lit (.int .u64 100), .lit (.int .u64 1000), .lit (.int .u64 10000), .lit (.int .u64 100000), .lit (.int .u64 1000000), .lit (.int .u64 10000000), .lit (.int .u64 100000000), .lit (.int .u64 1000000000), .lit (.int .u64 10000000000), .lit (.int .u64 100000000000), .lit (.int .u64 1000000000000), .lit (.int .u64 10000000000000), .lit (.int .u64 100000000000000), .lit (.int .u64 1000000000000000), .lit (.int .u64 10000000000000000), .lit (.int .u64 100000000000000000), .lit (.int .u64 1000000000000000000), .lit (.int .u64 10000000000000000000)]
def laid_linguist_parse_runs {H : Type} : DataW H := .agg [.agg [.lit (.int .u8 6), .lit (.int .u8 0)], .agg [.lit (.int .u8 7), .lit (.int .u8 1)], .agg [.lit (.int .u8 23), .lit (.int .u8 0)], .agg [.lit (.int .u8 24), .lit (.int .u8 2)], .agg [.lit (.int .u8 25), .lit (.int .u8 0)], .agg [.lit (.int .u8 26), .lit (.int .u8 2)], .agg [.lit (.int .u8 27), .lit (.int .u8 3)], .agg [.lit (.int .u8 31), .lit (.int .u8 0)], .agg [.lit (.int .u8 47), .lit (.int .u8 4)], .agg [.lit (.int .u8 57), .lit (.int .u8 5)], .agg [.lit (.int .u8 58), .lit (.int .u8 6)], .agg [.lit (.int .u8 59), .lit (.int .u8 7)], .agg [.lit (.int .u8 63), .lit (.int .u8 8)], .agg [.lit (.int .u8 79), .lit (.int .u8 13)], .agg [.lit (.int .u8 80), .lit (.int .u8 11)], .agg [.lit (.int .u8 87), .lit (.int .u8 13)], .agg [.lit (.int .u8 88), .lit (.int .u8 11)], .agg [.lit (.int .u8 90), .lit (.int .u8 13)], .agg [.lit (.int .u8 91), .lit (.int .u8 9)], .agg [.lit (.int .u8 92), .lit (.int .u8 12)], .agg [.lit (.int .u8 93), .lit (.int .u8 10)], .agg [.lit (.int .u8 95), .lit (.int .u8 11)], .agg [.lit (.int .u8 126), .lit (.int .u8 13)], .agg [.lit (.int .u8 127), .lit (.int .u8 14)]]
def laid_linguist_parse_moves {H : Type} : DataW H := .agg [.agg [.lit (.int .u8 0), .lit (.int .u8 0), .lit (.int .u8 0), .lit (.int .u8 0), .lit (.int .u8 0), .lit (.int .u8 0), .lit (.int .u8 0), .lit (.int .u8 0), .lit (.int .u8 0), .lit (.int .u8 0), .lit (.int .u8 0), .lit (.int .u8 0), .lit (.int .u8 0), .lit (.int .u8 0), .lit (.int .u8 0), .lit (.int .u8 0)], .agg [.lit (.int .u8 32), .lit (.int .u8 32), .lit (.int .u8 0), .lit (.int .u8 2), .lit (.int .u8 16), .lit (.int .u8 16), .lit (.int .u8 16), .lit (.int .u8 16), .lit (.int .u8 16), .lit (.int .u8 16), .lit (.int .u8 16), .lit (.int .u8 16), .lit (.int .u8 16), .lit (.int .u8 16), .lit (.int .u8 0), .lit (.int .u8 48)], .agg [.lit (.int .u8 32), .lit (.int .u8 32), .lit (.int .u8 1), .lit (.int .u8 2), .lit (.int .u8 115), .lit (.int .u8 145), .lit (.int .u8 145), .lit (.int .u8 145), .lit (.int .u8 145), .lit (.int .u8 5), .lit (.int .u8 9), .lit (.int .u8 11), .lit (.int .u8 145), .lit (.int .u8 145), .lit (.int .u8 0), .lit (.int .u8 49)], .agg [.lit (.int .u8 32), .lit (.int .u8 32), .lit (.int .u8 1), .lit (.int .u8 2), .lit (.int .u8 4), .lit (.int .u8 145), .lit (.int .u8 145), .lit (.int .u8 145), .lit (.int .u8 145), .lit (.int .u8 145), .lit (.int .u8 145), .lit (.int .u8 145), .lit (.int .u8 145), .lit (.int .u8 145), .lit (.int .u8 0), .lit (.int .u8 49)], .agg [.lit (.int .u8 32), .lit (.int .u8 32), .lit (.int .u8 1), .lit (.int .u8 2), .lit (.int .u8 0), .lit (.int .u8 1), .lit (.int .u8 1), .lit (.int .u8 1), .lit (.int .u8 1), .lit (.int .u8 1), .lit (.int .u8 1), .lit (.int .u8 1), .lit (.int .u8 1), .lit (.int .u8 1), .lit (.int .u8 0), .lit (.int .u8 49)], .agg [.lit (.int .u8 32), .lit (.int .u8 32), .lit (.int .u8 1), .lit (.int .u8 2), .lit (.int .u8 119), .lit (.int .u8 86), .lit (.int .u8 8), .lit (.int .u8 102), .lit (.int .u8 70), .lit (.int .u8 161), .lit (.int .u8 161), .lit (.int .u8 161), .lit (.int .u8 161), .lit (.int .u8 161), .lit (.int .u8 0), .lit (.int .u8 49)], .agg [.lit (.int .u8 32), .lit (.int .u8 32), .lit (.int .u8 1), .lit (.int .u8 2), .lit (.int .u8 119), .lit (.int .u8 80), .lit (.int .u8 8), .lit (.int .u8 96), .lit (.int .u8 8), .lit (.int .u8 161), .lit (.int .u8 161), .lit (.int .u8 161), .lit (.int .u8 161), .lit (.int .u8 161), .lit (.int .u8 0), .lit (.int .u8 49)], .agg [.lit (.int .u8 32), .lit (.int .u8 32), .lit (.int .u8 1), .lit (.int .u8 2), .lit (.int .u8 8), .lit (.int .u8 8), .lit (.int .u8 8), .lit (.int .u8 8), .lit (.int .u8 8), .lit (.int .u8 161), .lit (.int .u8 161), .lit (.int .u8 161), .lit (.int .u8 161), .lit (.int .u8 161), .lit (.int .u8 0), .lit (.int .u8 49)], .agg [.lit (.int .u8 32), .lit (.int .u8 32), .lit (.int .u8 1), .lit (.int .u8 2), .lit (.int .u8 0), .lit (.int .u8 0), .lit (.int .u8 0), .lit (.int .u8 0), .lit (.int .u8 0), .lit (.int .u8 1), .lit (.int .u8 1), .lit (.int .u8 1), .lit (.int .u8 1), .lit (.int .u8 1), .lit (.int .u8 0), .lit (.int .u8 49)], .agg [.lit (.int .u8 0), .lit (.int .u8 177), .lit (.int .u8 1), .lit (.int .u8 10), .lit (.int .u8 128), .lit (.int .u8 128), .lit (.int .u8 128), .lit (.int .u8 128), .lit (.int .u8 128), .lit (.int .u8 128), .lit (.int .u8 128), .lit (.int .u8 128), .lit (.int .u8 128), .lit (.int .u8 128), .lit (.int .u8 128), .lit (.int .u8 128)], .agg [.lit (.int .u8 194), .lit (.int .u8 194), .lit (.int .u8 194), .lit (.int .u8 194), .lit (.int .u8 194), .lit (.int .u8 194), .lit (.int .u8 194), .lit (.int .u8 194), .lit (.int .u8 194), .lit (.int .u8 194), .lit (.int .u8 194), .lit (.int .u8 194), .lit (.int .u8 177), .lit (.int .u8 194), .lit (.int .u8 194), .lit (.int .u8 194)], .agg [.lit (.int .u8 0), .lit (.int .u8 1), .lit (.int .u8 1), .lit (.int .u8 12), .lit (.int .u8 0), .lit (.int .u8 0), .lit (.int .u8 0), .lit (.int .u8 0), .lit (.int .u8 0), .lit (.int .u8 0), .lit (.int .u8 0), .lit (.int .u8 0), .lit (.int .u8 0), .lit (.int .u8 0), .lit (.int .u8 0), .lit (.int .u8 0)], .agg [.lit (.int .u8 194), .lit (.int .u8 194), .lit (.int .u8 194), .lit (.int .u8 194), .lit (.int .u8 194), .lit (.int .u8 194), .lit (.int .u8 194), .lit (.int .u8 194), .lit (.int .u8 194), .lit (.int .u8 194), .lit (.int .u8 194), .lit (.int .u8 194), .lit (.int .u8 1), .lit (.int .u8 194), .lit (.int .u8 194), .lit (.int .u8 194)]]

/-- 'linguistlaw6.SeqRuns': WHATEVER THE INPUT: true; the input reads as it did. -/
def seqRunsSpec : ChangeSpec := { name := "seqRuns", fn := fun _ => fun
  | [] => { results := [.lit (.bool true)], args := [] }
  | _ => none }
def seqRunsRow : OpenClaim := { program := "ytnnjppgmadmmaaadoor", sum := "79529fcd8faadef426f0dadc86c029ed3d0e42c263c17f4402f047d0eb02f098", func := "linguist/linguistlaw6.SeqRuns", spec := "seqRuns", named := ["internal/strconv.uint64pow10", "math/bits.deBruijn32tab", "math/bits.deBruijn64tab"], apart := false, laid := [("math/bits.deBruijn32tab", laid_math_bits_deBruijn32tab), ("math/bits.deBruijn64tab", laid_math_bits_deBruijn64tab), ("internal/strconv.uint64pow10", laid_internal_strconv_uint64pow10)] }
def SeqRunsSaid : Prop := seqRunsRow.holds Tryd.pinned (OpenSpec.ofChange seqRunsSpec)

/-- ITS FALSE NEIGHBOUR: 'it returns false'. Refute it at one input. -/
def seqRunsWrong : ChangeSpec := { name := "seqRuns", fn := fun _ => fun
  | [] => { results := [.lit (.bool false)], args := [] }
  | _ => none }
def SeqRunsWrongFalsely : Prop := seqRunsRow.holds Tryd.pinned (OpenSpec.ofChange seqRunsWrong)

/-- 'linguistlaw6.SeqTells': WHATEVER THE INPUT: true; the input reads as it did. -/
def seqTellsSpec : ChangeSpec := { name := "seqTells", fn := fun _ => fun
  | [d1, d2, d3] => { results := [.lit (.bool true)], args := [d1, d2, d3] }
  | _ => none }
def seqTellsRow : OpenClaim := { program := "ytnnjppgmadmmaaadoor", sum := "79529fcd8faadef426f0dadc86c029ed3d0e42c263c17f4402f047d0eb02f098", func := "linguist/linguistlaw6.SeqTells", spec := "seqTells", named := ["internal/strconv.uint64pow10", "math/bits.deBruijn32tab", "math/bits.deBruijn64tab"], apart := false, laid := [("math/bits.deBruijn32tab", laid_math_bits_deBruijn32tab), ("math/bits.deBruijn64tab", laid_math_bits_deBruijn64tab), ("internal/strconv.uint64pow10", laid_internal_strconv_uint64pow10)] }
def SeqTellsSaid : Prop := seqTellsRow.holds Tryd.pinned (OpenSpec.ofChange seqTellsSpec)

/-- ITS FALSE NEIGHBOUR: 'it returns false'. Refute it at one input. -/
def seqTellsWrong : ChangeSpec := { name := "seqTells", fn := fun _ => fun
  | [d1, d2, d3] => { results := [.lit (.bool false)], args := [d1, d2, d3] }
  | _ => none }
def SeqTellsWrongFalsely : Prop := seqTellsRow.holds Tryd.pinned (OpenSpec.ofChange seqTellsWrong)

/-- 'linguistlaw6.SeqBack': WHATEVER THE INPUT: true; the input reads as it did. -/
def seqBackSpec : ChangeSpec := { name := "seqBack", fn := fun _ => fun
  | [d1, d2, d3] => { results := [.lit (.bool true)], args := [d1, d2, d3] }
  | _ => none }
def seqBackRow : OpenClaim := { program := "ytnnjppgmadmmaaadoor", sum := "79529fcd8faadef426f0dadc86c029ed3d0e42c263c17f4402f047d0eb02f098", func := "linguist/linguistlaw6.SeqBack", spec := "seqBack", named := ["internal/strconv.uint64pow10", "math/bits.deBruijn32tab", "math/bits.deBruijn64tab", "linguist/parse.moves", "linguist/parse.runs"], apart := false, laid := [("math/bits.deBruijn32tab", laid_math_bits_deBruijn32tab), ("math/bits.deBruijn64tab", laid_math_bits_deBruijn64tab), ("internal/strconv.uint64pow10", laid_internal_strconv_uint64pow10), ("linguist/parse.runs", laid_linguist_parse_runs), ("linguist/parse.moves", laid_linguist_parse_moves)] }
def SeqBackSaid : Prop := seqBackRow.holds Tryd.pinned (OpenSpec.ofChange seqBackSpec)

/-- ITS FALSE NEIGHBOUR: 'it returns false'. Refute it at one input. -/
def seqBackWrong : ChangeSpec := { name := "seqBack", fn := fun _ => fun
  | [d1, d2, d3] => { results := [.lit (.bool false)], args := [d1, d2, d3] }
  | _ => none }
def SeqBackWrongFalsely : Prop := seqBackRow.holds Tryd.pinned (OpenSpec.ofChange seqBackWrong)

/-- 'linguistlaw6.SeqArgs': WHATEVER THE INPUT: true; the input reads as it did. -/
def seqArgsSpec : ChangeSpec := { name := "seqArgs", fn := fun _ => fun
  | [d1, d2, d3, d4, d5, d6] => { results := [.lit (.bool true)], args := [d1, d2, d3, d4, d5, d6] }
  | _ => none }
def seqArgsRow : OpenClaim := { program := "ytnnjppgmadmmaaadoor", sum := "79529fcd8faadef426f0dadc86c029ed3d0e42c263c17f4402f047d0eb02f098", func := "linguist/linguistlaw6.SeqArgs", spec := "seqArgs", named := ["internal/strconv.uint64pow10", "math/bits.deBruijn32tab", "math/bits.deBruijn64tab"], apart := false, laid := [("math/bits.deBruijn32tab", laid_math_bits_deBruijn32tab), ("math/bits.deBruijn64tab", laid_math_bits_deBruijn64tab), ("internal/strconv.uint64pow10", laid_internal_strconv_uint64pow10)] }
def SeqArgsSaid : Prop := seqArgsRow.holds Tryd.pinned (OpenSpec.ofChange seqArgsSpec)

/-- ITS FALSE NEIGHBOUR: 'it returns false'. Refute it at one input. -/
def seqArgsWrong : ChangeSpec := { name := "seqArgs", fn := fun _ => fun
  | [d1, d2, d3, d4, d5, d6] => { results := [.lit (.bool false)], args := [d1, d2, d3, d4, d5, d6] }
  | _ => none }
def SeqArgsWrongFalsely : Prop := seqArgsRow.holds Tryd.pinned (OpenSpec.ofChange seqArgsWrong)

/-- 'linguistlaw6.SeqMany': WHATEVER THE INPUT: true; the input reads as it did. -/
def seqManySpec : ChangeSpec := { name := "seqMany", fn := fun _ => fun
  | [d1, d2, d3] => { results := [.lit (.bool true)], args := [d1, d2, d3] }
  | _ => none }
def seqManyRow : OpenClaim := { program := "ytnnjppgmadmmaaadoor", sum := "79529fcd8faadef426f0dadc86c029ed3d0e42c263c17f4402f047d0eb02f098", func := "linguist/linguistlaw6.SeqMany", spec := "seqMany", named := ["internal/strconv.uint64pow10", "math/bits.deBruijn32tab", "math/bits.deBruijn64tab"], apart := false, laid := [("math/bits.deBruijn32tab", laid_math_bits_deBruijn32tab), ("math/bits.deBruijn64tab", laid_math_bits_deBruijn64tab), ("internal/strconv.uint64pow10", laid_internal_strconv_uint64pow10)] }
def SeqManySaid : Prop := seqManyRow.holds Tryd.pinned (OpenSpec.ofChange seqManySpec)

/-- ITS FALSE NEIGHBOUR: 'it returns false'. Refute it at one input. -/
def seqManyWrong : ChangeSpec := { name := "seqMany", fn := fun _ => fun
  | [d1, d2, d3] => { results := [.lit (.bool false)], args := [d1, d2, d3] }
  | _ => none }
def SeqManyWrongFalsely : Prop := seqManyRow.holds Tryd.pinned (OpenSpec.ofChange seqManyWrong)

/-- 'linguistlaw6.SeqText': WHATEVER THE INPUT: true; the input reads as it did. -/
def seqTextSpec : ChangeSpec := { name := "seqText", fn := fun _ => fun
  | [d1, d2] => { results := [.lit (.bool true)], args := [d1, d2] }
  | _ => none }
def seqTextRow : OpenClaim := { program := "ytnnjppgmadmmaaadoor", sum := "79529fcd8faadef426f0dadc86c029ed3d0e42c263c17f4402f047d0eb02f098", func := "linguist/linguistlaw6.SeqText", spec := "seqText", named := ["internal/strconv.uint64pow10", "math/bits.deBruijn32tab", "math/bits.deBruijn64tab", "linguist/parse.moves", "linguist/parse.runs"], apart := false, laid := [("math/bits.deBruijn32tab", laid_math_bits_deBruijn32tab), ("math/bits.deBruijn64tab", laid_math_bits_deBruijn64tab), ("internal/strconv.uint64pow10", laid_internal_strconv_uint64pow10), ("linguist/parse.runs", laid_linguist_parse_runs), ("linguist/parse.moves", laid_linguist_parse_moves)] }
def SeqTextSaid : Prop := seqTextRow.holds Tryd.pinned (OpenSpec.ofChange seqTextSpec)

/-- ITS FALSE NEIGHBOUR: 'it returns false'. Refute it at one input. -/
def seqTextWrong : ChangeSpec := { name := "seqText", fn := fun _ => fun
  | [d1, d2] => { results := [.lit (.bool false)], args := [d1, d2] }
  | _ => none }
def SeqTextWrongFalsely : Prop := seqTextRow.holds Tryd.pinned (OpenSpec.ofChange seqTextWrong)

/- THE SECOND FORM. 'bulk': how many values and letters a reading holds, each counted each time it is reached (what is shared counts as often as it is met; a slice's spare places count too). A statement '..UptoSaid' is the law's where the arguments, and the package variables that the reading takes, are together of bulk at most 1048576: NARROWER than '..Said'. Prove '..Said' where nothing that the law and all that it calls make is longer than what came in: it says more and counts as full. Else prove '..UptoSaid'. A law counts once. -/
mutual
def uptoBulk {H : Type} : DataW H → Nat
  | .lit (.string bytes) => bytes.length + 1
  | .lit _ => 1
  | .nil => 1
  | .ptr d => uptoBulk d + 1
  | .slice elems spare => uptoBulkAll elems + uptoBulkAll spare + 1
  | .agg parts => uptoBulkAll parts + 1
  | .iface _ d => uptoBulk d + 1
  | .map entries => uptoBulkEntries entries + 1
  | .held _ => 1
def uptoBulkAll {H : Type} : List (DataW H) → Nat
  | [] => 0
  | d :: r => uptoBulk d + uptoBulkAll r
def uptoBulkEntries {H : Type} : List (Lit × DataW H) → Nat
  | [] => 0
  | x :: r => uptoBulkEntry x + uptoBulkEntries r
def uptoBulkEntry {H : Type} : Lit × DataW H → Nat
  | (.string bytes, d) => bytes.length + uptoBulk d + 1
  | (_, d) => uptoBulk d + 1
 end
def uptoSmall : (H : Type) → List (DataW H) → Bool := fun _ ds => decide (uptoBulkAll ds ≤ 1048576)
def OpenSpec.upto (s : _root_.Go.ChangeSpec) : _root_.Go.OpenSpec := { _root_.Go.OpenSpec.ofChange s with cond := some uptoSmall }

/-- 'linguistlaw6.SeqRuns', WHERE WHAT IT READS IS OF BULK AT MOST 1048576: true; the input reads as it did. -/
def seqRunsUptoRow : OpenClaim := { program := "ytnnjppgmadmmaaadoor", sum := "79529fcd8faadef426f0dadc86c029ed3d0e42c263c17f4402f047d0eb02f098", func := "linguist/linguistlaw6.SeqRuns", spec := "seqRuns", named := ["internal/strconv.uint64pow10", "math/bits.deBruijn32tab", "math/bits.deBruijn64tab"], apart := false, laid := [("math/bits.deBruijn32tab", laid_math_bits_deBruijn32tab), ("math/bits.deBruijn64tab", laid_math_bits_deBruijn64tab), ("internal/strconv.uint64pow10", laid_internal_strconv_uint64pow10)], narrowed := true }
def SeqRunsUptoSaid : Prop := seqRunsUptoRow.holds Tryd.pinned (OpenSpec.upto seqRunsSpec)

/-- 'linguistlaw6.SeqTells', WHERE WHAT IT READS IS OF BULK AT MOST 1048576: true; the input reads as it did. -/
def seqTellsUptoRow : OpenClaim := { program := "ytnnjppgmadmmaaadoor", sum := "79529fcd8faadef426f0dadc86c029ed3d0e42c263c17f4402f047d0eb02f098", func := "linguist/linguistlaw6.SeqTells", spec := "seqTells", named := ["internal/strconv.uint64pow10", "math/bits.deBruijn32tab", "math/bits.deBruijn64tab"], apart := false, laid := [("math/bits.deBruijn32tab", laid_math_bits_deBruijn32tab), ("math/bits.deBruijn64tab", laid_math_bits_deBruijn64tab), ("internal/strconv.uint64pow10", laid_internal_strconv_uint64pow10)], narrowed := true }
def SeqTellsUptoSaid : Prop := seqTellsUptoRow.holds Tryd.pinned (OpenSpec.upto seqTellsSpec)

/-- 'linguistlaw6.SeqBack', WHERE WHAT IT READS IS OF BULK AT MOST 1048576: true; the input reads as it did. -/
def seqBackUptoRow : OpenClaim := { program := "ytnnjppgmadmmaaadoor", sum := "79529fcd8faadef426f0dadc86c029ed3d0e42c263c17f4402f047d0eb02f098", func := "linguist/linguistlaw6.SeqBack", spec := "seqBack", named := ["internal/strconv.uint64pow10", "math/bits.deBruijn32tab", "math/bits.deBruijn64tab", "linguist/parse.moves", "linguist/parse.runs"], apart := false, laid := [("math/bits.deBruijn32tab", laid_math_bits_deBruijn32tab), ("math/bits.deBruijn64tab", laid_math_bits_deBruijn64tab), ("internal/strconv.uint64pow10", laid_internal_strconv_uint64pow10), ("linguist/parse.runs", laid_linguist_parse_runs), ("linguist/parse.moves", laid_linguist_parse_moves)], narrowed := true }
def SeqBackUptoSaid : Prop := seqBackUptoRow.holds Tryd.pinned (OpenSpec.upto seqBackSpec)

/-- 'linguistlaw6.SeqArgs', WHERE WHAT IT READS IS OF BULK AT MOST 1048576: true; the input reads as it did. -/
def seqArgsUptoRow : OpenClaim := { program := "ytnnjppgmadmmaaadoor", sum := "79529fcd8faadef426f0dadc86c029ed3d0e42c263c17f4402f047d0eb02f098", func := "linguist/linguistlaw6.SeqArgs", spec := "seqArgs", named := ["internal/strconv.uint64pow10", "math/bits.deBruijn32tab", "math/bits.deBruijn64tab"], apart := false, laid := [("math/bits.deBruijn32tab", laid_math_bits_deBruijn32tab), ("math/bits.deBruijn64tab", laid_math_bits_deBruijn64tab), ("internal/strconv.uint64pow10", laid_internal_strconv_uint64pow10)], narrowed := true }
def SeqArgsUptoSaid : Prop := seqArgsUptoRow.holds Tryd.pinned (OpenSpec.upto seqArgsSpec)

/-- 'linguistlaw6.SeqMany', WHERE WHAT IT READS IS OF BULK AT MOST 1048576: true; the input reads as it did. -/
def seqManyUptoRow : OpenClaim := { program := "ytnnjppgmadmmaaadoor", sum := "79529fcd8faadef426f0dadc86c029ed3d0e42c263c17f4402f047d0eb02f098", func := "linguist/linguistlaw6.SeqMany", spec := "seqMany", named := ["internal/strconv.uint64pow10", "math/bits.deBruijn32tab", "math/bits.deBruijn64tab"], apart := false, laid := [("math/bits.deBruijn32tab", laid_math_bits_deBruijn32tab), ("math/bits.deBruijn64tab", laid_math_bits_deBruijn64tab), ("internal/strconv.uint64pow10", laid_internal_strconv_uint64pow10)], narrowed := true }
def SeqManyUptoSaid : Prop := seqManyUptoRow.holds Tryd.pinned (OpenSpec.upto seqManySpec)

/-- 'linguistlaw6.SeqText', WHERE WHAT IT READS IS OF BULK AT MOST 1048576: true; the input reads as it did. -/
def seqTextUptoRow : OpenClaim := { program := "ytnnjppgmadmmaaadoor", sum := "79529fcd8faadef426f0dadc86c029ed3d0e42c263c17f4402f047d0eb02f098", func := "linguist/linguistlaw6.SeqText", spec := "seqText", named := ["internal/strconv.uint64pow10", "math/bits.deBruijn32tab", "math/bits.deBruijn64tab", "linguist/parse.moves", "linguist/parse.runs"], apart := false, laid := [("math/bits.deBruijn32tab", laid_math_bits_deBruijn32tab), ("math/bits.deBruijn64tab", laid_math_bits_deBruijn64tab), ("internal/strconv.uint64pow10", laid_internal_strconv_uint64pow10), ("linguist/parse.runs", laid_linguist_parse_runs), ("linguist/parse.moves", laid_linguist_parse_moves)], narrowed := true }
def SeqTextUptoSaid : Prop := seqTextUptoRow.holds Tryd.pinned (OpenSpec.upto seqTextSpec)

end Rows
end Go.Proofs.YtnnjppgmadmmaaaDoor
