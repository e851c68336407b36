/-
  NARROWER THAN 'FOR EVERY INPUT', by the rows' own cells (each row's printed sentence says how): SourceTells: laid · SourcePlays: laid · SourceBytes: laid · SourceText: laid · SourceTabs: laid · SourceReset: laid · ReplyAll: laid · ReplyPlaces: laid.
  DERIVED. THE GIVEN ROWS OF THIS SEAT. 8 by the template 'for every input the law returns true; each argument reads behind the call as it read before'; 0 by the template 'total and deterministic' (their statements: YtoaabebgmdbjeaaGreatDoorTotals.lean).
  GIVEN WITH THE SEED: the statements are not yours to turn. If you find one false, say at which input.
  Laid BY PROGRAM, IN A SANDBOX (cutbox-rows.mjs): the forced cells as the released guide's own fill.sh prints them over the translation 224bafed8b4a2941… (all of the seat's roots in one cut). By AI agents, Wed Nov 11 2026. No macro, syntax, notation, axiom, sorry.
-/
import Derived.Test.YtoaabebgmdbjeaaGreatDoorChecked
import GoSem.Claim
import GoSem.ClaimJoined
import GoSem.ClaimMapViews
import Derived.JoinedTies
import Derived.KernelRfl
namespace Go.Proofs.YtoaabebgmdbjeaaGreatDoor
/- THE CELL 'sum', in the pinned program and in every row, IS THE sha256 OF THE DUMP (.gsa) THAT YtoaabebgmdbjeaaGreatDoorProg.lean LOADS. Nothing in Lean hashes anything: it is a label: what it is worth is what the hold of that sum in a sandbox is worth. -/
noncomputable def Tryz.pinned : Pinned := { name := "ytoaabebgmdbjeaagreatdoor", sum := "224bafed8b4a2941bf8203dfd84288f4bee9c772f4dd7fb8c39f2679e40a2c8a", checked := Tryz.checked }
namespace Rows
def none {H : Type} : Left H := { results := [], args := [] }

/- WHAT THE LISTED PACKAGE-LEVEL VARIABLES READ AS WHEN THE CALL BEGINS. Each datum BY PROGRAM (the guide's laid-datum.mjs) off the statement by which the dump's own 'gosem.cut.vars' lays the variable. In a bare row this is a premise. The card (YtoaabebgmdbjeaaGreatDoorCards.lean) ties it to the program's text. -/
def laid_linguist_cell_spans {H : Type} : DataW H := .agg [.agg [.lit (.int .i32 127), .lit (.int .i32 159), .lit (.int .i64 0)], .agg [.lit (.int .i32 768), .lit (.int .i32 879), .lit (.int .i64 0)], .agg [.lit (.int .i32 4352), .lit (.int .i32 4447), .lit (.int .i64 2)], .agg [.lit (.int .i32 11904), .lit (.int .i32 42191), .lit (.int .i64 2)], .agg [.lit (.int .i32 44032), .lit (.int .i32 55203), .lit (.int .i64 2)], .agg [.lit (.int .i32 55296), .lit (.int .i32 57343), .lit (.int .i64 0)], .agg [.lit (.int .i32 63744), .lit (.int .i32 64255), .lit (.int .i64 2)], .agg [.lit (.int .i32 65072), .lit (.int .i32 65135), .lit (.int .i64 2)], .agg [.lit (.int .i32 65280), .lit (.int .i32 65376), .lit (.int .i64 2)], .agg [.lit (.int .i32 65504), .lit (.int .i32 65510), .lit (.int .i64 2)], .agg [.lit (.int .i32 127744), .lit (.int .i32 129791), .lit (.int .i64 2)], .agg [.lit (.int .i32 131072), .lit (.int .i32 262141), .lit (.int .i64 2)]]
def laid_linguist_charset_signs {H : Type} : DataW H := .agg [.agg [.lit (.int .i32 9670), .lit (.int .u8 42)], .agg [.lit (.int .i32 9618), .lit (.int .u8 35)], .agg [.lit (.int .i32 9225), .lit (.int .u8 72)], .agg [.lit (.int .i32 9228), .lit (.int .u8 70)], .agg [.lit (.int .i32 9229), .lit (.int .u8 67)], .agg [.lit (.int .i32 9226), .lit (.int .u8 76)], .agg [.lit (.int .i32 176), .lit (.int .u8 111)], .agg [.lit (.int .i32 177), .lit (.int .u8 43)], .agg [.lit (.int .i32 9252), .lit (.int .u8 78)], .agg [.lit (.int .i32 9227), .lit (.int .u8 86)], .agg [.lit (.int .i32 9496), .lit (.int .u8 43)], .agg [.lit (.int .i32 9488), .lit (.int .u8 43)], .agg [.lit (.int .i32 9484), .lit (.int .u8 43)], .agg [.lit (.int .i32 9492), .lit (.int .u8 43)], .agg [.lit (.int .i32 9532), .lit (.int .u8 43)], .agg [.lit (.int .i32 9146), .lit (.int .u8 45)], .agg [.lit (.int .i32 9147), .lit (.int .u8 45)], .agg [.lit (.int .i32 9472), .lit (.int .u8 45)], .agg [.lit (.int .i32 9148), .lit (.int .u8 45)], .agg [.lit (.int .i32 9149), .lit (.int .u8 95)], .agg [.lit (.int .i32 9500), .lit (.int .u8 43)], .agg [.lit (.int .i32 9508), .lit (.int .u8 43)], .agg [.lit (.int .i32 9524), .lit (.int .u8 43)], .agg [.lit (.int .i32 9516), .lit (.int .u8 43)], .agg [.lit (.int .i32 9474), .lit (.int .u8 124)], .agg [.lit (.int .i32 8804), .lit (.int .u8 60)], .agg [.lit (.int .i32 8805), .lit (.int .u8 62)], .agg [.lit (.int .i32 960), .lit (.int .u8 112)], .agg [.lit (.int .i32 8800), .lit (.int .u8 33)], .agg [.lit (.int .i32 163), .lit (.int .u8 76)], .agg [.lit (.int .i32 183), .lit (.int .u8 46)]]
def laid_linguist_pen_flags {H : Type} : DataW H := .agg [.lit (.int .i64 0), .lit (.int .i64 1), .lit (.int .i64 2), .lit (.int .i64 4), .lit (.int .i64 8), .lit (.int .i64 16), .lit (.int .i64 0), .lit (.int .i64 32), .lit (.int .i64 64), .lit (.int .i64 128)]
def laid_math_bits_deBruijn64tab {H : Type} : DataW H := .agg [.lit (.int .u8 0), .lit (.int .u8 1), .lit (.int .u8 56), .lit (.int .u8 2), .lit (.int .u8 57), .lit (.int .u8 49), .lit (.int .u8 28), .lit (.int .u8 3), .lit (.int .u8 61), .lit (.int .u8 58), .lit (.int .u8 42), .lit (.int .u8 50), .lit (.int .u8 38), .lit (.int .u8 29), .lit (.int .u8 17), .lit (.int .u8 4), .lit (.int .u8 62), .lit (.int .u8 47), .lit (.int .u8 59), .lit (.int .u8 36), .lit (.int .u8 45), .lit (.int .u8 43), .lit (.int .u8 51), .lit (.int .u8 22), .lit (.int .u8 53), .lit (.int .u8 39), .lit (.int .u8 33), .lit (.int .u8 30), .lit (.int .u8 24), .lit (.int .u8 18), .lit (.int .u8 12), .lit (.int .u8 5), .lit (.int .u8 63), .lit (.int .u8 55), .lit (.int .u8 48), .lit (.int .u8 27), .lit (.int .u8 60), .lit (.int .u8 41), .lit (.int .u8 37), .lit (.int .u8 16), .lit (.int .u8 46), .lit (.int .u8 35), .lit (.int .u8 44), .lit (.int .u8 21), .lit (.int .u8 52), .lit (.int .u8 32), .lit (.int .u8 23), .lit (.int .u8 11), .lit (.int .u8 54), .lit (.int .u8 26), .lit (.int .u8 40), .lit (.int .u8 15), .lit (.int .u8 34), .lit (.int .u8 20), .lit (.int .u8 31), .lit (.int .u8 10), .lit (.int .u8 25), .lit (.int .u8 14), .lit (.int .u8 19), .lit (.int .u8 9), .lit (.int .u8 13), .lit (.int .u8 8), .lit (.int .u8 7), .lit (.int .u8 6)]
def laid_linguist_parse_runs {H : Type} : DataW H := .agg [.agg [.lit (.int .u8 6), .lit (.int .u8 0)], .agg [.lit (.int .u8 7), .lit (.int .u8 1)], .agg [.lit (.int .u8 23), .lit (.int .u8 0)], .agg [.lit (.int .u8 24), .lit (.int .u8 2)], .agg [.lit (.int .u8 25), .lit (.int .u8 0)], .agg [.lit (.int .u8 26), .lit (.int .u8 2)], .agg [.lit (.int .u8 27), .lit (.int .u8 3)], .agg [.lit (.int .u8 31), .lit (.int .u8 0)], .agg [.lit (.int .u8 47), .lit (.int .u8 4)], .agg [.lit (.int .u8 57), .lit (.int .u8 5)], .agg [.lit (.int .u8 58), .lit (.int .u8 6)], .agg [.lit (.int .u8 59), .lit (.int .u8 7)], .agg [.lit (.int .u8 63), .lit (.int .u8 8)], .agg [.lit (.int .u8 79), .lit (.int .u8 13)], .agg [.lit (.int .u8 80), .lit (.int .u8 11)], .agg [.lit (.int .u8 87), .lit (.int .u8 13)], .agg [.lit (.int .u8 88), .lit (.int .u8 11)], .agg [.lit (.int .u8 90), .lit (.int .u8 13)], .agg [.lit (.int .u8 91), .lit (.int .u8 9)], .agg [.lit (.int .u8 92), .lit (.int .u8 12)], .agg [.lit (.int .u8 93), .lit (.int .u8 10)], .agg [.lit (.int .u8 95), .lit (.int .u8 11)], .agg [.lit (.int .u8 126), .lit (.int .u8 13)], .agg [.lit (.int .u8 127), .lit (.int .u8 14)]]
def laid_linguist_parse_moves {H : Type} : DataW H := .agg [.agg [.lit (.int .u8 0), .lit (.int .u8 0), .lit (.int .u8 0), .lit (.int .u8 0), .lit (.int .u8 0), .lit (.int .u8 0), .lit (.int .u8 0), .lit (.int .u8 0), .lit (.int .u8 0), .lit (.int .u8 0), .lit (.int .u8 0), .lit (.int .u8 0), .lit (.int .u8 0), .lit (.int .u8 0), .lit (.int .u8 0), .lit (.int .u8 0)], .agg [.lit (.int .u8 32), .lit (.int .u8 32), .lit (.int .u8 0), .lit (.int .u8 2), .lit (.int .u8 16), .lit (.int .u8 16), .lit (.int .u8 16), .lit (.int .u8 16), .lit (.int .u8 16), .lit (.int .u8 16), .lit (.int .u8 16), .lit (.int .u8 16), .lit (.int .u8 16), .lit (.int .u8 16), .lit (.int .u8 0), .lit (.int .u8 48)], .agg [.lit (.int .u8 32), .lit (.int .u8 32), .lit (.int .u8 1), .lit (.int .u8 2), .lit (.int .u8 115), .lit (.int .u8 145), .lit (.int .u8 145), .lit (.int .u8 145), .lit (.int .u8 145), .lit (.int .u8 5), .lit (.int .u8 9), .lit (.int .u8 11), .lit (.int .u8 145), .lit (.int .u8 145), .lit (.int .u8 0), .lit (.int .u8 49)], .agg [.lit (.int .u8 32), .lit (.int .u8 32), .lit (.int .u8 1), .lit (.int .u8 2), .lit (.int .u8 4), .lit (.int .u8 145), .lit (.int .u8 145), .lit (.int .u8 145), .lit (.int .u8 145), .lit (.int .u8 145), .lit (.int .u8 145), .lit (.int .u8 145), .lit (.int .u8 145), .lit (.int .u8 145), .lit (.int .u8 0), .lit (.int .u8 49)], .agg [.lit (.int .u8 32), .lit (.int .u8 32), .lit (.int .u8 1), .lit (.int .u8 2), .lit (.int .u8 0), .lit (.int .u8 1), .lit (.int .u8 1), .lit (.int .u8 1), .lit (.int .u8 1), .lit (.int .u8 1), .lit (.int .u8 1), .lit (.int .u8 1), .lit (.int .u8 1), .lit (.int .u8 1), .lit (.int .u8 0), .lit (.int .u8 49)], .agg [.lit (.int .u8 32), .lit (.int .u8 32), .lit (.int .u8 1), .lit (.int .u8 2), .lit (.int .u8 119), .lit (.int .u8 86), .lit (.int .u8 8), .lit (.int .u8 102), .lit (.int .u8 70), .lit (.int .u8 161), .lit (.int .u8 161), .lit (.int .u8 161), .lit (.int .u8 161), .lit (.int .u8 161), .lit (.int .u8 0), .lit (.int .u8 49)], .agg [.lit (.int .u8 32), .lit (.int .u8 32), .lit (.int .u8 1), .lit (.int .u8 2), .lit (.int .u8 119), .lit (.int .u8 80), .lit (.int .u8 8), .lit (.int .u8 96), .lit (.int .u8 8), .lit (.int .u8 161), .lit (.int .u8 161), .lit (.int .u8 161), .lit (.int .u8 161), .lit (.int .u8 161), .lit (.int .u8 0), .lit (.int .u8 49)], .agg [.lit (.int .u8 32), .lit (.int .u8 32), .lit (.int .u8 1), .lit (.int .u8 2), .lit (.int .u8 8), .lit (.int .u8 8), .lit (.int .u8 8), .lit (.int .u8 8), .lit (.int .u8 8), .lit (.int .u8 161), .lit (.int .u8 161), .lit (.int .u8 161), .lit (.int .u8 161), .lit (.int .u8 161), .lit (.int .u8 0), .lit (.int .u8 49)], .agg [.lit (.int .u8 32), .lit (.int .u8 32), .lit (.int .u8 1), .lit (.int .u8 2), .lit (.int .u8 0), .lit (.int .u8 0), .lit (.int .u8 0), .lit (.int .u8 0), .lit (.int .u8 0), .lit (.int .u8 1), .lit (.int .u8 1), .lit (.int .u8 1), .lit (.int .u8 1), .lit (.int .u8 1), .lit (.int .u8 0), .lit (.int .u8 49)], .agg [.lit (.int .u8 0), .lit (.int .u8 177), .lit (.int .u8 1), .lit (.int .u8 10), .lit (.int .u8 128), .lit (.int .u8 128), .lit (.int .u8 128), .lit (.int .u8 128), .lit (.int .u8 128), .lit (.int .u8 128), .lit (.int .u8 128), .lit (.int .u8 128), .lit (.int .u8 128), .lit (.int .u8 128), .lit (.int .u8 128), .lit (.int .u8 128)], .agg [.lit (.int .u8 194), .lit (.int .u8 194), .lit (.int .u8 194), .lit (.int .u8 194), .lit (.int .u8 194), .lit (.int .u8 194), .lit (.int .u8 194), .lit (.int .u8 194), .lit (.int .u8 194), .lit (.int .u8 194), .lit (.int .u8 194), .lit (.int .u8 194), .lit (.int .u8 177), .lit (.int .u8 194), .lit (.int .u8 194), .lit (.int .u8 194)], .agg [.lit (.int .u8 0), .lit (.int .u8 1), .lit (.int .u8 1), .lit (.int .u8 12), .lit (.int .u8 0), .lit (.int .u8 0), .lit (.int .u8 0), .lit (.int .u8 0), .lit (.int .u8 0), .lit (.int .u8 0), .lit (.int .u8 0), .lit (.int .u8 0), .lit (.int .u8 0), .lit (.int .u8 0), .lit (.int .u8 0), .lit (.int .u8 0)], .agg [.lit (.int .u8 194), .lit (.int .u8 194), .lit (.int .u8 194), .lit (.int .u8 194), .lit (.int .u8 194), .lit (.int .u8 194), .lit (.int .u8 194), .lit (.int .u8 194), .lit (.int .u8 194), .lit (.int .u8 194), .lit (.int .u8 194), .lit (.int .u8 194), .lit (.int .u8 1), .lit (.int .u8 194), .lit (.int .u8 194), .lit (.int .u8 194)]]
def laid_math_bits_deBruijn32tab {H : Type} : DataW H := .agg [.lit (.int .u8 0), .lit (.int .u8 1), .lit (.int .u8 28), .lit (.int .u8 2), .lit (.int .u8 29), .lit (.int .u8 14), .lit (.int .u8 24), .lit (.int .u8 3), .lit (.int .u8 30), .lit (.int .u8 22), .lit (.int .u8 20), .lit (.int .u8 15), .lit (.int .u8 25), .lit (.int .u8 17), .lit (.int .u8 4), .lit (.int .u8 8), .lit (.int .u8 31), .lit (.int .u8 27), .lit (.int .u8 13), .lit (.int .u8 23), .lit (.int .u8 21), .lit (.int .u8 19), .lit (.int .u8 16), .lit (.int .u8 7), .lit (.int .u8 26), .lit (.int .u8 12), .lit (.int .u8 18), .lit (.int .u8 6), .lit (.int .u8 11), .lit (.int .u8 5), .lit (.int .u8 10), .lit (.int .u8 9)]
def laid_internal_strconv_uint64pow10 {H : Type} : DataW H := .agg [.lit (.int .u64 1), .lit (.int .u64 10), .lit (.int .u64 100), .lit (.int .u64 1000), .lit (.int .u64 10000), .lit (.int .u64 100000), .lit (.int .u64 1000000), .lit (.int .u64 10000000), .lit (.int .u64 100000000), .lit (.int .u64 1000000000), .lit (.int .u64 10000000000), .lit (.int .u64 100000000000), .lit (.int .u64 1000000000000), .lit (.int .u64 10000000000000), .lit (.int .u64 100000000000000), .lit (.int .u64 1000000000000000), .lit (.int .u64 10000000000000000), .lit (.int .u64 100000000000000000), .lit (.int .u64 1000000000000000000), .lit (.int .u64 10000000000000000000)]
def laid_linguist_modes_known {H : Type} : DataW H := .agg [.lit (.int .i64 1), .lit (.int .i64 6), .lit (.int .i64 7), .lit (.int .i64 25)]

/-- 'linguistlaw14.SourceTells': WHATEVER THE INPUT: true; the input reads as it did. -/
def sourceTellsSpec : ChangeSpec := { name := "sourceTells", fn := fun _ => fun
  | [d1, d2, d3, d4] => { results := [.lit (.bool true)], args := [d1, d2, d3, d4] }
  | _ => none }
def sourceTellsRow : OpenClaim := { program := "ytoaabebgmdbjeaagreatdoor", sum := "224bafed8b4a2941bf8203dfd84288f4bee9c772f4dd7fb8c39f2679e40a2c8a", func := "linguist/linguistlaw14.SourceTells", spec := "sourceTells", unfollowed := true, recurses := true, named := ["linguist/charset.signs", "linguist/cell.spans", "math/bits.deBruijn64tab", "linguist/pen.flags", "linguist/parse.moves", "linguist/parse.runs"], apart := false, laid := [("linguist/cell.spans", laid_linguist_cell_spans), ("linguist/charset.signs", laid_linguist_charset_signs), ("linguist/pen.flags", laid_linguist_pen_flags), ("math/bits.deBruijn64tab", laid_math_bits_deBruijn64tab), ("linguist/parse.runs", laid_linguist_parse_runs), ("linguist/parse.moves", laid_linguist_parse_moves)] }
def SourceTellsSaid : Prop := sourceTellsRow.holds Tryz.pinned (OpenSpec.ofChange sourceTellsSpec)

/-- ITS FALSE NEIGHBOUR: 'it returns false'. Refute it at one input. -/
def sourceTellsWrong : ChangeSpec := { name := "sourceTells", fn := fun _ => fun
  | [d1, d2, d3, d4] => { results := [.lit (.bool false)], args := [d1, d2, d3, d4] }
  | _ => none }
def SourceTellsWrongFalsely : Prop := sourceTellsRow.holds Tryz.pinned (OpenSpec.ofChange sourceTellsWrong)

/-- 'linguistlaw14.SourcePlays': WHATEVER THE INPUT: true; the input reads as it did. -/
def sourcePlaysSpec : ChangeSpec := { name := "sourcePlays", fn := fun _ => fun
  | [d1, d2, d3] => { results := [.lit (.bool true)], args := [d1, d2, d3] }
  | _ => none }
def sourcePlaysRow : OpenClaim := { program := "ytoaabebgmdbjeaagreatdoor", sum := "224bafed8b4a2941bf8203dfd84288f4bee9c772f4dd7fb8c39f2679e40a2c8a", func := "linguist/linguistlaw14.SourcePlays", spec := "sourcePlays", unfollowed := true, recurses := true, named := ["linguist/charset.signs", "linguist/cell.spans", "math/bits.deBruijn64tab", "linguist/pen.flags", "linguist/parse.moves", "linguist/parse.runs"], apart := false, laid := [("linguist/cell.spans", laid_linguist_cell_spans), ("linguist/charset.signs", laid_linguist_charset_signs), ("linguist/pen.flags", laid_linguist_pen_flags), ("math/bits.deBruijn64tab", laid_math_bits_deBruijn64tab), ("linguist/parse.runs", laid_linguist_parse_runs), ("linguist/parse.moves", laid_linguist_parse_moves)] }
def SourcePlaysSaid : Prop := sourcePlaysRow.holds Tryz.pinned (OpenSpec.ofChange sourcePlaysSpec)

/-- ITS FALSE NEIGHBOUR: 'it returns false'. Refute it at one input. -/
def sourcePlaysWrong : ChangeSpec := { name := "sourcePlays", fn := fun _ => fun
  | [d1, d2, d3] => { results := [.lit (.bool false)], args := [d1, d2, d3] }
  | _ => none }
def SourcePlaysWrongFalsely : Prop := sourcePlaysRow.holds Tryz.pinned (OpenSpec.ofChange sourcePlaysWrong)

/-- 'linguistlaw14.SourceBytes': WHATEVER THE INPUT: true; the input reads as it did. -/
def sourceBytesSpec : ChangeSpec := { name := "sourceBytes", fn := fun _ => fun
  | [d1, d2, d3, d4] => { results := [.lit (.bool true)], args := [d1, d2, d3, d4] }
  | _ => none }
def sourceBytesRow : OpenClaim := { program := "ytoaabebgmdbjeaagreatdoor", sum := "224bafed8b4a2941bf8203dfd84288f4bee9c772f4dd7fb8c39f2679e40a2c8a", func := "linguist/linguistlaw14.SourceBytes", spec := "sourceBytes", unfollowed := true, recurses := true, named := ["linguist/parse.moves", "linguist/parse.runs", "linguist/charset.signs", "linguist/cell.spans", "math/bits.deBruijn64tab", "linguist/pen.flags"], apart := false, laid := [("linguist/cell.spans", laid_linguist_cell_spans), ("linguist/charset.signs", laid_linguist_charset_signs), ("linguist/pen.flags", laid_linguist_pen_flags), ("math/bits.deBruijn64tab", laid_math_bits_deBruijn64tab), ("linguist/parse.runs", laid_linguist_parse_runs), ("linguist/parse.moves", laid_linguist_parse_moves)] }
def SourceBytesSaid : Prop := sourceBytesRow.holds Tryz.pinned (OpenSpec.ofChange sourceBytesSpec)

/-- ITS FALSE NEIGHBOUR: 'it returns false'. Refute it at one input. -/
def sourceBytesWrong : ChangeSpec := { name := "sourceBytes", fn := fun _ => fun
  | [d1, d2, d3, d4] => { results := [.lit (.bool false)], args := [d1, d2, d3, d4] }
  | _ => none }
def SourceBytesWrongFalsely : Prop := sourceBytesRow.holds Tryz.pinned (OpenSpec.ofChange sourceBytesWrong)

/-- 'linguistlaw14.SourceText': WHATEVER THE INPUT: true; the input reads as it did. -/
def sourceTextSpec : ChangeSpec := { name := "sourceText", fn := fun _ => fun
  | [d1, d2, d3, d4] => { results := [.lit (.bool true)], args := [d1, d2, d3, d4] }
  | _ => none }
def sourceTextRow : OpenClaim := { program := "ytoaabebgmdbjeaagreatdoor", sum := "224bafed8b4a2941bf8203dfd84288f4bee9c772f4dd7fb8c39f2679e40a2c8a", func := "linguist/linguistlaw14.SourceText", spec := "sourceText", unfollowed := true, recurses := true, named := ["linguist/charset.signs", "linguist/cell.spans", "linguist/parse.moves", "linguist/parse.runs", "math/bits.deBruijn64tab", "linguist/pen.flags"], apart := false, laid := [("linguist/cell.spans", laid_linguist_cell_spans), ("linguist/charset.signs", laid_linguist_charset_signs), ("linguist/pen.flags", laid_linguist_pen_flags), ("math/bits.deBruijn64tab", laid_math_bits_deBruijn64tab), ("linguist/parse.runs", laid_linguist_parse_runs), ("linguist/parse.moves", laid_linguist_parse_moves)] }
def SourceTextSaid : Prop := sourceTextRow.holds Tryz.pinned (OpenSpec.ofChange sourceTextSpec)

/-- ITS FALSE NEIGHBOUR: 'it returns false'. Refute it at one input. -/
def sourceTextWrong : ChangeSpec := { name := "sourceText", fn := fun _ => fun
  | [d1, d2, d3, d4] => { results := [.lit (.bool false)], args := [d1, d2, d3, d4] }
  | _ => none }
def SourceTextWrongFalsely : Prop := sourceTextRow.holds Tryz.pinned (OpenSpec.ofChange sourceTextWrong)

/-- 'linguistlaw14.SourceTabs': WHATEVER THE INPUT: true; the input reads as it did. -/
def sourceTabsSpec : ChangeSpec := { name := "sourceTabs", fn := fun _ => fun
  | [d1, d2, d3] => { results := [.lit (.bool true)], args := [d1, d2, d3] }
  | _ => none }
def sourceTabsRow : OpenClaim := { program := "ytoaabebgmdbjeaagreatdoor", sum := "224bafed8b4a2941bf8203dfd84288f4bee9c772f4dd7fb8c39f2679e40a2c8a", func := "linguist/linguistlaw14.SourceTabs", spec := "sourceTabs", unfollowed := true, recurses := true, named := ["linguist/charset.signs", "linguist/cell.spans", "math/bits.deBruijn64tab", "linguist/pen.flags", "linguist/parse.moves", "linguist/parse.runs"], apart := false, laid := [("linguist/cell.spans", laid_linguist_cell_spans), ("linguist/charset.signs", laid_linguist_charset_signs), ("linguist/pen.flags", laid_linguist_pen_flags), ("math/bits.deBruijn64tab", laid_math_bits_deBruijn64tab), ("linguist/parse.runs", laid_linguist_parse_runs), ("linguist/parse.moves", laid_linguist_parse_moves)] }
def SourceTabsSaid : Prop := sourceTabsRow.holds Tryz.pinned (OpenSpec.ofChange sourceTabsSpec)

/-- ITS FALSE NEIGHBOUR: 'it returns false'. Refute it at one input. -/
def sourceTabsWrong : ChangeSpec := { name := "sourceTabs", fn := fun _ => fun
  | [d1, d2, d3] => { results := [.lit (.bool false)], args := [d1, d2, d3] }
  | _ => none }
def SourceTabsWrongFalsely : Prop := sourceTabsRow.holds Tryz.pinned (OpenSpec.ofChange sourceTabsWrong)

/-- 'linguistlaw14.SourceReset': WHATEVER THE INPUT: true; the input reads as it did. -/
def sourceResetSpec : ChangeSpec := { name := "sourceReset", fn := fun _ => fun
  | [d1, d2] => { results := [.lit (.bool true)], args := [d1, d2] }
  | _ => none }
def sourceResetRow : OpenClaim := { program := "ytoaabebgmdbjeaagreatdoor", sum := "224bafed8b4a2941bf8203dfd84288f4bee9c772f4dd7fb8c39f2679e40a2c8a", func := "linguist/linguistlaw14.SourceReset", spec := "sourceReset", unfollowed := true, recurses := true, named := ["linguist/charset.signs", "linguist/cell.spans", "math/bits.deBruijn64tab", "linguist/pen.flags", "linguist/parse.moves", "linguist/parse.runs"], apart := false, laid := [("linguist/cell.spans", laid_linguist_cell_spans), ("linguist/charset.signs", laid_linguist_charset_signs), ("linguist/pen.flags", laid_linguist_pen_flags), ("math/bits.deBruijn64tab", laid_math_bits_deBruijn64tab), ("linguist/parse.runs", laid_linguist_parse_runs), ("linguist/parse.moves", laid_linguist_parse_moves)] }
def SourceResetSaid : Prop := sourceResetRow.holds Tryz.pinned (OpenSpec.ofChange sourceResetSpec)

/-- ITS FALSE NEIGHBOUR: 'it returns false'. Refute it at one input. -/
def sourceResetWrong : ChangeSpec := { name := "sourceReset", fn := fun _ => fun
  | [d1, d2] => { results := [.lit (.bool false)], args := [d1, d2] }
  | _ => none }
def SourceResetWrongFalsely : Prop := sourceResetRow.holds Tryz.pinned (OpenSpec.ofChange sourceResetWrong)

/-- 'linguistlaw15.ReplyAll': WHATEVER THE INPUT: true; the input reads as it did. -/
def replyAllSpec : ChangeSpec := { name := "replyAll", fn := fun _ => fun
  | [d1, d2, d3] => { results := [.lit (.bool true)], args := [d1, d2, d3] }
  | _ => none }
def replyAllRow : OpenClaim := { program := "ytoaabebgmdbjeaagreatdoor", sum := "224bafed8b4a2941bf8203dfd84288f4bee9c772f4dd7fb8c39f2679e40a2c8a", func := "linguist/linguistlaw15.ReplyAll", spec := "replyAll", unfollowed := true, recurses := true, named := ["linguist/modes.known", "internal/strconv.uint64pow10", "math/bits.deBruijn32tab", "math/bits.deBruijn64tab", "linguist/charset.signs", "linguist/cell.spans", "linguist/pen.flags"], apart := false, laid := [("linguist/cell.spans", laid_linguist_cell_spans), ("linguist/charset.signs", laid_linguist_charset_signs), ("linguist/pen.flags", laid_linguist_pen_flags), ("math/bits.deBruijn32tab", laid_math_bits_deBruijn32tab), ("math/bits.deBruijn64tab", laid_math_bits_deBruijn64tab), ("internal/strconv.uint64pow10", laid_internal_strconv_uint64pow10), ("linguist/modes.known", laid_linguist_modes_known)] }
def ReplyAllSaid : Prop := replyAllRow.holds Tryz.pinned (OpenSpec.ofChange replyAllSpec)

/-- ITS FALSE NEIGHBOUR: 'it returns false'. Refute it at one input. -/
def replyAllWrong : ChangeSpec := { name := "replyAll", fn := fun _ => fun
  | [d1, d2, d3] => { results := [.lit (.bool false)], args := [d1, d2, d3] }
  | _ => none }
def ReplyAllWrongFalsely : Prop := replyAllRow.holds Tryz.pinned (OpenSpec.ofChange replyAllWrong)

/-- 'linguistlaw15.ReplyPlaces': WHATEVER THE INPUT: true; the input reads as it did. -/
def replyPlacesSpec : ChangeSpec := { name := "replyPlaces", fn := fun _ => fun
  | [d1, d2, d3, d4] => { results := [.lit (.bool true)], args := [d1, d2, d3, d4] }
  | _ => none }
def replyPlacesRow : OpenClaim := { program := "ytoaabebgmdbjeaagreatdoor", sum := "224bafed8b4a2941bf8203dfd84288f4bee9c772f4dd7fb8c39f2679e40a2c8a", func := "linguist/linguistlaw15.ReplyPlaces", spec := "replyPlaces", unfollowed := true, recurses := true, named := ["linguist/modes.known", "internal/strconv.uint64pow10", "math/bits.deBruijn32tab", "math/bits.deBruijn64tab", "linguist/charset.signs", "linguist/cell.spans", "linguist/pen.flags"], apart := false, laid := [("linguist/cell.spans", laid_linguist_cell_spans), ("linguist/charset.signs", laid_linguist_charset_signs), ("linguist/pen.flags", laid_linguist_pen_flags), ("math/bits.deBruijn32tab", laid_math_bits_deBruijn32tab), ("math/bits.deBruijn64tab", laid_math_bits_deBruijn64tab), ("internal/strconv.uint64pow10", laid_internal_strconv_uint64pow10), ("linguist/modes.known", laid_linguist_modes_known)] }
def ReplyPlacesSaid : Prop := replyPlacesRow.holds Tryz.pinned (OpenSpec.ofChange replyPlacesSpec)

/-- ITS FALSE NEIGHBOUR: 'it returns false'. Refute it at one input. -/
def replyPlacesWrong : ChangeSpec := { name := "replyPlaces", fn := fun _ => fun
  | [d1, d2, d3, d4] => { results := [.lit (.bool false)], args := [d1, d2, d3, d4] }
  | _ => none }
def ReplyPlacesWrongFalsely : Prop := replyPlacesRow.holds Tryz.pinned (OpenSpec.ofChange replyPlacesWrong)

/- THE SECOND FORM. 'bulk': how many values and letters a reading holds, each counted each time it is reached (what is shared counts as often as it is met; a slice's spare places count too). A statement '..UptoSaid' is the law's where the arguments, and the package variables that the reading takes, are together of bulk at most 1048576: NARROWER than '..Said'. Prove '..Said' where nothing that the law and all that it calls make is longer than what came in: it says more and counts as full. Else prove '..UptoSaid'. A law counts once. -/
mutual
def uptoBulk {H : Type} : DataW H → Nat
  | .lit (.string bytes) => bytes.length + 1
  | .lit _ => 1
  | .nil => 1
  | .ptr d => uptoBulk d + 1
  | .slice elems spare => uptoBulkAll elems + uptoBulkAll spare + 1
  | .agg parts => uptoBulkAll parts + 1
  | .iface _ d => uptoBulk d + 1
  | .map entries => uptoBulkEntries entries + 1
  | .held _ => 1
def uptoBulkAll {H : Type} : List (DataW H) → Nat
  | [] => 0
  | d :: r => uptoBulk d + uptoBulkAll r
def uptoBulkEntries {H : Type} : List (Lit × DataW H) → Nat
  | [] => 0
  | x :: r => uptoBulkEntry x + uptoBulkEntries r
def uptoBulkEntry {H : Type} : Lit × DataW H → Nat
  | (.string bytes, d) => bytes.length + uptoBulk d + 1
  | (_, d) => uptoBulk d + 1
 end
def uptoSmall : (H : Type) → List (DataW H) → Bool := fun _ ds => decide (uptoBulkAll ds ≤ 1048576)
def OpenSpec.upto (s : _root_.Go.ChangeSpec) : _root_.Go.OpenSpec := { _root_.Go.OpenSpec.ofChange s with cond := some uptoSmall }

/-- 'linguistlaw14.SourceTells', WHERE WHAT IT READS IS OF BULK AT MOST 1048576: true; the input reads as it did. -/
def sourceTellsUptoRow : OpenClaim := { program := "ytoaabebgmdbjeaagreatdoor", sum := "224bafed8b4a2941bf8203dfd84288f4bee9c772f4dd7fb8c39f2679e40a2c8a", func := "linguist/linguistlaw14.SourceTells", spec := "sourceTells", unfollowed := true, recurses := true, named := ["linguist/charset.signs", "linguist/cell.spans", "math/bits.deBruijn64tab", "linguist/pen.flags", "linguist/parse.moves", "linguist/parse.runs"], apart := false, laid := [("linguist/cell.spans", laid_linguist_cell_spans), ("linguist/charset.signs", laid_linguist_charset_signs), ("linguist/pen.flags", laid_linguist_pen_flags), ("math/bits.deBruijn64tab", laid_math_bits_deBruijn64tab), ("linguist/parse.runs", laid_linguist_parse_runs), ("linguist/parse.moves", laid_linguist_parse_moves)], narrowed := true }
def SourceTellsUptoSaid : Prop := sourceTellsUptoRow.holds Tryz.pinned (OpenSpec.upto sourceTellsSpec)

/-- 'linguistlaw14.SourcePlays', WHERE WHAT IT READS IS OF BULK AT MOST 1048576: true; the input reads as it did. -/
def sourcePlaysUptoRow : OpenClaim := { program := "ytoaabebgmdbjeaagreatdoor", sum := "224bafed8b4a2941bf8203dfd84288f4bee9c772f4dd7fb8c39f2679e40a2c8a", func := "linguist/linguistlaw14.SourcePlays", spec := "sourcePlays", unfollowed := true, recurses := true, named := ["linguist/charset.signs", "linguist/cell.spans", "math/bits.deBruijn64tab", "linguist/pen.flags", "linguist/parse.moves", "linguist/parse.runs"], apart := false, laid := [("linguist/cell.spans", laid_linguist_cell_spans), ("linguist/charset.signs", laid_linguist_charset_signs), ("linguist/pen.flags", laid_linguist_pen_flags), ("math/bits.deBruijn64tab", laid_math_bits_deBruijn64tab), ("linguist/parse.runs", laid_linguist_parse_runs), ("linguist/parse.moves", laid_linguist_parse_moves)], narrowed := true }
def SourcePlaysUptoSaid : Prop := sourcePlaysUptoRow.holds Tryz.pinned (OpenSpec.upto sourcePlaysSpec)

/-- 'linguistlaw14.SourceBytes', WHERE WHAT IT READS IS OF BULK AT MOST 1048576: true; the input reads as it did. -/
def sourceBytesUptoRow : OpenClaim := { program := "ytoaabebgmdbjeaagreatdoor", sum := "224bafed8b4a2941bf8203dfd84288f4bee9c772f4dd7fb8c39f2679e40a2c8a", func := "linguist/linguistlaw14.SourceBytes", spec := "sourceBytes", unfollowed := true, recurses := true, named := ["linguist/parse.moves", "linguist/parse.runs", "linguist/charset.signs", "linguist/cell.spans", "math/bits.deBruijn64tab", "linguist/pen.flags"], apart := false, laid := [("linguist/cell.spans", laid_linguist_cell_spans), ("linguist/charset.signs", laid_linguist_charset_signs), ("linguist/pen.flags", laid_linguist_pen_flags), ("math/bits.deBruijn64tab", laid_math_bits_deBruijn64tab), ("linguist/parse.runs", laid_linguist_parse_runs), ("linguist/parse.moves", laid_linguist_parse_moves)], narrowed := true }
def SourceBytesUptoSaid : Prop := sourceBytesUptoRow.holds Tryz.pinned (OpenSpec.upto sourceBytesSpec)

/-- 'linguistlaw14.SourceText', WHERE WHAT IT READS IS OF BULK AT MOST 1048576: true; the input reads as it did. -/
def sourceTextUptoRow : OpenClaim := { program := "ytoaabebgmdbjeaagreatdoor", sum := "224bafed8b4a2941bf8203dfd84288f4bee9c772f4dd7fb8c39f2679e40a2c8a", func := "linguist/linguistlaw14.SourceText", spec := "sourceText", unfollowed := true, recurses := true, named := ["linguist/charset.signs", "linguist/cell.spans", "linguist/parse.moves", "linguist/parse.runs", "math/bits.deBruijn64tab", "linguist/pen.flags"], apart := false, laid := [("linguist/cell.spans", laid_linguist_cell_spans), ("linguist/charset.signs", laid_linguist_charset_signs), ("linguist/pen.flags", laid_linguist_pen_flags), ("math/bits.deBruijn64tab", laid_math_bits_deBruijn64tab), ("linguist/parse.runs", laid_linguist_parse_runs), ("linguist/parse.moves", laid_linguist_parse_moves)], narrowed := true }
def SourceTextUptoSaid : Prop := sourceTextUptoRow.holds Tryz.pinned (OpenSpec.upto sourceTextSpec)

/-- 'linguistlaw14.SourceTabs', WHERE WHAT IT READS IS OF BULK AT MOST 1048576: true; the input reads as it did. -/
def sourceTabsUptoRow : OpenClaim := { program := "ytoaabebgmdbjeaagreatdoor", sum := "224bafed8b4a2941bf8203dfd84288f4bee9c772f4dd7fb8c39f2679e40a2c8a", func := "linguist/linguistlaw14.SourceTabs", spec := "sourceTabs", unfollowed := true, recurses := true, named := ["linguist/charset.signs", "linguist/cell.spans", "math/bits.deBruijn64tab", "linguist/pen.flags", "linguist/parse.moves", "linguist/parse.runs"], apart := false, laid := [("linguist/cell.spans", laid_linguist_cell_spans), ("linguist/charset.signs", laid_linguist_charset_signs), ("linguist/pen.flags", laid_linguist_pen_flags), ("math/bits.deBruijn64tab", laid_math_bits_deBruijn64tab), ("linguist/parse.runs", laid_linguist_parse_runs), ("linguist/parse.moves", laid_linguist_parse_moves)], narrowed := true }
def SourceTabsUptoSaid : Prop := sourceTabsUptoRow.holds Tryz.pinned (OpenSpec.upto sourceTabsSpec)

/-- 'linguistlaw14.SourceReset', WHERE WHAT IT READS IS OF BULK AT MOST 1048576: true; the input reads as it did. -/
def sourceResetUptoRow : OpenClaim := { program := "ytoaabebgmdbjeaagreatdoor", sum := "224bafed8b4a2941bf8203dfd84288f4bee9c772f4dd7fb8c39f2679e40a2c8a", func := "linguist/linguistlaw14.SourceReset", spec := "sourceReset", unfollowed := true, recurses := true, named := ["linguist/charset.signs", "linguist/cell.spans", "math/bits.deBruijn64tab", "linguist/pen.flags", "linguist/parse.moves", "linguist/parse.runs"], apart := false, laid := [("linguist/cell.spans", laid_linguist_cell_spans), ("linguist/charset.signs", laid_linguist_charset_signs), ("linguist/pen.flags", laid_linguist_pen_flags), ("math/bits.deBruijn64tab", laid_math_bits_deBruijn64tab), ("linguist/parse.runs", laid_linguist_parse_runs), ("linguist/parse.moves", laid_linguist_parse_moves)], narrowed := true }
def SourceResetUptoSaid : Prop := sourceResetUptoRow.holds Tryz.pinned (OpenSpec.upto sourceResetSpec)

/-- 'linguistlaw15.ReplyAll', WHERE WHAT IT READS IS OF BULK AT MOST 1048576: true; the input reads as it did. -/
def replyAllUptoRow : OpenClaim := { program := "ytoaabebgmdbjeaagreatdoor", sum := "224bafed8b4a2941bf8203dfd84288f4bee9c772f4dd7fb8c39f2679e40a2c8a", func := "linguist/linguistlaw15.ReplyAll", spec := "replyAll", unfollowed := true, recurses := true, named := ["linguist/modes.known", "internal/strconv.uint64pow10", "math/bits.deBruijn32tab", "math/bits.deBruijn64tab", "linguist/charset.signs", "linguist/cell.spans", "linguist/pen.flags"], apart := false, laid := [("linguist/cell.spans", laid_linguist_cell_spans), ("linguist/charset.signs", laid_linguist_charset_signs), ("linguist/pen.flags", laid_linguist_pen_flags), ("math/bits.deBruijn32tab", laid_math_bits_deBruijn32tab), ("math/bits.deBruijn64tab", laid_math_bits_deBruijn64tab), ("internal/strconv.uint64pow10", laid_internal_strconv_uint64pow10), ("linguist/modes.known", laid_linguist_modes_known)], narrowed := true }
def ReplyAllUptoSaid : Prop := replyAllUptoRow.holds Tryz.pinned (OpenSpec.upto replyAllSpec)

/-- 'linguistlaw15.ReplyPlaces', WHERE WHAT IT READS IS OF BULK AT MOST 1048576: true; the input reads as it did. -/
def replyPlacesUptoRow : OpenClaim := { program := "ytoaabebgmdbjeaagreatdoor", sum := "224bafed8b4a2941bf8203dfd84288f4bee9c772f4dd7fb8c39f2679e40a2c8a", func := "linguist/linguistlaw15.ReplyPlaces", spec := "replyPlaces", unfollowed := true, recurses := true, named := ["linguist/modes.known", "internal/strconv.uint64pow10", "math/bits.deBruijn32tab", "math/bits.deBruijn64tab", "linguist/charset.signs", "linguist/cell.spans", "linguist/pen.flags"], apart := false, laid := [("linguist/cell.spans", laid_linguist_cell_spans), ("linguist/charset.signs", laid_linguist_charset_signs), ("linguist/pen.flags", laid_linguist_pen_flags), ("math/bits.deBruijn32tab", laid_math_bits_deBruijn32tab), ("math/bits.deBruijn64tab", laid_math_bits_deBruijn64tab), ("internal/strconv.uint64pow10", laid_internal_strconv_uint64pow10), ("linguist/modes.known", laid_linguist_modes_known)], narrowed := true }
def ReplyPlacesUptoSaid : Prop := replyPlacesUptoRow.holds Tryz.pinned (OpenSpec.upto replyPlacesSpec)

end Rows
end Go.Proofs.YtoaabebgmdbjeaaGreatDoor
