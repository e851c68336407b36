/-
  NARROWER THAN 'FOR EVERY INPUT', by the rows' own cells (each row's printed sentence says how): CharsetRuns: laid · CharsetTells: laid · CharsetBack: laid · CharsetTexts: laid.
  DERIVED. THE GIVEN ROWS OF THIS SEAT. 4 by the template 'for every input the law returns true; each argument reads behind the call as it read before'; 0 by the template 'total and deterministic' (their statements: YtfadadpbomhbnaaDoorTotals.lean).
  GIVEN WITH THE SEED: the statements are not yours to turn. If you find one false, say at which input.
  Laid BY PROGRAM, IN A SANDBOX (cutbox-rows.mjs): the forced cells as the released guide's own fill.sh prints them over the translation a0fd8bfac41ad325… (all of the seat's roots in one cut). By AI agents, Wed Nov 11 2026. No macro, syntax, notation, axiom, sorry.
-/
import Derived.Test.YtfadadpbomhbnaaDoorChecked
import GoSem.Claim
import GoSem.ClaimJoined
import GoSem.ClaimMapViews
import Derived.JoinedTies
import Derived.KernelRfl
namespace Go.Proofs.YtfadadpbomhbnaaDoor
/- THE CELL 'sum', in the pinned program and in every row, IS THE sha256 OF THE DUMP (.gsa) THAT YtfadadpbomhbnaaDoorProg.lean LOADS. Nothing in Lean hashes anything: it is a label: what it is worth is what the hold of that sum in a sandbox is worth. -/
noncomputable def Tryd.pinned : Pinned := { name := "ytfadadpbomhbnaadoor", sum := "a0fd8bfac41ad3259b0db00f5b26cf335c423846bb090c91fbfcf2bdf2dadb8c", checked := Tryd.checked }
namespace Rows
def none {H : Type} : Left H := { results := [], args := [] }

/- WHAT THE LISTED PACKAGE-LEVEL VARIABLES READ AS WHEN THE CALL BEGINS. Each datum BY PROGRAM (the guide's laid-datum.mjs) off the statement by which the dump's own 'gosem.cut.vars' lays the variable. In a bare row this is a premise. The card (YtfadadpbomhbnaaDoorCards.lean) ties it to the program's text. -/
def laid_linguist_charset_signs {H : Type} : DataW H := .agg [.agg [.lit (.int .i32 9670), .lit (.int .u8 42)], .agg [.lit (.int .i32 9618), .lit (.int .u8 35)], .agg [.lit (.int .i32 9225), .lit (.int .u8 72)], .agg [.lit (.int .i32 9228), .lit (.int .u8 70)], .agg [.lit (.int .i32 9229), .lit (.int .u8 67)], .agg [.lit (.int .i32 9226), .lit (.int .u8 76)], .agg [.lit (.int .i32 176), .lit (.int .u8 111)], .agg [.lit (.int .i32 177), .lit (.int .u8 43)], .agg [.lit (.int .i32 9252), .lit (.int .u8 78)], .agg [.lit (.int .i32 9227), .lit (.int .u8 86)], .agg [.lit (.int .i32 9496), .lit (.int .u8 43)], .agg [.lit (.int .i32 9488), .lit (.int .u8 43)], .agg [.lit (.int .i32 9484), .lit (.int .u8 43)], .agg [.lit (.int .i32 9492), .lit (.int .u8 43)], .agg [.lit (.int .i32 9532), .lit (.int .u8 43)], .agg [.lit (.int .i32 9146), .lit (.int .u8 45)], .agg [.lit (.int .i32 9147), .lit (.int .u8 45)], .agg [.lit (.int .i32 9472), .lit (.int .u8 45)], .agg [.lit (.int .i32 9148), .lit (.int .u8 45)], .agg [.lit (.int .i32 9149), .lit (.int .u8 95)], .agg [.lit (.int .i32 9500), .lit (.int .u8 43)], .agg [.lit (.int .i32 9508), .lit (.int .u8 43)], .agg [.lit (.int .i32 9524), .lit (.int .u8 43)], .agg [.lit (.int .i32 9516), .lit (.int .u8 43)], .agg [.lit (.int .i32 9474), .lit (.int .u8 124)], .agg [.lit (.int .i32 8804), .lit (.int .u8 60)], .agg [.lit (.int .i32 8805), .lit (.int .u8 62)], .agg [.lit (.int .i32 960), .lit (.int .u8 112)], .agg [.lit (.int .i32 8800), .lit (.int .u8 33)], .agg [.lit (.int .i32 163), .lit (.int .u8 76)], .agg [.lit (.int .i32 183), .lit (.int .u8 46)]]

/-- 'linguistlaw4.CharsetRuns': WHATEVER THE INPUT: true; the input reads as it did. -/
def charsetRunsSpec : ChangeSpec := { name := "charsetRuns", fn := fun _ => fun
  | [] => { results := [.lit (.bool true)], args := [] }
  | _ => none }
def charsetRunsRow : OpenClaim := { program := "ytfadadpbomhbnaadoor", sum := "a0fd8bfac41ad3259b0db00f5b26cf335c423846bb090c91fbfcf2bdf2dadb8c", func := "linguist/linguistlaw4.CharsetRuns", spec := "charsetRuns", named := ["linguist/charset.signs"], apart := false, laid := [("linguist/charset.signs", laid_linguist_charset_signs)] }
def CharsetRunsSaid : Prop := charsetRunsRow.holds Tryd.pinned (OpenSpec.ofChange charsetRunsSpec)

/-- ITS FALSE NEIGHBOUR: 'it returns false'. Refute it at one input. -/
def charsetRunsWrong : ChangeSpec := { name := "charsetRuns", fn := fun _ => fun
  | [] => { results := [.lit (.bool false)], args := [] }
  | _ => none }
def CharsetRunsWrongFalsely : Prop := charsetRunsRow.holds Tryd.pinned (OpenSpec.ofChange charsetRunsWrong)

/-- 'linguistlaw4.CharsetTells': WHATEVER THE INPUT: true; the input reads as it did. -/
def charsetTellsSpec : ChangeSpec := { name := "charsetTells", fn := fun _ => fun
  | [d1, d2, d3, d4] => { results := [.lit (.bool true)], args := [d1, d2, d3, d4] }
  | _ => none }
def charsetTellsRow : OpenClaim := { program := "ytfadadpbomhbnaadoor", sum := "a0fd8bfac41ad3259b0db00f5b26cf335c423846bb090c91fbfcf2bdf2dadb8c", func := "linguist/linguistlaw4.CharsetTells", spec := "charsetTells", named := ["linguist/charset.signs"], apart := false, laid := [("linguist/charset.signs", laid_linguist_charset_signs)] }
def CharsetTellsSaid : Prop := charsetTellsRow.holds Tryd.pinned (OpenSpec.ofChange charsetTellsSpec)

/-- ITS FALSE NEIGHBOUR: 'it returns false'. Refute it at one input. -/
def charsetTellsWrong : ChangeSpec := { name := "charsetTells", fn := fun _ => fun
  | [d1, d2, d3, d4] => { results := [.lit (.bool false)], args := [d1, d2, d3, d4] }
  | _ => none }
def CharsetTellsWrongFalsely : Prop := charsetTellsRow.holds Tryd.pinned (OpenSpec.ofChange charsetTellsWrong)

/-- 'linguistlaw4.CharsetBack': WHATEVER THE INPUT: true; the input reads as it did. -/
def charsetBackSpec : ChangeSpec := { name := "charsetBack", fn := fun _ => fun
  | [d] => { results := [.lit (.bool true)], args := [d] }
  | _ => none }
def charsetBackRow : OpenClaim := { program := "ytfadadpbomhbnaadoor", sum := "a0fd8bfac41ad3259b0db00f5b26cf335c423846bb090c91fbfcf2bdf2dadb8c", func := "linguist/linguistlaw4.CharsetBack", spec := "charsetBack", named := ["linguist/charset.signs"], apart := false, laid := [("linguist/charset.signs", laid_linguist_charset_signs)] }
def CharsetBackSaid : Prop := charsetBackRow.holds Tryd.pinned (OpenSpec.ofChange charsetBackSpec)

/-- ITS FALSE NEIGHBOUR: 'it returns false'. Refute it at one input. -/
def charsetBackWrong : ChangeSpec := { name := "charsetBack", fn := fun _ => fun
  | [d] => { results := [.lit (.bool false)], args := [d] }
  | _ => none }
def CharsetBackWrongFalsely : Prop := charsetBackRow.holds Tryd.pinned (OpenSpec.ofChange charsetBackWrong)

/-- 'linguistlaw4.CharsetTexts': WHATEVER THE INPUT: true; the input reads as it did. -/
def charsetTextsSpec : ChangeSpec := { name := "charsetTexts", fn := fun _ => fun
  | [d] => { results := [.lit (.bool true)], args := [d] }
  | _ => none }
def charsetTextsRow : OpenClaim := { program := "ytfadadpbomhbnaadoor", sum := "a0fd8bfac41ad3259b0db00f5b26cf335c423846bb090c91fbfcf2bdf2dadb8c", func := "linguist/linguistlaw4.CharsetTexts", spec := "charsetTexts", named := ["linguist/charset.signs"], apart := false, laid := [("linguist/charset.signs", laid_linguist_charset_signs)] }
def CharsetTextsSaid : Prop := charsetTextsRow.holds Tryd.pinned (OpenSpec.ofChange charsetTextsSpec)

/-- ITS FALSE NEIGHBOUR: 'it returns false'. Refute it at one input. -/
def charsetTextsWrong : ChangeSpec := { name := "charsetTexts", fn := fun _ => fun
  | [d] => { results := [.lit (.bool false)], args := [d] }
  | _ => none }
def CharsetTextsWrongFalsely : Prop := charsetTextsRow.holds Tryd.pinned (OpenSpec.ofChange charsetTextsWrong)

/- THE SECOND FORM. 'bulk': how many values and letters a reading holds, each counted each time it is reached (what is shared counts as often as it is met; a slice's spare places count too). A statement '..UptoSaid' is the law's where the arguments, and the package variables that the reading takes, are together of bulk at most 1048576: NARROWER than '..Said'. Prove '..Said' where nothing that the law and all that it calls make is longer than what came in: it says more and counts as full. Else prove '..UptoSaid'. A law counts once. -/
mutual
def uptoBulk {H : Type} : DataW H → Nat
  | .lit (.string bytes) => bytes.length + 1
  | .lit _ => 1
  | .nil => 1
  | .ptr d => uptoBulk d + 1
  | .slice elems spare => uptoBulkAll elems + uptoBulkAll spare + 1
  | .agg parts => uptoBulkAll parts + 1
  | .iface _ d => uptoBulk d + 1
  | .map entries => uptoBulkEntries entries + 1
  | .held _ => 1
def uptoBulkAll {H : Type} : List (DataW H) → Nat
  | [] => 0
  | d :: r => uptoBulk d + uptoBulkAll r
def uptoBulkEntries {H : Type} : List (Lit × DataW H) → Nat
  | [] => 0
  | x :: r => uptoBulkEntry x + uptoBulkEntries r
def uptoBulkEntry {H : Type} : Lit × DataW H → Nat
  | (.string bytes, d) => bytes.length + uptoBulk d + 1
  | (_, d) => uptoBulk d + 1
 end
def uptoSmall : (H : Type) → List (DataW H) → Bool := fun _ ds => decide (uptoBulkAll ds ≤ 1048576)
def OpenSpec.upto (s : _root_.Go.ChangeSpec) : _root_.Go.OpenSpec := { _root_.Go.OpenSpec.ofChange s with cond := some uptoSmall }

/-- 'linguistlaw4.CharsetRuns', WHERE WHAT IT READS IS OF BULK AT MOST 1048576: true; the input reads as it did. -/
def charsetRunsUptoRow : OpenClaim := { program := "ytfadadpbomhbnaadoor", sum := "a0fd8bfac41ad3259b0db00f5b26cf335c423846bb090c91fbfcf2bdf2dadb8c", func := "linguist/linguistlaw4.CharsetRuns", spec := "charsetRuns", named := ["linguist/charset.signs"], apart := false, laid := [("linguist/charset.signs", laid_linguist_charset_signs)], narrowed := true }
def CharsetRunsUptoSaid : Prop := charsetRunsUptoRow.holds Tryd.pinned (OpenSpec.upto charsetRunsSpec)

/-- 'linguistlaw4.CharsetTells', WHERE WHAT IT READS IS OF BULK AT MOST 1048576: true; the input reads as it did. -/
def charsetTellsUptoRow : OpenClaim := { program := "ytfadadpbomhbnaadoor", sum := "a0fd8bfac41ad3259b0db00f5b26cf335c423846bb090c91fbfcf2bdf2dadb8c", func := "linguist/linguistlaw4.CharsetTells", spec := "charsetTells", named := ["linguist/charset.signs"], apart := false, laid := [("linguist/charset.signs", laid_linguist_charset_signs)], narrowed := true }
def CharsetTellsUptoSaid : Prop := charsetTellsUptoRow.holds Tryd.pinned (OpenSpec.upto charsetTellsSpec)

/-- 'linguistlaw4.CharsetBack', WHERE WHAT IT READS IS OF BULK AT MOST 1048576: true; the input reads as it did. -/
def charsetBackUptoRow : OpenClaim := { program := "ytfadadpbomhbnaadoor", sum := "a0fd8bfac41ad3259b0db00f5b26cf335c423846bb090c91fbfcf2bdf2dadb8c", func := "linguist/linguistlaw4.CharsetBack", spec := "charsetBack", named := ["linguist/charset.signs"], apart := false, laid := [("linguist/charset.signs", laid_linguist_charset_signs)], narrowed := true }
def CharsetBackUptoSaid : Prop := charsetBackUptoRow.holds Tryd.pinned (OpenSpec.upto charsetBackSpec)

/-- 'linguistlaw4.CharsetTexts', WHERE WHAT IT READS IS OF BULK AT MOST 1048576: true; the input reads as it did. -/
def charsetTextsUptoRow : OpenClaim := { program := "ytfadadpbomhbnaadoor", sum := "a0fd8bfac41ad3259b0db00f5b26cf335c423846bb090c91fbfcf2bdf2dadb8c", func := "linguist/linguistlaw4.CharsetTexts", spec := "charsetTexts", named := ["linguist/charset.signs"], apart := false, laid := [("linguist/charset.signs", laid_linguist_charset_signs)], narrowed := true }
def CharsetTextsUptoSaid : Prop := charsetTextsUptoRow.holds Tryd.pinned (OpenSpec.upto charsetTextsSpec)

end Rows
end Go.Proofs.YtfadadpbomhbnaaDoor
