/-
  NARROWER THAN 'FOR EVERY INPUT', by the rows' own cells (each row's printed sentence says how): ColorRuns: laid · ColorTells: laid · ColorNear: laid · ColorMade: laid · ColorFar: laid · ColorGrades: laid.
  DERIVED. THE GIVEN ROWS OF THIS SEAT. 6 by the template 'for every input the law returns true; each argument reads behind the call as it read before'; 0 by the template 'total and deterministic' (their statements: YtgkjknjcklnngaaDoorTotals.lean).
  GIVEN WITH THE SEED: the statements are not yours to turn. If you find one false, say at which input.
  Laid BY PROGRAM, IN A SANDBOX (cutbox-rows.mjs): the forced cells as the released guide's own fill.sh prints them over the translation 35557dc75bfac5d7… (all of the seat's roots in one cut). By AI agents, Wed Nov 11 2026. No macro, syntax, notation, axiom, sorry.
-/
import Derived.Test.YtgkjknjcklnngaaDoorChecked
import GoSem.Claim
import GoSem.ClaimJoined
import GoSem.ClaimMapViews
import Derived.JoinedTies
import Derived.KernelRfl
namespace Go.Proofs.YtgkjknjcklnngaaDoor
/- THE CELL 'sum', in the pinned program and in every row, IS THE sha256 OF THE DUMP (.gsa) THAT YtgkjknjcklnngaaDoorProg.lean LOADS. Nothing in Lean hashes anything: it is a label: what it is worth is what the hold of that sum in a sandbox is worth. -/
noncomputable def Tryd.pinned : Pinned := { name := "ytgkjknjcklnngaadoor", sum := "35557dc75bfac5d725f23973b2103f8dd8634fa1621ed862053cc0ad480e3503", checked := Tryd.checked }
namespace Rows
def none {H : Type} : Left H := { results := [], args := [] }

/- WHAT THE LISTED PACKAGE-LEVEL VARIABLES READ AS WHEN THE CALL BEGINS. Each datum BY PROGRAM (the guide's laid-datum.mjs) off the statement by which the dump's own 'gosem.cut.vars' lays the variable. In a bare row this is a premise. The card (YtgkjknjcklnngaaDoorCards.lean) ties it to the program's text. -/
def laid_linguist_color_basic {H : Type} : DataW H := .agg [.lit (.int .i64 0), .lit (.int .i64 13434880), .lit (.int .i64 52480), .lit (.int .i64 13487360), .lit (.int .i64 238), .lit (.int .i64 13435085), .lit (.int .i64 52685), .lit (.int .i64 15066597), .lit (.int .i64 8355711), .lit (.int .i64 16711680), .lit (.int .i64 65280), .lit (.int .i64 16776960), .lit (.int .i64 6053119), .lit (.int .i64 16711935), .lit (.int .i64 65535), .lit (.int .i64 16777215)]
def laid_linguist_color_steps {H : Type} : DataW H := .agg [.lit (.int .i64 0), .lit (.int .i64 95), .lit (.int .i64 135), .lit (.int .i64 175), .lit (.int .i64 215), .lit (.int .i64 255)]

/-- 'linguistlaw3.ColorRuns': WHATEVER THE INPUT: true; the input reads as it did. -/
def colorRunsSpec : ChangeSpec := { name := "colorRuns", fn := fun _ => fun
  | [] => { results := [.lit (.bool true)], args := [] }
  | _ => none }
def colorRunsRow : OpenClaim := { program := "ytgkjknjcklnngaadoor", sum := "35557dc75bfac5d725f23973b2103f8dd8634fa1621ed862053cc0ad480e3503", func := "linguist/linguistlaw3.ColorRuns", spec := "colorRuns", named := ["linguist/color.basic", "linguist/color.steps"], apart := false, laid := [("linguist/color.basic", laid_linguist_color_basic), ("linguist/color.steps", laid_linguist_color_steps)] }
def ColorRunsSaid : Prop := colorRunsRow.holds Tryd.pinned (OpenSpec.ofChange colorRunsSpec)

/-- ITS FALSE NEIGHBOUR: 'it returns false'. Refute it at one input. -/
def colorRunsWrong : ChangeSpec := { name := "colorRuns", fn := fun _ => fun
  | [] => { results := [.lit (.bool false)], args := [] }
  | _ => none }
def ColorRunsWrongFalsely : Prop := colorRunsRow.holds Tryd.pinned (OpenSpec.ofChange colorRunsWrong)

/-- 'linguistlaw3.ColorTells': WHATEVER THE INPUT: true; the input reads as it did. -/
def colorTellsSpec : ChangeSpec := { name := "colorTells", fn := fun _ => fun
  | [d1, d2] => { results := [.lit (.bool true)], args := [d1, d2] }
  | _ => none }
def colorTellsRow : OpenClaim := { program := "ytgkjknjcklnngaadoor", sum := "35557dc75bfac5d725f23973b2103f8dd8634fa1621ed862053cc0ad480e3503", func := "linguist/linguistlaw3.ColorTells", spec := "colorTells", named := ["linguist/color.basic", "linguist/color.steps"], apart := false, laid := [("linguist/color.basic", laid_linguist_color_basic), ("linguist/color.steps", laid_linguist_color_steps)] }
def ColorTellsSaid : Prop := colorTellsRow.holds Tryd.pinned (OpenSpec.ofChange colorTellsSpec)

/-- ITS FALSE NEIGHBOUR: 'it returns false'. Refute it at one input. -/
def colorTellsWrong : ChangeSpec := { name := "colorTells", fn := fun _ => fun
  | [d1, d2] => { results := [.lit (.bool false)], args := [d1, d2] }
  | _ => none }
def ColorTellsWrongFalsely : Prop := colorTellsRow.holds Tryd.pinned (OpenSpec.ofChange colorTellsWrong)

/-- 'linguistlaw3.ColorNear': WHATEVER THE INPUT: true; the input reads as it did. -/
def colorNearSpec : ChangeSpec := { name := "colorNear", fn := fun _ => fun
  | [d1, d2] => { results := [.lit (.bool true)], args := [d1, d2] }
  | _ => none }
def colorNearRow : OpenClaim := { program := "ytgkjknjcklnngaadoor", sum := "35557dc75bfac5d725f23973b2103f8dd8634fa1621ed862053cc0ad480e3503", func := "linguist/linguistlaw3.ColorNear", spec := "colorNear", named := ["linguist/color.basic", "linguist/color.steps"], apart := false, laid := [("linguist/color.basic", laid_linguist_color_basic), ("linguist/color.steps", laid_linguist_color_steps)] }
def ColorNearSaid : Prop := colorNearRow.holds Tryd.pinned (OpenSpec.ofChange colorNearSpec)

/-- ITS FALSE NEIGHBOUR: 'it returns false'. Refute it at one input. -/
def colorNearWrong : ChangeSpec := { name := "colorNear", fn := fun _ => fun
  | [d1, d2] => { results := [.lit (.bool false)], args := [d1, d2] }
  | _ => none }
def ColorNearWrongFalsely : Prop := colorNearRow.holds Tryd.pinned (OpenSpec.ofChange colorNearWrong)

/-- 'linguistlaw3.ColorMade': WHATEVER THE INPUT: true; the input reads as it did. -/
def colorMadeSpec : ChangeSpec := { name := "colorMade", fn := fun _ => fun
  | [d1, d2, d3, d4] => { results := [.lit (.bool true)], args := [d1, d2, d3, d4] }
  | _ => none }
def colorMadeRow : OpenClaim := { program := "ytgkjknjcklnngaadoor", sum := "35557dc75bfac5d725f23973b2103f8dd8634fa1621ed862053cc0ad480e3503", func := "linguist/linguistlaw3.ColorMade", spec := "colorMade", named := ["linguist/color.basic", "linguist/color.steps"], apart := false, laid := [("linguist/color.basic", laid_linguist_color_basic), ("linguist/color.steps", laid_linguist_color_steps)] }
def ColorMadeSaid : Prop := colorMadeRow.holds Tryd.pinned (OpenSpec.ofChange colorMadeSpec)

/-- ITS FALSE NEIGHBOUR: 'it returns false'. Refute it at one input. -/
def colorMadeWrong : ChangeSpec := { name := "colorMade", fn := fun _ => fun
  | [d1, d2, d3, d4] => { results := [.lit (.bool false)], args := [d1, d2, d3, d4] }
  | _ => none }
def ColorMadeWrongFalsely : Prop := colorMadeRow.holds Tryd.pinned (OpenSpec.ofChange colorMadeWrong)

/-- 'linguistlaw3.ColorFar': WHATEVER THE INPUT: true; the input reads as it did. -/
def colorFarSpec : ChangeSpec := { name := "colorFar", fn := fun _ => fun
  | [d1, d2, d3] => { results := [.lit (.bool true)], args := [d1, d2, d3] }
  | _ => none }
def colorFarRow : OpenClaim := { program := "ytgkjknjcklnngaadoor", sum := "35557dc75bfac5d725f23973b2103f8dd8634fa1621ed862053cc0ad480e3503", func := "linguist/linguistlaw3.ColorFar", spec := "colorFar", named := ["linguist/color.basic", "linguist/color.steps"], apart := false, laid := [("linguist/color.basic", laid_linguist_color_basic), ("linguist/color.steps", laid_linguist_color_steps)] }
def ColorFarSaid : Prop := colorFarRow.holds Tryd.pinned (OpenSpec.ofChange colorFarSpec)

/-- ITS FALSE NEIGHBOUR: 'it returns false'. Refute it at one input. -/
def colorFarWrong : ChangeSpec := { name := "colorFar", fn := fun _ => fun
  | [d1, d2, d3] => { results := [.lit (.bool false)], args := [d1, d2, d3] }
  | _ => none }
def ColorFarWrongFalsely : Prop := colorFarRow.holds Tryd.pinned (OpenSpec.ofChange colorFarWrong)

/-- 'linguistlaw3.ColorGrades': WHATEVER THE INPUT: true; the input reads as it did. -/
def colorGradesSpec : ChangeSpec := { name := "colorGrades", fn := fun _ => fun
  | [d1, d2, d3] => { results := [.lit (.bool true)], args := [d1, d2, d3] }
  | _ => none }
def colorGradesRow : OpenClaim := { program := "ytgkjknjcklnngaadoor", sum := "35557dc75bfac5d725f23973b2103f8dd8634fa1621ed862053cc0ad480e3503", func := "linguist/linguistlaw3.ColorGrades", spec := "colorGrades", named := ["linguist/color.basic", "linguist/color.steps"], apart := false, laid := [("linguist/color.basic", laid_linguist_color_basic), ("linguist/color.steps", laid_linguist_color_steps)] }
def ColorGradesSaid : Prop := colorGradesRow.holds Tryd.pinned (OpenSpec.ofChange colorGradesSpec)

/-- ITS FALSE NEIGHBOUR: 'it returns false'. Refute it at one input. -/
def colorGradesWrong : ChangeSpec := { name := "colorGrades", fn := fun _ => fun
  | [d1, d2, d3] => { results := [.lit (.bool false)], args := [d1, d2, d3] }
  | _ => none }
def ColorGradesWrongFalsely : Prop := colorGradesRow.holds Tryd.pinned (OpenSpec.ofChange colorGradesWrong)

/- THE SECOND FORM. 'bulk': how many values and letters a reading holds, each counted each time it is reached (what is shared counts as often as it is met; a slice's spare places count too). A statement '..UptoSaid' is the law's where the arguments, and the package variables that the reading takes, are together of bulk at most 1048576: NARROWER than '..Said'. Prove '..Said' where nothing that the law and all that it calls make is longer than what came in: it says more and counts as full. Else prove '..UptoSaid'. A law counts once. -/
mutual
def uptoBulk {H : Type} : DataW H → Nat
  | .lit (.string bytes) => bytes.length + 1
  | .lit _ => 1
  | .nil => 1
  | .ptr d => uptoBulk d + 1
  | .slice elems spare => uptoBulkAll elems + uptoBulkAll spare + 1
  | .agg parts => uptoBulkAll parts + 1
  | .iface _ d => uptoBulk d + 1
  | .map entries => uptoBulkEntries entries + 1
  | .held _ => 1
def uptoBulkAll {H : Type} : List (DataW H) → Nat
  | [] => 0
  | d :: r => uptoBulk d + uptoBulkAll r
def uptoBulkEntries {H : Type} : List (Lit × DataW H) → Nat
  | [] => 0
  | x :: r => uptoBulkEntry x + uptoBulkEntries r
def uptoBulkEntry {H : Type} : Lit × DataW H → Nat
  | (.string bytes, d) => bytes.length + uptoBulk d + 1
  | (_, d) => uptoBulk d + 1
 end
def uptoSmall : (H : Type) → List (DataW H) → Bool := fun _ ds => decide (uptoBulkAll ds ≤ 1048576)
def OpenSpec.upto (s : _root_.Go.ChangeSpec) : _root_.Go.OpenSpec := { _root_.Go.OpenSpec.ofChange s with cond := some uptoSmall }

/-- 'linguistlaw3.ColorRuns', WHERE WHAT IT READS IS OF BULK AT MOST 1048576: true; the input reads as it did. -/
def colorRunsUptoRow : OpenClaim := { program := "ytgkjknjcklnngaadoor", sum := "35557dc75bfac5d725f23973b2103f8dd8634fa1621ed862053cc0ad480e3503", func := "linguist/linguistlaw3.ColorRuns", spec := "colorRuns", named := ["linguist/color.basic", "linguist/color.steps"], apart := false, laid := [("linguist/color.basic", laid_linguist_color_basic), ("linguist/color.steps", laid_linguist_color_steps)], narrowed := true }
def ColorRunsUptoSaid : Prop := colorRunsUptoRow.holds Tryd.pinned (OpenSpec.upto colorRunsSpec)

/-- 'linguistlaw3.ColorTells', WHERE WHAT IT READS IS OF BULK AT MOST 1048576: true; the input reads as it did. -/
def colorTellsUptoRow : OpenClaim := { program := "ytgkjknjcklnngaadoor", sum := "35557dc75bfac5d725f23973b2103f8dd8634fa1621ed862053cc0ad480e3503", func := "linguist/linguistlaw3.ColorTells", spec := "colorTells", named := ["linguist/color.basic", "linguist/color.steps"], apart := false, laid := [("linguist/color.basic", laid_linguist_color_basic), ("linguist/color.steps", laid_linguist_color_steps)], narrowed := true }
def ColorTellsUptoSaid : Prop := colorTellsUptoRow.holds Tryd.pinned (OpenSpec.upto colorTellsSpec)

/-- 'linguistlaw3.ColorNear', WHERE WHAT IT READS IS OF BULK AT MOST 1048576: true; the input reads as it did. -/
def colorNearUptoRow : OpenClaim := { program := "ytgkjknjcklnngaadoor", sum := "35557dc75bfac5d725f23973b2103f8dd8634fa1621ed862053cc0ad480e3503", func := "linguist/linguistlaw3.ColorNear", spec := "colorNear", named := ["linguist/color.basic", "linguist/color.steps"], apart := false, laid := [("linguist/color.basic", laid_linguist_color_basic), ("linguist/color.steps", laid_linguist_color_steps)], narrowed := true }
def ColorNearUptoSaid : Prop := colorNearUptoRow.holds Tryd.pinned (OpenSpec.upto colorNearSpec)

/-- 'linguistlaw3.ColorMade', WHERE WHAT IT READS IS OF BULK AT MOST 1048576: true; the input reads as it did. -/
def colorMadeUptoRow : OpenClaim := { program := "ytgkjknjcklnngaadoor", sum := "35557dc75bfac5d725f23973b2103f8dd8634fa1621ed862053cc0ad480e3503", func := "linguist/linguistlaw3.ColorMade", spec := "colorMade", named := ["linguist/color.basic", "linguist/color.steps"], apart := false, laid := [("linguist/color.basic", laid_linguist_color_basic), ("linguist/color.steps", laid_linguist_color_steps)], narrowed := true }
def ColorMadeUptoSaid : Prop := colorMadeUptoRow.holds Tryd.pinned (OpenSpec.upto colorMadeSpec)

/-- 'linguistlaw3.ColorFar', WHERE WHAT IT READS IS OF BULK AT MOST 1048576: true; the input reads as it did. -/
def colorFarUptoRow : OpenClaim := { program := "ytgkjknjcklnngaadoor", sum := "35557dc75bfac5d725f23973b2103f8dd8634fa1621ed862053cc0ad480e3503", func := "linguist/linguistlaw3.ColorFar", spec := "colorFar", named := ["linguist/color.basic", "linguist/color.steps"], apart := false, laid := [("linguist/color.basic", laid_linguist_color_basic), ("linguist/color.steps", laid_linguist_color_steps)], narrowed := true }
def ColorFarUptoSaid : Prop := colorFarUptoRow.holds Tryd.pinned (OpenSpec.upto colorFarSpec)

/-- 'linguistlaw3.ColorGrades', WHERE WHAT IT READS IS OF BULK AT MOST 1048576: true; the input reads as it did. -/
def colorGradesUptoRow : OpenClaim := { program := "ytgkjknjcklnngaadoor", sum := "35557dc75bfac5d725f23973b2103f8dd8634fa1621ed862053cc0ad480e3503", func := "linguist/linguistlaw3.ColorGrades", spec := "colorGrades", named := ["linguist/color.basic", "linguist/color.steps"], apart := false, laid := [("linguist/color.basic", laid_linguist_color_basic), ("linguist/color.steps", laid_linguist_color_steps)], narrowed := true }
def ColorGradesUptoSaid : Prop := colorGradesUptoRow.holds Tryd.pinned (OpenSpec.upto colorGradesSpec)

end Rows
end Go.Proofs.YtgkjknjcklnngaaDoor
