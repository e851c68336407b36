/-
  DERIVED. GIVEN WITH THE SEED: THE CARDS: each row of YtgkjknjcklnngaaDoorRows.lean that lists a variable, with what it lists TIED to the program's text (the seventh form; the later family's looks); each row that meets fmt, with fmt's text TOLD by the authors' own Lean function (tested against real Go, not proved from fmt's source: count such statements apart). THE CARD IS WHAT COUNTS. Prove the row's statement (the work); the ties are given (YtgkjknjcklnngaaDoorTie.lean); close each card by the builder's one call (the guide's Derived/Test/ToyasCard.lean, 'card_holds'). Laid BY PROGRAM, IN A SANDBOX (cutbox-door.mjs). By AI agents, Wed Nov 11 2026. No macro, syntax, notation, axiom, sorry.
-/
import Derived.Test.YtgkjknjcklnngaaDoorRows
import GoSem.ClaimSeven
namespace Go.Proofs.YtgkjknjcklnngaaDoor
namespace Rows

/-- THE TIED CARD OF 'linguistlaw3.ColorRuns'. -/
def colorRunsCard : Claim7 := { stood := { row := colorRunsRow, standIns := [], harness := (true, "b9c219a26a418660175b8a7bb0ace8dc6d95faa68ce639c70d6251fe7bc0532f"), looks := false }, kinds := [], alts := [], laidByText := true, laidKinds := [.data, .data], laidTests := true, laidLooks := .later }
def ColorRunsCardSaid : Prop := Claim7.holds Tryd.pinned (.plain (OpenSpec.ofChange colorRunsSpec)) colorRunsCard

/-- THE TIED CARD OF 'linguistlaw3.ColorTells'. -/
def colorTellsCard : Claim7 := { stood := { row := colorTellsRow, standIns := [], harness := (true, "b9c219a26a418660175b8a7bb0ace8dc6d95faa68ce639c70d6251fe7bc0532f"), looks := false }, kinds := [], alts := [], laidByText := true, laidKinds := [.data, .data], laidTests := true, laidLooks := .later }
def ColorTellsCardSaid : Prop := Claim7.holds Tryd.pinned (.plain (OpenSpec.ofChange colorTellsSpec)) colorTellsCard

/-- THE TIED CARD OF 'linguistlaw3.ColorNear'. -/
def colorNearCard : Claim7 := { stood := { row := colorNearRow, standIns := [], harness := (true, "b9c219a26a418660175b8a7bb0ace8dc6d95faa68ce639c70d6251fe7bc0532f"), looks := false }, kinds := [], alts := [], laidByText := true, laidKinds := [.data, .data], laidTests := true, laidLooks := .later }
def ColorNearCardSaid : Prop := Claim7.holds Tryd.pinned (.plain (OpenSpec.ofChange colorNearSpec)) colorNearCard

/-- THE TIED CARD OF 'linguistlaw3.ColorMade'. -/
def colorMadeCard : Claim7 := { stood := { row := colorMadeRow, standIns := [], harness := (true, "b9c219a26a418660175b8a7bb0ace8dc6d95faa68ce639c70d6251fe7bc0532f"), looks := false }, kinds := [], alts := [], laidByText := true, laidKinds := [.data, .data], laidTests := true, laidLooks := .later }
def ColorMadeCardSaid : Prop := Claim7.holds Tryd.pinned (.plain (OpenSpec.ofChange colorMadeSpec)) colorMadeCard

/-- THE TIED CARD OF 'linguistlaw3.ColorFar'. -/
def colorFarCard : Claim7 := { stood := { row := colorFarRow, standIns := [], harness := (true, "b9c219a26a418660175b8a7bb0ace8dc6d95faa68ce639c70d6251fe7bc0532f"), looks := false }, kinds := [], alts := [], laidByText := true, laidKinds := [.data, .data], laidTests := true, laidLooks := .later }
def ColorFarCardSaid : Prop := Claim7.holds Tryd.pinned (.plain (OpenSpec.ofChange colorFarSpec)) colorFarCard

/-- THE TIED CARD OF 'linguistlaw3.ColorGrades'. -/
def colorGradesCard : Claim7 := { stood := { row := colorGradesRow, standIns := [], harness := (true, "b9c219a26a418660175b8a7bb0ace8dc6d95faa68ce639c70d6251fe7bc0532f"), looks := false }, kinds := [], alts := [], laidByText := true, laidKinds := [.data, .data], laidTests := true, laidLooks := .later }
def ColorGradesCardSaid : Prop := Claim7.holds Tryd.pinned (.plain (OpenSpec.ofChange colorGradesSpec)) colorGradesCard

/-- THE SECOND FORM's CARD OF 'linguistlaw3.ColorRuns'. -/
def colorRunsUptoCard : Claim7 := { stood := { row := colorRunsUptoRow, standIns := [], harness := (true, "b9c219a26a418660175b8a7bb0ace8dc6d95faa68ce639c70d6251fe7bc0532f"), looks := false }, kinds := [], alts := [], laidByText := true, laidKinds := [.data, .data], laidTests := true, laidLooks := .later }
def ColorRunsUptoCardSaid : Prop := Claim7.holds Tryd.pinned (.plain (OpenSpec.upto colorRunsSpec)) colorRunsUptoCard

/-- THE SECOND FORM's CARD OF 'linguistlaw3.ColorTells'. -/
def colorTellsUptoCard : Claim7 := { stood := { row := colorTellsUptoRow, standIns := [], harness := (true, "b9c219a26a418660175b8a7bb0ace8dc6d95faa68ce639c70d6251fe7bc0532f"), looks := false }, kinds := [], alts := [], laidByText := true, laidKinds := [.data, .data], laidTests := true, laidLooks := .later }
def ColorTellsUptoCardSaid : Prop := Claim7.holds Tryd.pinned (.plain (OpenSpec.upto colorTellsSpec)) colorTellsUptoCard

/-- THE SECOND FORM's CARD OF 'linguistlaw3.ColorNear'. -/
def colorNearUptoCard : Claim7 := { stood := { row := colorNearUptoRow, standIns := [], harness := (true, "b9c219a26a418660175b8a7bb0ace8dc6d95faa68ce639c70d6251fe7bc0532f"), looks := false }, kinds := [], alts := [], laidByText := true, laidKinds := [.data, .data], laidTests := true, laidLooks := .later }
def ColorNearUptoCardSaid : Prop := Claim7.holds Tryd.pinned (.plain (OpenSpec.upto colorNearSpec)) colorNearUptoCard

/-- THE SECOND FORM's CARD OF 'linguistlaw3.ColorMade'. -/
def colorMadeUptoCard : Claim7 := { stood := { row := colorMadeUptoRow, standIns := [], harness := (true, "b9c219a26a418660175b8a7bb0ace8dc6d95faa68ce639c70d6251fe7bc0532f"), looks := false }, kinds := [], alts := [], laidByText := true, laidKinds := [.data, .data], laidTests := true, laidLooks := .later }
def ColorMadeUptoCardSaid : Prop := Claim7.holds Tryd.pinned (.plain (OpenSpec.upto colorMadeSpec)) colorMadeUptoCard

/-- THE SECOND FORM's CARD OF 'linguistlaw3.ColorFar'. -/
def colorFarUptoCard : Claim7 := { stood := { row := colorFarUptoRow, standIns := [], harness := (true, "b9c219a26a418660175b8a7bb0ace8dc6d95faa68ce639c70d6251fe7bc0532f"), looks := false }, kinds := [], alts := [], laidByText := true, laidKinds := [.data, .data], laidTests := true, laidLooks := .later }
def ColorFarUptoCardSaid : Prop := Claim7.holds Tryd.pinned (.plain (OpenSpec.upto colorFarSpec)) colorFarUptoCard

/-- THE SECOND FORM's CARD OF 'linguistlaw3.ColorGrades'. -/
def colorGradesUptoCard : Claim7 := { stood := { row := colorGradesUptoRow, standIns := [], harness := (true, "b9c219a26a418660175b8a7bb0ace8dc6d95faa68ce639c70d6251fe7bc0532f"), looks := false }, kinds := [], alts := [], laidByText := true, laidKinds := [.data, .data], laidTests := true, laidLooks := .later }
def ColorGradesUptoCardSaid : Prop := Claim7.holds Tryd.pinned (.plain (OpenSpec.upto colorGradesSpec)) colorGradesUptoCard
end Rows
end Go.Proofs.YtgkjknjcklnngaaDoor
