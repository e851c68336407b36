/-
  DERIVED. GIVEN WITH THE SEED: THE CARDS: each row of YtfeapcneebofjaaDoorRows.lean that lists a variable, with what it lists TIED to the program's text (the seventh form; the later family's looks); each row that meets fmt, with fmt's text TOLD by the authors' own Lean function (tested against real Go, not proved from fmt's source: count such statements apart). THE CARD IS WHAT COUNTS. Prove the row's statement (the work); the ties are given (YtfeapcneebofjaaDoorTie.lean); close each card by the builder's one call (the guide's Derived/Test/ToyasCard.lean, 'card_holds'). Laid BY PROGRAM, IN A SANDBOX (cutbox-door.mjs). By AI agents, Wed Nov 11 2026. No macro, syntax, notation, axiom, sorry.
-/
import Derived.Test.YtfeapcneebofjaaDoorRows
import GoSem.ClaimSeven
namespace Go.Proofs.YtfeapcneebofjaaDoor
namespace Rows

/-- THE TIED CARD OF 'linguistlaw7.GridRuns'. -/
def gridRunsCard : Claim7 := { stood := { row := gridRunsRow, standIns := [], harness := (true, "293d1d752d3b0ed4a451a858d80a9dc3696a63f31505d803a735a57d7244f551"), looks := false }, kinds := [], alts := [], laidByText := true, laidKinds := [.data], laidTests := true, laidLooks := .later }
def GridRunsCardSaid : Prop := Claim7.holds Tryd.pinned (.plain (OpenSpec.ofChange gridRunsSpec)) gridRunsCard

/-- THE TIED CARD OF 'linguistlaw7.GridPlays'. -/
def gridPlaysCard : Claim7 := { stood := { row := gridPlaysRow, standIns := [], harness := (true, "293d1d752d3b0ed4a451a858d80a9dc3696a63f31505d803a735a57d7244f551"), looks := false }, kinds := [], alts := [], laidByText := true, laidKinds := [.data], laidTests := true, laidLooks := .later }
def GridPlaysCardSaid : Prop := Claim7.holds Tryd.pinned (.plain (OpenSpec.ofChange gridPlaysSpec)) gridPlaysCard

/-- THE TIED CARD OF 'linguistlaw7.GridLaws'. -/
def gridLawsCard : Claim7 := { stood := { row := gridLawsRow, standIns := [], harness := (true, "293d1d752d3b0ed4a451a858d80a9dc3696a63f31505d803a735a57d7244f551"), looks := false }, kinds := [], alts := [], laidByText := true, laidKinds := [.data], laidTests := true, laidLooks := .later }
def GridLawsCardSaid : Prop := Claim7.holds Tryd.pinned (.plain (OpenSpec.ofChange gridLawsSpec)) gridLawsCard

/-- THE TIED CARD OF 'linguistlaw7.GridTexts'. -/
def gridTextsCard : Claim7 := { stood := { row := gridTextsRow, standIns := [], harness := (true, "293d1d752d3b0ed4a451a858d80a9dc3696a63f31505d803a735a57d7244f551"), looks := false }, kinds := [], alts := [], laidByText := true, laidKinds := [.data], laidTests := true, laidLooks := .later }
def GridTextsCardSaid : Prop := Claim7.holds Tryd.pinned (.plain (OpenSpec.ofChange gridTextsSpec)) gridTextsCard

/-- THE TIED CARD OF 'linguistlaw7.GridWide'. -/
def gridWideCard : Claim7 := { stood := { row := gridWideRow, standIns := [], harness := (true, "293d1d752d3b0ed4a451a858d80a9dc3696a63f31505d803a735a57d7244f551"), looks := false }, kinds := [], alts := [], laidByText := true, laidKinds := [.data], laidTests := true, laidLooks := .later }
def GridWideCardSaid : Prop := Claim7.holds Tryd.pinned (.plain (OpenSpec.ofChange gridWideSpec)) gridWideCard

/-- THE SECOND FORM's CARD OF 'linguistlaw7.GridRuns'. -/
def gridRunsUptoCard : Claim7 := { stood := { row := gridRunsUptoRow, standIns := [], harness := (true, "293d1d752d3b0ed4a451a858d80a9dc3696a63f31505d803a735a57d7244f551"), looks := false }, kinds := [], alts := [], laidByText := true, laidKinds := [.data], laidTests := true, laidLooks := .later }
def GridRunsUptoCardSaid : Prop := Claim7.holds Tryd.pinned (.plain (OpenSpec.upto gridRunsSpec)) gridRunsUptoCard

/-- THE SECOND FORM's CARD OF 'linguistlaw7.GridPlays'. -/
def gridPlaysUptoCard : Claim7 := { stood := { row := gridPlaysUptoRow, standIns := [], harness := (true, "293d1d752d3b0ed4a451a858d80a9dc3696a63f31505d803a735a57d7244f551"), looks := false }, kinds := [], alts := [], laidByText := true, laidKinds := [.data], laidTests := true, laidLooks := .later }
def GridPlaysUptoCardSaid : Prop := Claim7.holds Tryd.pinned (.plain (OpenSpec.upto gridPlaysSpec)) gridPlaysUptoCard

/-- THE SECOND FORM's CARD OF 'linguistlaw7.GridLaws'. -/
def gridLawsUptoCard : Claim7 := { stood := { row := gridLawsUptoRow, standIns := [], harness := (true, "293d1d752d3b0ed4a451a858d80a9dc3696a63f31505d803a735a57d7244f551"), looks := false }, kinds := [], alts := [], laidByText := true, laidKinds := [.data], laidTests := true, laidLooks := .later }
def GridLawsUptoCardSaid : Prop := Claim7.holds Tryd.pinned (.plain (OpenSpec.upto gridLawsSpec)) gridLawsUptoCard

/-- THE SECOND FORM's CARD OF 'linguistlaw7.GridTexts'. -/
def gridTextsUptoCard : Claim7 := { stood := { row := gridTextsUptoRow, standIns := [], harness := (true, "293d1d752d3b0ed4a451a858d80a9dc3696a63f31505d803a735a57d7244f551"), looks := false }, kinds := [], alts := [], laidByText := true, laidKinds := [.data], laidTests := true, laidLooks := .later }
def GridTextsUptoCardSaid : Prop := Claim7.holds Tryd.pinned (.plain (OpenSpec.upto gridTextsSpec)) gridTextsUptoCard

/-- THE SECOND FORM's CARD OF 'linguistlaw7.GridWide'. -/
def gridWideUptoCard : Claim7 := { stood := { row := gridWideUptoRow, standIns := [], harness := (true, "293d1d752d3b0ed4a451a858d80a9dc3696a63f31505d803a735a57d7244f551"), looks := false }, kinds := [], alts := [], laidByText := true, laidKinds := [.data], laidTests := true, laidLooks := .later }
def GridWideUptoCardSaid : Prop := Claim7.holds Tryd.pinned (.plain (OpenSpec.upto gridWideSpec)) gridWideUptoCard
end Rows
end Go.Proofs.YtfeapcneebofjaaDoor
