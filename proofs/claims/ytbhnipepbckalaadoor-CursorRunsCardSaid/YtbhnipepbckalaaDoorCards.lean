/-
  DERIVED. GIVEN WITH THE SEED: THE CARDS: each row of YtbhnipepbckalaaDoorRows.lean that lists a variable, with what it lists TIED to the program's text (the seventh form; the later family's looks); each row that meets fmt, with fmt's text TOLD by the authors' own Lean function (tested against real Go, not proved from fmt's source: count such statements apart). THE CARD IS WHAT COUNTS. Prove the row's statement (the work); the ties are given (YtbhnipepbckalaaDoorTie.lean); close each card by the builder's one call (the guide's Derived/Test/ToyasCard.lean, 'card_holds'). Laid BY PROGRAM, IN A SANDBOX (cutbox-door.mjs). By AI agents, Wed Nov 11 2026. No macro, syntax, notation, axiom, sorry.
-/
import Derived.Test.YtbhnipepbckalaaDoorRows
import GoSem.ClaimSeven
namespace Go.Proofs.YtbhnipepbckalaaDoor
namespace Rows

/-- THE TIED CARD OF 'linguistlaw12.CursorRuns'. -/
def cursorRunsCard : Claim7 := { stood := { row := cursorRunsRow, standIns := [], harness := (true, "ea99144b590bfc0a8b7b064965f97fa0f885e0bbc73d888798ddbae3361a4b2e"), looks := false }, kinds := [], alts := [], laidByText := true, laidKinds := [.data], laidTests := true, laidLooks := .later }
def CursorRunsCardSaid : Prop := Claim7.holds Tryd.pinned (.plain (OpenSpec.ofChange cursorRunsSpec)) cursorRunsCard

/-- THE TIED CARD OF 'linguistlaw12.CursorTells'. -/
def cursorTellsCard : Claim7 := { stood := { row := cursorTellsRow, standIns := [], harness := (true, "ea99144b590bfc0a8b7b064965f97fa0f885e0bbc73d888798ddbae3361a4b2e"), looks := false }, kinds := [], alts := [], laidByText := true, laidKinds := [.data], laidTests := true, laidLooks := .later }
def CursorTellsCardSaid : Prop := Claim7.holds Tryd.pinned (.plain (OpenSpec.ofChange cursorTellsSpec)) cursorTellsCard

/-- THE TIED CARD OF 'linguistlaw12.CursorLaws'. -/
def cursorLawsCard : Claim7 := { stood := { row := cursorLawsRow, standIns := [], harness := (true, "ea99144b590bfc0a8b7b064965f97fa0f885e0bbc73d888798ddbae3361a4b2e"), looks := false }, kinds := [], alts := [], laidByText := true, laidKinds := [.data], laidTests := true, laidLooks := .later }
def CursorLawsCardSaid : Prop := Claim7.holds Tryd.pinned (.plain (OpenSpec.ofChange cursorLawsSpec)) cursorLawsCard

/-- THE TIED CARD OF 'linguistlaw12.CursorScrolls'. -/
def cursorScrollsCard : Claim7 := { stood := { row := cursorScrollsRow, standIns := [], harness := (true, "ea99144b590bfc0a8b7b064965f97fa0f885e0bbc73d888798ddbae3361a4b2e"), looks := false }, kinds := [], alts := [], laidByText := true, laidKinds := [.data], laidTests := true, laidLooks := .later }
def CursorScrollsCardSaid : Prop := Claim7.holds Tryd.pinned (.plain (OpenSpec.ofChange cursorScrollsSpec)) cursorScrollsCard

/-- THE TIED CARD OF 'linguistlaw12.CursorGo'. -/
def cursorGoCard : Claim7 := { stood := { row := cursorGoRow, standIns := [], harness := (true, "ea99144b590bfc0a8b7b064965f97fa0f885e0bbc73d888798ddbae3361a4b2e"), looks := false }, kinds := [], alts := [], laidByText := true, laidKinds := [.data], laidTests := true, laidLooks := .later }
def CursorGoCardSaid : Prop := Claim7.holds Tryd.pinned (.plain (OpenSpec.ofChange cursorGoSpec)) cursorGoCard

/-- THE SECOND FORM's CARD OF 'linguistlaw12.CursorRuns'. -/
def cursorRunsUptoCard : Claim7 := { stood := { row := cursorRunsUptoRow, standIns := [], harness := (true, "ea99144b590bfc0a8b7b064965f97fa0f885e0bbc73d888798ddbae3361a4b2e"), looks := false }, kinds := [], alts := [], laidByText := true, laidKinds := [.data], laidTests := true, laidLooks := .later }
def CursorRunsUptoCardSaid : Prop := Claim7.holds Tryd.pinned (.plain (OpenSpec.upto cursorRunsSpec)) cursorRunsUptoCard

/-- THE SECOND FORM's CARD OF 'linguistlaw12.CursorTells'. -/
def cursorTellsUptoCard : Claim7 := { stood := { row := cursorTellsUptoRow, standIns := [], harness := (true, "ea99144b590bfc0a8b7b064965f97fa0f885e0bbc73d888798ddbae3361a4b2e"), looks := false }, kinds := [], alts := [], laidByText := true, laidKinds := [.data], laidTests := true, laidLooks := .later }
def CursorTellsUptoCardSaid : Prop := Claim7.holds Tryd.pinned (.plain (OpenSpec.upto cursorTellsSpec)) cursorTellsUptoCard

/-- THE SECOND FORM's CARD OF 'linguistlaw12.CursorLaws'. -/
def cursorLawsUptoCard : Claim7 := { stood := { row := cursorLawsUptoRow, standIns := [], harness := (true, "ea99144b590bfc0a8b7b064965f97fa0f885e0bbc73d888798ddbae3361a4b2e"), looks := false }, kinds := [], alts := [], laidByText := true, laidKinds := [.data], laidTests := true, laidLooks := .later }
def CursorLawsUptoCardSaid : Prop := Claim7.holds Tryd.pinned (.plain (OpenSpec.upto cursorLawsSpec)) cursorLawsUptoCard

/-- THE SECOND FORM's CARD OF 'linguistlaw12.CursorScrolls'. -/
def cursorScrollsUptoCard : Claim7 := { stood := { row := cursorScrollsUptoRow, standIns := [], harness := (true, "ea99144b590bfc0a8b7b064965f97fa0f885e0bbc73d888798ddbae3361a4b2e"), looks := false }, kinds := [], alts := [], laidByText := true, laidKinds := [.data], laidTests := true, laidLooks := .later }
def CursorScrollsUptoCardSaid : Prop := Claim7.holds Tryd.pinned (.plain (OpenSpec.upto cursorScrollsSpec)) cursorScrollsUptoCard

/-- THE SECOND FORM's CARD OF 'linguistlaw12.CursorGo'. -/
def cursorGoUptoCard : Claim7 := { stood := { row := cursorGoUptoRow, standIns := [], harness := (true, "ea99144b590bfc0a8b7b064965f97fa0f885e0bbc73d888798ddbae3361a4b2e"), looks := false }, kinds := [], alts := [], laidByText := true, laidKinds := [.data], laidTests := true, laidLooks := .later }
def CursorGoUptoCardSaid : Prop := Claim7.holds Tryd.pinned (.plain (OpenSpec.upto cursorGoSpec)) cursorGoUptoCard
end Rows
end Go.Proofs.YtbhnipepbckalaaDoor
