/-
  DERIVED. GIVEN WITH THE SEED: THE CARDS: each row of YtnjkongbccblaaaDoorRows.lean that lists a variable, with what it lists TIED to the program's text (the seventh form; the later family's looks); each row that meets fmt, with fmt's text TOLD by the authors' own Lean function (tested against real Go, not proved from fmt's source: count such statements apart). THE CARD IS WHAT COUNTS. Prove the row's statement (the work); the ties are given (YtnjkongbccblaaaDoorTie.lean); close each card by the builder's one call (the guide's Derived/Test/ToyasCard.lean, 'card_holds'). Laid BY PROGRAM, IN A SANDBOX (cutbox-door.mjs). By AI agents, Wed Nov 11 2026. No macro, syntax, notation, axiom, sorry.
-/
import Derived.Test.YtnjkongbccblaaaDoorRows
import GoSem.ClaimSeven
namespace Go.Proofs.YtnjkongbccblaaaDoor
namespace Rows

/-- THE TIED CARD OF 'linguistlaw10.PenRuns'. -/
def penRunsCard : Claim7 := { stood := { row := penRunsRow, standIns := [], harness := (true, "bafcadf6590beabf6ddf84937817f82248172d34bf389686f92d8bd688bfdf68"), looks := false }, kinds := [], alts := [], laidByText := true, laidKinds := [.data], laidTests := true, laidLooks := .later }
def PenRunsCardSaid : Prop := Claim7.holds Tryd.pinned (.plain (OpenSpec.ofChange penRunsSpec)) penRunsCard

/-- THE TIED CARD OF 'linguistlaw10.PenTells'. -/
def penTellsCard : Claim7 := { stood := { row := penTellsRow, standIns := [], harness := (true, "bafcadf6590beabf6ddf84937817f82248172d34bf389686f92d8bd688bfdf68"), looks := false }, kinds := [], alts := [], laidByText := true, laidKinds := [.data], laidTests := true, laidLooks := .later }
def PenTellsCardSaid : Prop := Claim7.holds Tryd.pinned (.plain (OpenSpec.ofChange penTellsSpec)) penTellsCard

/-- THE TIED CARD OF 'linguistlaw10.PenSaid'. -/
def penSaidCard : Claim7 := { stood := { row := penSaidRow, standIns := [], harness := (true, "bafcadf6590beabf6ddf84937817f82248172d34bf389686f92d8bd688bfdf68"), looks := false }, kinds := [], alts := [], laidByText := true, laidKinds := [.data], laidTests := true, laidLooks := .later }
def PenSaidCardSaid : Prop := Claim7.holds Tryd.pinned (.plain (OpenSpec.ofChange penSaidSpec)) penSaidCard

/-- THE TIED CARD OF 'linguistlaw10.PenParts'. -/
def penPartsCard : Claim7 := { stood := { row := penPartsRow, standIns := [], harness := (true, "bafcadf6590beabf6ddf84937817f82248172d34bf389686f92d8bd688bfdf68"), looks := false }, kinds := [], alts := [], laidByText := true, laidKinds := [.data], laidTests := true, laidLooks := .later }
def PenPartsCardSaid : Prop := Claim7.holds Tryd.pinned (.plain (OpenSpec.ofChange penPartsSpec)) penPartsCard

/-- THE TIED CARD OF 'linguistlaw10.PenColours'. -/
def penColoursCard : Claim7 := { stood := { row := penColoursRow, standIns := [], harness := (true, "bafcadf6590beabf6ddf84937817f82248172d34bf389686f92d8bd688bfdf68"), looks := false }, kinds := [], alts := [], laidByText := true, laidKinds := [.data], laidTests := true, laidLooks := .later }
def PenColoursCardSaid : Prop := Claim7.holds Tryd.pinned (.plain (OpenSpec.ofChange penColoursSpec)) penColoursCard

/-- THE SECOND FORM's CARD OF 'linguistlaw10.PenRuns'. -/
def penRunsUptoCard : Claim7 := { stood := { row := penRunsUptoRow, standIns := [], harness := (true, "bafcadf6590beabf6ddf84937817f82248172d34bf389686f92d8bd688bfdf68"), looks := false }, kinds := [], alts := [], laidByText := true, laidKinds := [.data], laidTests := true, laidLooks := .later }
def PenRunsUptoCardSaid : Prop := Claim7.holds Tryd.pinned (.plain (OpenSpec.upto penRunsSpec)) penRunsUptoCard

/-- THE SECOND FORM's CARD OF 'linguistlaw10.PenTells'. -/
def penTellsUptoCard : Claim7 := { stood := { row := penTellsUptoRow, standIns := [], harness := (true, "bafcadf6590beabf6ddf84937817f82248172d34bf389686f92d8bd688bfdf68"), looks := false }, kinds := [], alts := [], laidByText := true, laidKinds := [.data], laidTests := true, laidLooks := .later }
def PenTellsUptoCardSaid : Prop := Claim7.holds Tryd.pinned (.plain (OpenSpec.upto penTellsSpec)) penTellsUptoCard

/-- THE SECOND FORM's CARD OF 'linguistlaw10.PenSaid'. -/
def penSaidUptoCard : Claim7 := { stood := { row := penSaidUptoRow, standIns := [], harness := (true, "bafcadf6590beabf6ddf84937817f82248172d34bf389686f92d8bd688bfdf68"), looks := false }, kinds := [], alts := [], laidByText := true, laidKinds := [.data], laidTests := true, laidLooks := .later }
def PenSaidUptoCardSaid : Prop := Claim7.holds Tryd.pinned (.plain (OpenSpec.upto penSaidSpec)) penSaidUptoCard

/-- THE SECOND FORM's CARD OF 'linguistlaw10.PenParts'. -/
def penPartsUptoCard : Claim7 := { stood := { row := penPartsUptoRow, standIns := [], harness := (true, "bafcadf6590beabf6ddf84937817f82248172d34bf389686f92d8bd688bfdf68"), looks := false }, kinds := [], alts := [], laidByText := true, laidKinds := [.data], laidTests := true, laidLooks := .later }
def PenPartsUptoCardSaid : Prop := Claim7.holds Tryd.pinned (.plain (OpenSpec.upto penPartsSpec)) penPartsUptoCard

/-- THE SECOND FORM's CARD OF 'linguistlaw10.PenColours'. -/
def penColoursUptoCard : Claim7 := { stood := { row := penColoursUptoRow, standIns := [], harness := (true, "bafcadf6590beabf6ddf84937817f82248172d34bf389686f92d8bd688bfdf68"), looks := false }, kinds := [], alts := [], laidByText := true, laidKinds := [.data], laidTests := true, laidLooks := .later }
def PenColoursUptoCardSaid : Prop := Claim7.holds Tryd.pinned (.plain (OpenSpec.upto penColoursSpec)) penColoursUptoCard
end Rows
end Go.Proofs.YtnjkongbccblaaaDoor
