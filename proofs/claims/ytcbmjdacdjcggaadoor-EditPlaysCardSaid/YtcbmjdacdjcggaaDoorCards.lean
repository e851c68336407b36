/-
  DERIVED. GIVEN WITH THE SEED: THE CARDS: each row of YtcbmjdacdjcggaaDoorRows.lean that lists a variable, with what it lists TIED to the program's text (the seventh form; the later family's looks); each row that meets fmt, with fmt's text TOLD by the authors' own Lean function (tested against real Go, not proved from fmt's source: count such statements apart). THE CARD IS WHAT COUNTS. Prove the row's statement (the work); the ties are given (YtcbmjdacdjcggaaDoorTie.lean); close each card by the builder's one call (the guide's Derived/Test/ToyasCard.lean, 'card_holds'). Laid BY PROGRAM, IN A SANDBOX (cutbox-door.mjs). By AI agents, Wed Nov 11 2026. No macro, syntax, notation, axiom, sorry.
-/
import Derived.Test.YtcbmjdacdjcggaaDoorRows
import GoSem.ClaimSeven
namespace Go.Proofs.YtcbmjdacdjcggaaDoor
namespace Rows

/-- THE TIED CARD OF 'linguistlaw8.EditRuns'. -/
def editRunsCard : Claim7 := { stood := { row := editRunsRow, standIns := [], harness := (true, "eb5d7ed00c97d64f44bfbf400f1868115a244ee7e885d344a90c9614bd1e903b"), looks := false }, kinds := [], alts := [], laidByText := true, laidKinds := [.data], laidTests := true, laidLooks := .later }
def EditRunsCardSaid : Prop := Claim7.holds Tryd.pinned (.plain (OpenSpec.ofChange editRunsSpec)) editRunsCard

/-- THE TIED CARD OF 'linguistlaw8.EditPlays'. -/
def editPlaysCard : Claim7 := { stood := { row := editPlaysRow, standIns := [], harness := (true, "eb5d7ed00c97d64f44bfbf400f1868115a244ee7e885d344a90c9614bd1e903b"), looks := false }, kinds := [], alts := [], laidByText := true, laidKinds := [.data], laidTests := true, laidLooks := .later }
def EditPlaysCardSaid : Prop := Claim7.holds Tryd.pinned (.plain (OpenSpec.ofChange editPlaysSpec)) editPlaysCard

/-- THE TIED CARD OF 'linguistlaw8.EditLaws'. -/
def editLawsCard : Claim7 := { stood := { row := editLawsRow, standIns := [], harness := (true, "eb5d7ed00c97d64f44bfbf400f1868115a244ee7e885d344a90c9614bd1e903b"), looks := false }, kinds := [], alts := [], laidByText := true, laidKinds := [.data], laidTests := true, laidLooks := .later }
def EditLawsCardSaid : Prop := Claim7.holds Tryd.pinned (.plain (OpenSpec.ofChange editLawsSpec)) editLawsCard

/-- THE TIED CARD OF 'linguistlaw8.EditRows'. -/
def editRowsCard : Claim7 := { stood := { row := editRowsRow, standIns := [], harness := (true, "eb5d7ed00c97d64f44bfbf400f1868115a244ee7e885d344a90c9614bd1e903b"), looks := false }, kinds := [], alts := [], laidByText := true, laidKinds := [.data], laidTests := true, laidLooks := .later }
def EditRowsCardSaid : Prop := Claim7.holds Tryd.pinned (.plain (OpenSpec.ofChange editRowsSpec)) editRowsCard

/-- THE TIED CARD OF 'linguistlaw8.EditParts'. -/
def editPartsCard : Claim7 := { stood := { row := editPartsRow, standIns := [], harness := (true, "eb5d7ed00c97d64f44bfbf400f1868115a244ee7e885d344a90c9614bd1e903b"), looks := false }, kinds := [], alts := [], laidByText := true, laidKinds := [.data], laidTests := true, laidLooks := .later }
def EditPartsCardSaid : Prop := Claim7.holds Tryd.pinned (.plain (OpenSpec.ofChange editPartsSpec)) editPartsCard

/-- THE SECOND FORM's CARD OF 'linguistlaw8.EditRuns'. -/
def editRunsUptoCard : Claim7 := { stood := { row := editRunsUptoRow, standIns := [], harness := (true, "eb5d7ed00c97d64f44bfbf400f1868115a244ee7e885d344a90c9614bd1e903b"), looks := false }, kinds := [], alts := [], laidByText := true, laidKinds := [.data], laidTests := true, laidLooks := .later }
def EditRunsUptoCardSaid : Prop := Claim7.holds Tryd.pinned (.plain (OpenSpec.upto editRunsSpec)) editRunsUptoCard

/-- THE SECOND FORM's CARD OF 'linguistlaw8.EditPlays'. -/
def editPlaysUptoCard : Claim7 := { stood := { row := editPlaysUptoRow, standIns := [], harness := (true, "eb5d7ed00c97d64f44bfbf400f1868115a244ee7e885d344a90c9614bd1e903b"), looks := false }, kinds := [], alts := [], laidByText := true, laidKinds := [.data], laidTests := true, laidLooks := .later }
def EditPlaysUptoCardSaid : Prop := Claim7.holds Tryd.pinned (.plain (OpenSpec.upto editPlaysSpec)) editPlaysUptoCard

/-- THE SECOND FORM's CARD OF 'linguistlaw8.EditLaws'. -/
def editLawsUptoCard : Claim7 := { stood := { row := editLawsUptoRow, standIns := [], harness := (true, "eb5d7ed00c97d64f44bfbf400f1868115a244ee7e885d344a90c9614bd1e903b"), looks := false }, kinds := [], alts := [], laidByText := true, laidKinds := [.data], laidTests := true, laidLooks := .later }
def EditLawsUptoCardSaid : Prop := Claim7.holds Tryd.pinned (.plain (OpenSpec.upto editLawsSpec)) editLawsUptoCard

/-- THE SECOND FORM's CARD OF 'linguistlaw8.EditRows'. -/
def editRowsUptoCard : Claim7 := { stood := { row := editRowsUptoRow, standIns := [], harness := (true, "eb5d7ed00c97d64f44bfbf400f1868115a244ee7e885d344a90c9614bd1e903b"), looks := false }, kinds := [], alts := [], laidByText := true, laidKinds := [.data], laidTests := true, laidLooks := .later }
def EditRowsUptoCardSaid : Prop := Claim7.holds Tryd.pinned (.plain (OpenSpec.upto editRowsSpec)) editRowsUptoCard

/-- THE SECOND FORM's CARD OF 'linguistlaw8.EditParts'. -/
def editPartsUptoCard : Claim7 := { stood := { row := editPartsUptoRow, standIns := [], harness := (true, "eb5d7ed00c97d64f44bfbf400f1868115a244ee7e885d344a90c9614bd1e903b"), looks := false }, kinds := [], alts := [], laidByText := true, laidKinds := [.data], laidTests := true, laidLooks := .later }
def EditPartsUptoCardSaid : Prop := Claim7.holds Tryd.pinned (.plain (OpenSpec.upto editPartsSpec)) editPartsUptoCard
end Rows
end Go.Proofs.YtcbmjdacdjcggaaDoor
