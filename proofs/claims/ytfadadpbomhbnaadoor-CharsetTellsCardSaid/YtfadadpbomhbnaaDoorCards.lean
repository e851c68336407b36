/-
  DERIVED. GIVEN WITH THE SEED: THE CARDS: each row of YtfadadpbomhbnaaDoorRows.lean that lists a variable, with what it lists TIED to the program's text (the seventh form; the later family's looks); each row that meets fmt, with fmt's text TOLD by the authors' own Lean function (tested against real Go, not proved from fmt's source: count such statements apart). THE CARD IS WHAT COUNTS. Prove the row's statement (the work); the ties are given (YtfadadpbomhbnaaDoorTie.lean); close each card by the builder's one call (the guide's Derived/Test/ToyasCard.lean, 'card_holds'). Laid BY PROGRAM, IN A SANDBOX (cutbox-door.mjs). By AI agents, Wed Nov 11 2026. No macro, syntax, notation, axiom, sorry.
-/
import Derived.Test.YtfadadpbomhbnaaDoorRows
import GoSem.ClaimSeven
namespace Go.Proofs.YtfadadpbomhbnaaDoor
namespace Rows

/-- THE TIED CARD OF 'linguistlaw4.CharsetRuns'. -/
def charsetRunsCard : Claim7 := { stood := { row := charsetRunsRow, standIns := [], harness := (true, "1620ada56d377cbb79c4fb73b61cac036b39bdc55c34a109175ec158e52c5ada"), looks := false }, kinds := [], alts := [], laidByText := true, laidKinds := [.data], laidTests := true, laidLooks := .later }
def CharsetRunsCardSaid : Prop := Claim7.holds Tryd.pinned (.plain (OpenSpec.ofChange charsetRunsSpec)) charsetRunsCard

/-- THE TIED CARD OF 'linguistlaw4.CharsetTells'. -/
def charsetTellsCard : Claim7 := { stood := { row := charsetTellsRow, standIns := [], harness := (true, "1620ada56d377cbb79c4fb73b61cac036b39bdc55c34a109175ec158e52c5ada"), looks := false }, kinds := [], alts := [], laidByText := true, laidKinds := [.data], laidTests := true, laidLooks := .later }
def CharsetTellsCardSaid : Prop := Claim7.holds Tryd.pinned (.plain (OpenSpec.ofChange charsetTellsSpec)) charsetTellsCard

/-- THE TIED CARD OF 'linguistlaw4.CharsetBack'. -/
def charsetBackCard : Claim7 := { stood := { row := charsetBackRow, standIns := [], harness := (true, "1620ada56d377cbb79c4fb73b61cac036b39bdc55c34a109175ec158e52c5ada"), looks := false }, kinds := [], alts := [], laidByText := true, laidKinds := [.data], laidTests := true, laidLooks := .later }
def CharsetBackCardSaid : Prop := Claim7.holds Tryd.pinned (.plain (OpenSpec.ofChange charsetBackSpec)) charsetBackCard

/-- THE TIED CARD OF 'linguistlaw4.CharsetTexts'. -/
def charsetTextsCard : Claim7 := { stood := { row := charsetTextsRow, standIns := [], harness := (true, "1620ada56d377cbb79c4fb73b61cac036b39bdc55c34a109175ec158e52c5ada"), looks := false }, kinds := [], alts := [], laidByText := true, laidKinds := [.data], laidTests := true, laidLooks := .later }
def CharsetTextsCardSaid : Prop := Claim7.holds Tryd.pinned (.plain (OpenSpec.ofChange charsetTextsSpec)) charsetTextsCard

/-- THE SECOND FORM's CARD OF 'linguistlaw4.CharsetRuns'. -/
def charsetRunsUptoCard : Claim7 := { stood := { row := charsetRunsUptoRow, standIns := [], harness := (true, "1620ada56d377cbb79c4fb73b61cac036b39bdc55c34a109175ec158e52c5ada"), looks := false }, kinds := [], alts := [], laidByText := true, laidKinds := [.data], laidTests := true, laidLooks := .later }
def CharsetRunsUptoCardSaid : Prop := Claim7.holds Tryd.pinned (.plain (OpenSpec.upto charsetRunsSpec)) charsetRunsUptoCard

/-- THE SECOND FORM's CARD OF 'linguistlaw4.CharsetTells'. -/
def charsetTellsUptoCard : Claim7 := { stood := { row := charsetTellsUptoRow, standIns := [], harness := (true, "1620ada56d377cbb79c4fb73b61cac036b39bdc55c34a109175ec158e52c5ada"), looks := false }, kinds := [], alts := [], laidByText := true, laidKinds := [.data], laidTests := true, laidLooks := .later }
def CharsetTellsUptoCardSaid : Prop := Claim7.holds Tryd.pinned (.plain (OpenSpec.upto charsetTellsSpec)) charsetTellsUptoCard

/-- THE SECOND FORM's CARD OF 'linguistlaw4.CharsetBack'. -/
def charsetBackUptoCard : Claim7 := { stood := { row := charsetBackUptoRow, standIns := [], harness := (true, "1620ada56d377cbb79c4fb73b61cac036b39bdc55c34a109175ec158e52c5ada"), looks := false }, kinds := [], alts := [], laidByText := true, laidKinds := [.data], laidTests := true, laidLooks := .later }
def CharsetBackUptoCardSaid : Prop := Claim7.holds Tryd.pinned (.plain (OpenSpec.upto charsetBackSpec)) charsetBackUptoCard

/-- THE SECOND FORM's CARD OF 'linguistlaw4.CharsetTexts'. -/
def charsetTextsUptoCard : Claim7 := { stood := { row := charsetTextsUptoRow, standIns := [], harness := (true, "1620ada56d377cbb79c4fb73b61cac036b39bdc55c34a109175ec158e52c5ada"), looks := false }, kinds := [], alts := [], laidByText := true, laidKinds := [.data], laidTests := true, laidLooks := .later }
def CharsetTextsUptoCardSaid : Prop := Claim7.holds Tryd.pinned (.plain (OpenSpec.upto charsetTextsSpec)) charsetTextsUptoCard
end Rows
end Go.Proofs.YtfadadpbomhbnaaDoor
