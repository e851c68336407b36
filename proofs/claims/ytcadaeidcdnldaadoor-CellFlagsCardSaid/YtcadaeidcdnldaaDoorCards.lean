/-
  DERIVED. GIVEN WITH THE SEED: THE CARDS: each row of YtcadaeidcdnldaaDoorRows.lean that lists a variable, with what it lists TIED to the program's text (the seventh form; the later family's looks); each row that meets fmt, with fmt's text TOLD by the authors' own Lean function (tested against real Go, not proved from fmt's source: count such statements apart). THE CARD IS WHAT COUNTS. Prove the row's statement (the work); the ties are given (YtcadaeidcdnldaaDoorTie.lean); close each card by the builder's one call (the guide's Derived/Test/ToyasCard.lean, 'card_holds'). Laid BY PROGRAM, IN A SANDBOX (cutbox-door.mjs). By AI agents, Wed Nov 11 2026. No macro, syntax, notation, axiom, sorry.
-/
import Derived.Test.YtcadaeidcdnldaaDoorRows
import GoSem.ClaimSeven
namespace Go.Proofs.YtcadaeidcdnldaaDoor
namespace Rows

/-- THE TIED CARD OF 'linguistlaw2.CellRuns'. -/
def cellRunsCard : Claim7 := { stood := { row := cellRunsRow, standIns := [], harness := (true, "ded5c0084199967dd1263444d369f31cd8a22c10b23f6707119ad11ca550ac8d"), looks := false }, kinds := [], alts := [], laidByText := true, laidKinds := [.data], laidTests := true, laidLooks := .later }
def CellRunsCardSaid : Prop := Claim7.holds Tryd.pinned (.plain (OpenSpec.ofChange cellRunsSpec)) cellRunsCard

/-- THE TIED CARD OF 'linguistlaw2.CellTells'. -/
def cellTellsCard : Claim7 := { stood := { row := cellTellsRow, standIns := [], harness := (true, "ded5c0084199967dd1263444d369f31cd8a22c10b23f6707119ad11ca550ac8d"), looks := false }, kinds := [], alts := [], laidByText := true, laidKinds := [.data], laidTests := true, laidLooks := .later }
def CellTellsCardSaid : Prop := Claim7.holds Tryd.pinned (.plain (OpenSpec.ofChange cellTellsSpec)) cellTellsCard

/-- THE TIED CARD OF 'linguistlaw2.CellPacks'. -/
def cellPacksCard : Claim7 := { stood := { row := cellPacksRow, standIns := [], harness := (true, "ded5c0084199967dd1263444d369f31cd8a22c10b23f6707119ad11ca550ac8d"), looks := false }, kinds := [], alts := [], laidByText := true, laidKinds := [.data], laidTests := true, laidLooks := .later }
def CellPacksCardSaid : Prop := Claim7.holds Tryd.pinned (.plain (OpenSpec.ofChange cellPacksSpec)) cellPacksCard

/-- THE TIED CARD OF 'linguistlaw2.CellWidths'. -/
def cellWidthsCard : Claim7 := { stood := { row := cellWidthsRow, standIns := [], harness := (true, "ded5c0084199967dd1263444d369f31cd8a22c10b23f6707119ad11ca550ac8d"), looks := false }, kinds := [], alts := [], laidByText := true, laidKinds := [.data], laidTests := true, laidLooks := .later }
def CellWidthsCardSaid : Prop := Claim7.holds Tryd.pinned (.plain (OpenSpec.ofChange cellWidthsSpec)) cellWidthsCard

/-- THE TIED CARD OF 'linguistlaw2.CellFlags'. -/
def cellFlagsCard : Claim7 := { stood := { row := cellFlagsRow, standIns := [], harness := (true, "ded5c0084199967dd1263444d369f31cd8a22c10b23f6707119ad11ca550ac8d"), looks := false }, kinds := [], alts := [], laidByText := true, laidKinds := [.data], laidTests := true, laidLooks := .later }
def CellFlagsCardSaid : Prop := Claim7.holds Tryd.pinned (.plain (OpenSpec.ofChange cellFlagsSpec)) cellFlagsCard

/-- THE SECOND FORM's CARD OF 'linguistlaw2.CellRuns'. -/
def cellRunsUptoCard : Claim7 := { stood := { row := cellRunsUptoRow, standIns := [], harness := (true, "ded5c0084199967dd1263444d369f31cd8a22c10b23f6707119ad11ca550ac8d"), looks := false }, kinds := [], alts := [], laidByText := true, laidKinds := [.data], laidTests := true, laidLooks := .later }
def CellRunsUptoCardSaid : Prop := Claim7.holds Tryd.pinned (.plain (OpenSpec.upto cellRunsSpec)) cellRunsUptoCard

/-- THE SECOND FORM's CARD OF 'linguistlaw2.CellTells'. -/
def cellTellsUptoCard : Claim7 := { stood := { row := cellTellsUptoRow, standIns := [], harness := (true, "ded5c0084199967dd1263444d369f31cd8a22c10b23f6707119ad11ca550ac8d"), looks := false }, kinds := [], alts := [], laidByText := true, laidKinds := [.data], laidTests := true, laidLooks := .later }
def CellTellsUptoCardSaid : Prop := Claim7.holds Tryd.pinned (.plain (OpenSpec.upto cellTellsSpec)) cellTellsUptoCard

/-- THE SECOND FORM's CARD OF 'linguistlaw2.CellPacks'. -/
def cellPacksUptoCard : Claim7 := { stood := { row := cellPacksUptoRow, standIns := [], harness := (true, "ded5c0084199967dd1263444d369f31cd8a22c10b23f6707119ad11ca550ac8d"), looks := false }, kinds := [], alts := [], laidByText := true, laidKinds := [.data], laidTests := true, laidLooks := .later }
def CellPacksUptoCardSaid : Prop := Claim7.holds Tryd.pinned (.plain (OpenSpec.upto cellPacksSpec)) cellPacksUptoCard

/-- THE SECOND FORM's CARD OF 'linguistlaw2.CellWidths'. -/
def cellWidthsUptoCard : Claim7 := { stood := { row := cellWidthsUptoRow, standIns := [], harness := (true, "ded5c0084199967dd1263444d369f31cd8a22c10b23f6707119ad11ca550ac8d"), looks := false }, kinds := [], alts := [], laidByText := true, laidKinds := [.data], laidTests := true, laidLooks := .later }
def CellWidthsUptoCardSaid : Prop := Claim7.holds Tryd.pinned (.plain (OpenSpec.upto cellWidthsSpec)) cellWidthsUptoCard

/-- THE SECOND FORM's CARD OF 'linguistlaw2.CellFlags'. -/
def cellFlagsUptoCard : Claim7 := { stood := { row := cellFlagsUptoRow, standIns := [], harness := (true, "ded5c0084199967dd1263444d369f31cd8a22c10b23f6707119ad11ca550ac8d"), looks := false }, kinds := [], alts := [], laidByText := true, laidKinds := [.data], laidTests := true, laidLooks := .later }
def CellFlagsUptoCardSaid : Prop := Claim7.holds Tryd.pinned (.plain (OpenSpec.upto cellFlagsSpec)) cellFlagsUptoCard
end Rows
end Go.Proofs.YtcadaeidcdnldaaDoor
