/-
  DERIVED. GIVEN WITH THE SEED: THE CARDS: each row of YtoffiekpmomfcaaDoorRows.lean that lists a variable, with what it lists TIED to the program's text (the seventh form; the later family's looks); each row that meets fmt, with fmt's text TOLD by the authors' own Lean function (tested against real Go, not proved from fmt's source: count such statements apart). THE CARD IS WHAT COUNTS. Prove the row's statement (the work); the ties are given (YtoffiekpmomfcaaDoorTie.lean); close each card by the builder's one call (the guide's Derived/Test/ToyasCard.lean, 'card_holds'). Laid BY PROGRAM, IN A SANDBOX (cutbox-door.mjs). By AI agents, Wed Nov 11 2026. No macro, syntax, notation, axiom, sorry.
-/
import Derived.Test.YtoffiekpmomfcaaDoorRows
import GoSem.ClaimSeven
namespace Go.Proofs.YtoffiekpmomfcaaDoor
namespace Rows

/-- THE TIED CARD OF 'linguistlaw11.ScreenRuns'. -/
def screenRunsCard : Claim7 := { stood := { row := screenRunsRow, standIns := [], harness := (true, "e90c798e62b3d2f7f0f028e2a9ef02e4db7c40898533a11bf66eaae718b292ca"), looks := false }, kinds := [], alts := [], laidByText := true, laidKinds := [.data], laidTests := true, laidLooks := .later }
def ScreenRunsCardSaid : Prop := Claim7.holds Tryd.pinned (.plain (OpenSpec.ofChange screenRunsSpec)) screenRunsCard

/-- THE TIED CARD OF 'linguistlaw11.ScreenTells'. -/
def screenTellsCard : Claim7 := { stood := { row := screenTellsRow, standIns := [], harness := (true, "e90c798e62b3d2f7f0f028e2a9ef02e4db7c40898533a11bf66eaae718b292ca"), looks := false }, kinds := [], alts := [], laidByText := true, laidKinds := [.data], laidTests := true, laidLooks := .later }
def ScreenTellsCardSaid : Prop := Claim7.holds Tryd.pinned (.plain (OpenSpec.ofChange screenTellsSpec)) screenTellsCard

/-- THE TIED CARD OF 'linguistlaw11.ScreenLooks'. -/
def screenLooksCard : Claim7 := { stood := { row := screenLooksRow, standIns := [], harness := (true, "e90c798e62b3d2f7f0f028e2a9ef02e4db7c40898533a11bf66eaae718b292ca"), looks := false }, kinds := [], alts := [], laidByText := true, laidKinds := [.data], laidTests := true, laidLooks := .later }
def ScreenLooksCardSaid : Prop := Claim7.holds Tryd.pinned (.plain (OpenSpec.ofChange screenLooksSpec)) screenLooksCard

/-- THE TIED CARD OF 'linguistlaw11.ScreenSizes'. -/
def screenSizesCard : Claim7 := { stood := { row := screenSizesRow, standIns := [], harness := (true, "e90c798e62b3d2f7f0f028e2a9ef02e4db7c40898533a11bf66eaae718b292ca"), looks := false }, kinds := [], alts := [], laidByText := true, laidKinds := [.data], laidTests := true, laidLooks := .later }
def ScreenSizesCardSaid : Prop := Claim7.holds Tryd.pinned (.plain (OpenSpec.ofChange screenSizesSpec)) screenSizesCard

/-- THE SECOND FORM's CARD OF 'linguistlaw11.ScreenRuns'. -/
def screenRunsUptoCard : Claim7 := { stood := { row := screenRunsUptoRow, standIns := [], harness := (true, "e90c798e62b3d2f7f0f028e2a9ef02e4db7c40898533a11bf66eaae718b292ca"), looks := false }, kinds := [], alts := [], laidByText := true, laidKinds := [.data], laidTests := true, laidLooks := .later }
def ScreenRunsUptoCardSaid : Prop := Claim7.holds Tryd.pinned (.plain (OpenSpec.upto screenRunsSpec)) screenRunsUptoCard

/-- THE SECOND FORM's CARD OF 'linguistlaw11.ScreenTells'. -/
def screenTellsUptoCard : Claim7 := { stood := { row := screenTellsUptoRow, standIns := [], harness := (true, "e90c798e62b3d2f7f0f028e2a9ef02e4db7c40898533a11bf66eaae718b292ca"), looks := false }, kinds := [], alts := [], laidByText := true, laidKinds := [.data], laidTests := true, laidLooks := .later }
def ScreenTellsUptoCardSaid : Prop := Claim7.holds Tryd.pinned (.plain (OpenSpec.upto screenTellsSpec)) screenTellsUptoCard

/-- THE SECOND FORM's CARD OF 'linguistlaw11.ScreenLooks'. -/
def screenLooksUptoCard : Claim7 := { stood := { row := screenLooksUptoRow, standIns := [], harness := (true, "e90c798e62b3d2f7f0f028e2a9ef02e4db7c40898533a11bf66eaae718b292ca"), looks := false }, kinds := [], alts := [], laidByText := true, laidKinds := [.data], laidTests := true, laidLooks := .later }
def ScreenLooksUptoCardSaid : Prop := Claim7.holds Tryd.pinned (.plain (OpenSpec.upto screenLooksSpec)) screenLooksUptoCard

/-- THE SECOND FORM's CARD OF 'linguistlaw11.ScreenSizes'. -/
def screenSizesUptoCard : Claim7 := { stood := { row := screenSizesUptoRow, standIns := [], harness := (true, "e90c798e62b3d2f7f0f028e2a9ef02e4db7c40898533a11bf66eaae718b292ca"), looks := false }, kinds := [], alts := [], laidByText := true, laidKinds := [.data], laidTests := true, laidLooks := .later }
def ScreenSizesUptoCardSaid : Prop := Claim7.holds Tryd.pinned (.plain (OpenSpec.upto screenSizesSpec)) screenSizesUptoCard
end Rows
end Go.Proofs.YtoffiekpmomfcaaDoor
