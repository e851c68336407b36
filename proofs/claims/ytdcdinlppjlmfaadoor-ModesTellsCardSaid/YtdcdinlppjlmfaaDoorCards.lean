/-
  DERIVED. GIVEN WITH THE SEED: THE CARDS: each row of YtdcdinlppjlmfaaDoorRows.lean that lists a variable, with what it lists TIED to the program's text (the seventh form; the later family's looks); each row that meets fmt, with fmt's text TOLD by the authors' own Lean function (tested against real Go, not proved from fmt's source: count such statements apart). THE CARD IS WHAT COUNTS. Prove the row's statement (the work); the ties are given (YtdcdinlppjlmfaaDoorTie.lean); close each card by the builder's one call (the guide's Derived/Test/ToyasCard.lean, 'card_holds'). Laid BY PROGRAM, IN A SANDBOX (cutbox-door.mjs). By AI agents, Wed Nov 11 2026. No macro, syntax, notation, axiom, sorry.
-/
import Derived.Test.YtdcdinlppjlmfaaDoorRows
import GoSem.ClaimSeven
namespace Go.Proofs.YtdcdinlppjlmfaaDoor
namespace Rows

/-- THE TIED CARD OF 'linguistlaw13.ModesRuns'. -/
def modesRunsCard : Claim7 := { stood := { row := modesRunsRow, standIns := [], harness := (true, "45d5382b41259b34d0089faa33771a7d85b23dc4c8db54fce9eb7ec0dd52743a"), looks := false }, kinds := [], alts := [], laidByText := true, laidKinds := [.data], laidTests := true, laidLooks := .later }
def ModesRunsCardSaid : Prop := Claim7.holds Tryd.pinned (.plain (OpenSpec.ofChange modesRunsSpec)) modesRunsCard

/-- THE TIED CARD OF 'linguistlaw13.ModesTells'. -/
def modesTellsCard : Claim7 := { stood := { row := modesTellsRow, standIns := [], harness := (true, "45d5382b41259b34d0089faa33771a7d85b23dc4c8db54fce9eb7ec0dd52743a"), looks := false }, kinds := [], alts := [], laidByText := true, laidKinds := [.data, .data], laidTests := true, laidLooks := .later }
def ModesTellsCardSaid : Prop := Claim7.holds Tryd.pinned (.plain (OpenSpec.ofChange modesTellsSpec)) modesTellsCard

/-- THE TIED CARD OF 'linguistlaw13.ModesMany'. -/
def modesManyCard : Claim7 := { stood := { row := modesManyRow, standIns := [], harness := (true, "45d5382b41259b34d0089faa33771a7d85b23dc4c8db54fce9eb7ec0dd52743a"), looks := false }, kinds := [], alts := [], laidByText := true, laidKinds := [.data], laidTests := true, laidLooks := .later }
def ModesManyCardSaid : Prop := Claim7.holds Tryd.pinned (.plain (OpenSpec.ofChange modesManySpec)) modesManyCard

/-- THE TIED CARD OF 'linguistlaw13.ModesOrigin'. -/
def modesOriginCard : Claim7 := { stood := { row := modesOriginRow, standIns := [], harness := (true, "45d5382b41259b34d0089faa33771a7d85b23dc4c8db54fce9eb7ec0dd52743a"), looks := false }, kinds := [], alts := [], laidByText := true, laidKinds := [.data], laidTests := true, laidLooks := .later }
def ModesOriginCardSaid : Prop := Claim7.holds Tryd.pinned (.plain (OpenSpec.ofChange modesOriginSpec)) modesOriginCard

/-- THE SECOND FORM's CARD OF 'linguistlaw13.ModesRuns'. -/
def modesRunsUptoCard : Claim7 := { stood := { row := modesRunsUptoRow, standIns := [], harness := (true, "45d5382b41259b34d0089faa33771a7d85b23dc4c8db54fce9eb7ec0dd52743a"), looks := false }, kinds := [], alts := [], laidByText := true, laidKinds := [.data], laidTests := true, laidLooks := .later }
def ModesRunsUptoCardSaid : Prop := Claim7.holds Tryd.pinned (.plain (OpenSpec.upto modesRunsSpec)) modesRunsUptoCard

/-- THE SECOND FORM's CARD OF 'linguistlaw13.ModesTells'. -/
def modesTellsUptoCard : Claim7 := { stood := { row := modesTellsUptoRow, standIns := [], harness := (true, "45d5382b41259b34d0089faa33771a7d85b23dc4c8db54fce9eb7ec0dd52743a"), looks := false }, kinds := [], alts := [], laidByText := true, laidKinds := [.data, .data], laidTests := true, laidLooks := .later }
def ModesTellsUptoCardSaid : Prop := Claim7.holds Tryd.pinned (.plain (OpenSpec.upto modesTellsSpec)) modesTellsUptoCard

/-- THE SECOND FORM's CARD OF 'linguistlaw13.ModesMany'. -/
def modesManyUptoCard : Claim7 := { stood := { row := modesManyUptoRow, standIns := [], harness := (true, "45d5382b41259b34d0089faa33771a7d85b23dc4c8db54fce9eb7ec0dd52743a"), looks := false }, kinds := [], alts := [], laidByText := true, laidKinds := [.data], laidTests := true, laidLooks := .later }
def ModesManyUptoCardSaid : Prop := Claim7.holds Tryd.pinned (.plain (OpenSpec.upto modesManySpec)) modesManyUptoCard

/-- THE SECOND FORM's CARD OF 'linguistlaw13.ModesOrigin'. -/
def modesOriginUptoCard : Claim7 := { stood := { row := modesOriginUptoRow, standIns := [], harness := (true, "45d5382b41259b34d0089faa33771a7d85b23dc4c8db54fce9eb7ec0dd52743a"), looks := false }, kinds := [], alts := [], laidByText := true, laidKinds := [.data], laidTests := true, laidLooks := .later }
def ModesOriginUptoCardSaid : Prop := Claim7.holds Tryd.pinned (.plain (OpenSpec.upto modesOriginSpec)) modesOriginUptoCard
end Rows
end Go.Proofs.YtdcdinlppjlmfaaDoor
