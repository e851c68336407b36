/-
  DERIVED. GIVEN WITH THE SEED: THE CARDS: each row of YtdpioiapljgpmaaDoorRows.lean that lists a variable, with what it lists TIED to the program's text (the seventh form; the later family's looks); each row that meets fmt, with fmt's text TOLD by the authors' own Lean function (tested against real Go, not proved from fmt's source: count such statements apart). THE CARD IS WHAT COUNTS. Prove the row's statement (the work); the ties are given (YtdpioiapljgpmaaDoorTie.lean); close each card by the builder's one call (the guide's Derived/Test/ToyasCard.lean, 'card_holds'). Laid BY PROGRAM, IN A SANDBOX (cutbox-door.mjs). By AI agents, Wed Nov 11 2026. No macro, syntax, notation, axiom, sorry.
-/
import Derived.Test.YtdpioiapljgpmaaDoorRows
import GoSem.ClaimSeven
namespace Go.Proofs.YtdpioiapljgpmaaDoor
namespace Rows

/-- THE TIED CARD OF 'linguistlaw5.ParseRuns'. -/
def parseRunsCard : Claim7 := { stood := { row := parseRunsRow, standIns := [], harness := (true, "2708129bcbea02b812976d4433b9fff34199959d2b68d602492cb8f743428a12"), looks := false }, kinds := [], alts := [], laidByText := true, laidKinds := [.data, .data], laidTests := true, laidLooks := .later }
def ParseRunsCardSaid : Prop := Claim7.holds Tryd.pinned (.plain (OpenSpec.ofChange parseRunsSpec)) parseRunsCard

/-- THE TIED CARD OF 'linguistlaw5.ParseCuts'. -/
def parseCutsCard : Claim7 := { stood := { row := parseCutsRow, standIns := [], harness := (true, "2708129bcbea02b812976d4433b9fff34199959d2b68d602492cb8f743428a12"), looks := false }, kinds := [], alts := [], laidByText := true, laidKinds := [.data, .data], laidTests := true, laidLooks := .later }
def ParseCutsCardSaid : Prop := Claim7.holds Tryd.pinned (.plain (OpenSpec.ofChange parseCutsSpec)) parseCutsCard

/-- THE TIED CARD OF 'linguistlaw5.ParseEnds'. -/
def parseEndsCard : Claim7 := { stood := { row := parseEndsRow, standIns := [], harness := (true, "2708129bcbea02b812976d4433b9fff34199959d2b68d602492cb8f743428a12"), looks := false }, kinds := [], alts := [], laidByText := true, laidKinds := [.data, .data], laidTests := true, laidLooks := .later }
def ParseEndsCardSaid : Prop := Claim7.holds Tryd.pinned (.plain (OpenSpec.ofChange parseEndsSpec)) parseEndsCard

/-- THE TIED CARD OF 'linguistlaw5.ParseLong'. -/
def parseLongCard : Claim7 := { stood := { row := parseLongRow, standIns := [], harness := (true, "2708129bcbea02b812976d4433b9fff34199959d2b68d602492cb8f743428a12"), looks := false }, kinds := [], alts := [], laidByText := true, laidKinds := [.data, .data], laidTests := true, laidLooks := .later }
def ParseLongCardSaid : Prop := Claim7.holds Tryd.pinned (.plain (OpenSpec.ofChange parseLongSpec)) parseLongCard

/-- THE TIED CARD OF 'linguistlaw5.ParseStrings'. -/
def parseStringsCard : Claim7 := { stood := { row := parseStringsRow, standIns := [], harness := (true, "2708129bcbea02b812976d4433b9fff34199959d2b68d602492cb8f743428a12"), looks := false }, kinds := [], alts := [], laidByText := true, laidKinds := [.data, .data], laidTests := true, laidLooks := .later }
def ParseStringsCardSaid : Prop := Claim7.holds Tryd.pinned (.plain (OpenSpec.ofChange parseStringsSpec)) parseStringsCard

/-- THE SECOND FORM's CARD OF 'linguistlaw5.ParseRuns'. -/
def parseRunsUptoCard : Claim7 := { stood := { row := parseRunsUptoRow, standIns := [], harness := (true, "2708129bcbea02b812976d4433b9fff34199959d2b68d602492cb8f743428a12"), looks := false }, kinds := [], alts := [], laidByText := true, laidKinds := [.data, .data], laidTests := true, laidLooks := .later }
def ParseRunsUptoCardSaid : Prop := Claim7.holds Tryd.pinned (.plain (OpenSpec.upto parseRunsSpec)) parseRunsUptoCard

/-- THE SECOND FORM's CARD OF 'linguistlaw5.ParseCuts'. -/
def parseCutsUptoCard : Claim7 := { stood := { row := parseCutsUptoRow, standIns := [], harness := (true, "2708129bcbea02b812976d4433b9fff34199959d2b68d602492cb8f743428a12"), looks := false }, kinds := [], alts := [], laidByText := true, laidKinds := [.data, .data], laidTests := true, laidLooks := .later }
def ParseCutsUptoCardSaid : Prop := Claim7.holds Tryd.pinned (.plain (OpenSpec.upto parseCutsSpec)) parseCutsUptoCard

/-- THE SECOND FORM's CARD OF 'linguistlaw5.ParseEnds'. -/
def parseEndsUptoCard : Claim7 := { stood := { row := parseEndsUptoRow, standIns := [], harness := (true, "2708129bcbea02b812976d4433b9fff34199959d2b68d602492cb8f743428a12"), looks := false }, kinds := [], alts := [], laidByText := true, laidKinds := [.data, .data], laidTests := true, laidLooks := .later }
def ParseEndsUptoCardSaid : Prop := Claim7.holds Tryd.pinned (.plain (OpenSpec.upto parseEndsSpec)) parseEndsUptoCard

/-- THE SECOND FORM's CARD OF 'linguistlaw5.ParseLong'. -/
def parseLongUptoCard : Claim7 := { stood := { row := parseLongUptoRow, standIns := [], harness := (true, "2708129bcbea02b812976d4433b9fff34199959d2b68d602492cb8f743428a12"), looks := false }, kinds := [], alts := [], laidByText := true, laidKinds := [.data, .data], laidTests := true, laidLooks := .later }
def ParseLongUptoCardSaid : Prop := Claim7.holds Tryd.pinned (.plain (OpenSpec.upto parseLongSpec)) parseLongUptoCard

/-- THE SECOND FORM's CARD OF 'linguistlaw5.ParseStrings'. -/
def parseStringsUptoCard : Claim7 := { stood := { row := parseStringsUptoRow, standIns := [], harness := (true, "2708129bcbea02b812976d4433b9fff34199959d2b68d602492cb8f743428a12"), looks := false }, kinds := [], alts := [], laidByText := true, laidKinds := [.data, .data], laidTests := true, laidLooks := .later }
def ParseStringsUptoCardSaid : Prop := Claim7.holds Tryd.pinned (.plain (OpenSpec.upto parseStringsSpec)) parseStringsUptoCard
end Rows
end Go.Proofs.YtdpioiapljgpmaaDoor
