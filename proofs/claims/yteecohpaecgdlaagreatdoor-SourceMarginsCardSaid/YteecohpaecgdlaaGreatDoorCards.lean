/-
  DERIVED. GIVEN WITH THE SEED: THE CARDS: each row of YteecohpaecgdlaaGreatDoorRows.lean that lists a variable, with what it lists TIED to the program's text (the seventh form; the later family's looks); each row that meets fmt, with fmt's text TOLD by the authors' own Lean function (tested against real Go, not proved from fmt's source: count such statements apart). THE CARD IS WHAT COUNTS. Prove the row's statement (the work); the ties are given (YteecohpaecgdlaaGreatDoorTie.lean); close each card by the builder's one call (the guide's Derived/Test/ToyasCard.lean, 'card_holds'). Laid BY PROGRAM, IN A SANDBOX (cutbox-door.mjs). By AI agents, Wed Nov 11 2026. No macro, syntax, notation, axiom, sorry.
-/
import Derived.Test.YteecohpaecgdlaaGreatDoorRows
import GoSem.ClaimSeven
namespace Go.Proofs.YteecohpaecgdlaaGreatDoor
namespace Rows

/-- THE TIED CARD OF 'linguistlaw14.SourceRuns'. -/
def sourceRunsCard : Claim7 := { stood := { row := sourceRunsRow, standIns := [], harness := (true, "09f3db3fe993d4a2a2953042a90c920cf582a1c9138cef959a7b10d7f52bdd39"), looks := false }, kinds := [], alts := [], laidByText := true, laidKinds := [.data, .data, .data, .data, .data, .data], laidTests := true, laidLooks := .later }
def SourceRunsCardSaid : Prop := Claim7.holds Tryz.pinned (.plain (OpenSpec.ofChange sourceRunsSpec)) sourceRunsCard

/-- THE TIED CARD OF 'linguistlaw14.SourceTells'. -/
def sourceTellsCard : Claim7 := { stood := { row := sourceTellsRow, standIns := [], harness := (true, "09f3db3fe993d4a2a2953042a90c920cf582a1c9138cef959a7b10d7f52bdd39"), looks := false }, kinds := [], alts := [], laidByText := true, laidKinds := [.data, .data, .data, .data, .data, .data], laidTests := true, laidLooks := .later }
def SourceTellsCardSaid : Prop := Claim7.holds Tryz.pinned (.plain (OpenSpec.ofChange sourceTellsSpec)) sourceTellsCard

/-- THE TIED CARD OF 'linguistlaw14.SourcePlays'. -/
def sourcePlaysCard : Claim7 := { stood := { row := sourcePlaysRow, standIns := [], harness := (true, "09f3db3fe993d4a2a2953042a90c920cf582a1c9138cef959a7b10d7f52bdd39"), looks := false }, kinds := [], alts := [], laidByText := true, laidKinds := [.data, .data, .data, .data, .data, .data], laidTests := true, laidLooks := .later }
def SourcePlaysCardSaid : Prop := Claim7.holds Tryz.pinned (.plain (OpenSpec.ofChange sourcePlaysSpec)) sourcePlaysCard

/-- THE TIED CARD OF 'linguistlaw14.SourceBytes'. -/
def sourceBytesCard : Claim7 := { stood := { row := sourceBytesRow, standIns := [], harness := (true, "09f3db3fe993d4a2a2953042a90c920cf582a1c9138cef959a7b10d7f52bdd39"), looks := false }, kinds := [], alts := [], laidByText := true, laidKinds := [.data, .data, .data, .data, .data, .data], laidTests := true, laidLooks := .later }
def SourceBytesCardSaid : Prop := Claim7.holds Tryz.pinned (.plain (OpenSpec.ofChange sourceBytesSpec)) sourceBytesCard

/-- THE TIED CARD OF 'linguistlaw14.SourceText'. -/
def sourceTextCard : Claim7 := { stood := { row := sourceTextRow, standIns := [], harness := (true, "09f3db3fe993d4a2a2953042a90c920cf582a1c9138cef959a7b10d7f52bdd39"), looks := false }, kinds := [], alts := [], laidByText := true, laidKinds := [.data, .data, .data, .data, .data, .data], laidTests := true, laidLooks := .later }
def SourceTextCardSaid : Prop := Claim7.holds Tryz.pinned (.plain (OpenSpec.ofChange sourceTextSpec)) sourceTextCard

/-- THE TIED CARD OF 'linguistlaw14.SourceMoves'. -/
def sourceMovesCard : Claim7 := { stood := { row := sourceMovesRow, standIns := [], harness := (true, "09f3db3fe993d4a2a2953042a90c920cf582a1c9138cef959a7b10d7f52bdd39"), looks := false }, kinds := [], alts := [], laidByText := true, laidKinds := [.data, .data, .data, .data, .data, .data], laidTests := true, laidLooks := .later }
def SourceMovesCardSaid : Prop := Claim7.holds Tryz.pinned (.plain (OpenSpec.ofChange sourceMovesSpec)) sourceMovesCard

/-- THE TIED CARD OF 'linguistlaw14.SourceErases'. -/
def sourceErasesCard : Claim7 := { stood := { row := sourceErasesRow, standIns := [], harness := (true, "09f3db3fe993d4a2a2953042a90c920cf582a1c9138cef959a7b10d7f52bdd39"), looks := false }, kinds := [], alts := [], laidByText := true, laidKinds := [.data, .data, .data, .data, .data, .data], laidTests := true, laidLooks := .later }
def SourceErasesCardSaid : Prop := Claim7.holds Tryz.pinned (.plain (OpenSpec.ofChange sourceErasesSpec)) sourceErasesCard

/-- THE TIED CARD OF 'linguistlaw14.SourceMargins'. -/
def sourceMarginsCard : Claim7 := { stood := { row := sourceMarginsRow, standIns := [], harness := (true, "09f3db3fe993d4a2a2953042a90c920cf582a1c9138cef959a7b10d7f52bdd39"), looks := false }, kinds := [], alts := [], laidByText := true, laidKinds := [.data, .data, .data, .data, .data, .data], laidTests := true, laidLooks := .later }
def SourceMarginsCardSaid : Prop := Claim7.holds Tryz.pinned (.plain (OpenSpec.ofChange sourceMarginsSpec)) sourceMarginsCard

/-- THE TIED CARD OF 'linguistlaw14.SourceTabs'. -/
def sourceTabsCard : Claim7 := { stood := { row := sourceTabsRow, standIns := [], harness := (true, "09f3db3fe993d4a2a2953042a90c920cf582a1c9138cef959a7b10d7f52bdd39"), looks := false }, kinds := [], alts := [], laidByText := true, laidKinds := [.data, .data, .data, .data, .data, .data], laidTests := true, laidLooks := .later }
def SourceTabsCardSaid : Prop := Claim7.holds Tryz.pinned (.plain (OpenSpec.ofChange sourceTabsSpec)) sourceTabsCard

/-- THE TIED CARD OF 'linguistlaw14.SourceReset'. -/
def sourceResetCard : Claim7 := { stood := { row := sourceResetRow, standIns := [], harness := (true, "09f3db3fe993d4a2a2953042a90c920cf582a1c9138cef959a7b10d7f52bdd39"), looks := false }, kinds := [], alts := [], laidByText := true, laidKinds := [.data, .data, .data, .data, .data, .data], laidTests := true, laidLooks := .later }
def SourceResetCardSaid : Prop := Claim7.holds Tryz.pinned (.plain (OpenSpec.ofChange sourceResetSpec)) sourceResetCard

/-- THE SECOND FORM's CARD OF 'linguistlaw14.SourceRuns'. -/
def sourceRunsUptoCard : Claim7 := { stood := { row := sourceRunsUptoRow, standIns := [], harness := (true, "09f3db3fe993d4a2a2953042a90c920cf582a1c9138cef959a7b10d7f52bdd39"), looks := false }, kinds := [], alts := [], laidByText := true, laidKinds := [.data, .data, .data, .data, .data, .data], laidTests := true, laidLooks := .later }
def SourceRunsUptoCardSaid : Prop := Claim7.holds Tryz.pinned (.plain (OpenSpec.upto sourceRunsSpec)) sourceRunsUptoCard

/-- THE SECOND FORM's CARD OF 'linguistlaw14.SourceTells'. -/
def sourceTellsUptoCard : Claim7 := { stood := { row := sourceTellsUptoRow, standIns := [], harness := (true, "09f3db3fe993d4a2a2953042a90c920cf582a1c9138cef959a7b10d7f52bdd39"), looks := false }, kinds := [], alts := [], laidByText := true, laidKinds := [.data, .data, .data, .data, .data, .data], laidTests := true, laidLooks := .later }
def SourceTellsUptoCardSaid : Prop := Claim7.holds Tryz.pinned (.plain (OpenSpec.upto sourceTellsSpec)) sourceTellsUptoCard

/-- THE SECOND FORM's CARD OF 'linguistlaw14.SourcePlays'. -/
def sourcePlaysUptoCard : Claim7 := { stood := { row := sourcePlaysUptoRow, standIns := [], harness := (true, "09f3db3fe993d4a2a2953042a90c920cf582a1c9138cef959a7b10d7f52bdd39"), looks := false }, kinds := [], alts := [], laidByText := true, laidKinds := [.data, .data, .data, .data, .data, .data], laidTests := true, laidLooks := .later }
def SourcePlaysUptoCardSaid : Prop := Claim7.holds Tryz.pinned (.plain (OpenSpec.upto sourcePlaysSpec)) sourcePlaysUptoCard

/-- THE SECOND FORM's CARD OF 'linguistlaw14.SourceBytes'. -/
def sourceBytesUptoCard : Claim7 := { stood := { row := sourceBytesUptoRow, standIns := [], harness := (true, "09f3db3fe993d4a2a2953042a90c920cf582a1c9138cef959a7b10d7f52bdd39"), looks := false }, kinds := [], alts := [], laidByText := true, laidKinds := [.data, .data, .data, .data, .data, .data], laidTests := true, laidLooks := .later }
def SourceBytesUptoCardSaid : Prop := Claim7.holds Tryz.pinned (.plain (OpenSpec.upto sourceBytesSpec)) sourceBytesUptoCard

/-- THE SECOND FORM's CARD OF 'linguistlaw14.SourceText'. -/
def sourceTextUptoCard : Claim7 := { stood := { row := sourceTextUptoRow, standIns := [], harness := (true, "09f3db3fe993d4a2a2953042a90c920cf582a1c9138cef959a7b10d7f52bdd39"), looks := false }, kinds := [], alts := [], laidByText := true, laidKinds := [.data, .data, .data, .data, .data, .data], laidTests := true, laidLooks := .later }
def SourceTextUptoCardSaid : Prop := Claim7.holds Tryz.pinned (.plain (OpenSpec.upto sourceTextSpec)) sourceTextUptoCard

/-- THE SECOND FORM's CARD OF 'linguistlaw14.SourceMoves'. -/
def sourceMovesUptoCard : Claim7 := { stood := { row := sourceMovesUptoRow, standIns := [], harness := (true, "09f3db3fe993d4a2a2953042a90c920cf582a1c9138cef959a7b10d7f52bdd39"), looks := false }, kinds := [], alts := [], laidByText := true, laidKinds := [.data, .data, .data, .data, .data, .data], laidTests := true, laidLooks := .later }
def SourceMovesUptoCardSaid : Prop := Claim7.holds Tryz.pinned (.plain (OpenSpec.upto sourceMovesSpec)) sourceMovesUptoCard

/-- THE SECOND FORM's CARD OF 'linguistlaw14.SourceErases'. -/
def sourceErasesUptoCard : Claim7 := { stood := { row := sourceErasesUptoRow, standIns := [], harness := (true, "09f3db3fe993d4a2a2953042a90c920cf582a1c9138cef959a7b10d7f52bdd39"), looks := false }, kinds := [], alts := [], laidByText := true, laidKinds := [.data, .data, .data, .data, .data, .data], laidTests := true, laidLooks := .later }
def SourceErasesUptoCardSaid : Prop := Claim7.holds Tryz.pinned (.plain (OpenSpec.upto sourceErasesSpec)) sourceErasesUptoCard

/-- THE SECOND FORM's CARD OF 'linguistlaw14.SourceMargins'. -/
def sourceMarginsUptoCard : Claim7 := { stood := { row := sourceMarginsUptoRow, standIns := [], harness := (true, "09f3db3fe993d4a2a2953042a90c920cf582a1c9138cef959a7b10d7f52bdd39"), looks := false }, kinds := [], alts := [], laidByText := true, laidKinds := [.data, .data, .data, .data, .data, .data], laidTests := true, laidLooks := .later }
def SourceMarginsUptoCardSaid : Prop := Claim7.holds Tryz.pinned (.plain (OpenSpec.upto sourceMarginsSpec)) sourceMarginsUptoCard

/-- THE SECOND FORM's CARD OF 'linguistlaw14.SourceTabs'. -/
def sourceTabsUptoCard : Claim7 := { stood := { row := sourceTabsUptoRow, standIns := [], harness := (true, "09f3db3fe993d4a2a2953042a90c920cf582a1c9138cef959a7b10d7f52bdd39"), looks := false }, kinds := [], alts := [], laidByText := true, laidKinds := [.data, .data, .data, .data, .data, .data], laidTests := true, laidLooks := .later }
def SourceTabsUptoCardSaid : Prop := Claim7.holds Tryz.pinned (.plain (OpenSpec.upto sourceTabsSpec)) sourceTabsUptoCard

/-- THE SECOND FORM's CARD OF 'linguistlaw14.SourceReset'. -/
def sourceResetUptoCard : Claim7 := { stood := { row := sourceResetUptoRow, standIns := [], harness := (true, "09f3db3fe993d4a2a2953042a90c920cf582a1c9138cef959a7b10d7f52bdd39"), looks := false }, kinds := [], alts := [], laidByText := true, laidKinds := [.data, .data, .data, .data, .data, .data], laidTests := true, laidLooks := .later }
def SourceResetUptoCardSaid : Prop := Claim7.holds Tryz.pinned (.plain (OpenSpec.upto sourceResetSpec)) sourceResetUptoCard
end Rows
end Go.Proofs.YteecohpaecgdlaaGreatDoor
