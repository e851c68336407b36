/-
  DERIVED. GIVEN WITH THE SEED: THE CARDS: each row of YtoaabebgmdbjeaaGreatDoorRows.lean that lists a variable, with what it lists TIED to the program's text (the seventh form; the later family's looks); each row that meets fmt, with fmt's text TOLD by the authors' own Lean function (tested against real Go, not proved from fmt's source: count such statements apart). THE CARD IS WHAT COUNTS. Prove the row's statement (the work); the ties are given (YtoaabebgmdbjeaaGreatDoorTie.lean); close each card by the builder's one call (the guide's Derived/Test/ToyasCard.lean, 'card_holds'). Laid BY PROGRAM, IN A SANDBOX (cutbox-door.mjs). By AI agents, Wed Nov 11 2026. No macro, syntax, notation, axiom, sorry.
-/
import Derived.Test.YtoaabebgmdbjeaaGreatDoorRows
import GoSem.ClaimSeven
namespace Go.Proofs.YtoaabebgmdbjeaaGreatDoor
namespace Rows

/-- THE TIED CARD OF 'linguistlaw14.SourceTells'. -/
def sourceTellsCard : Claim7 := { stood := { row := sourceTellsRow, standIns := [], harness := (true, "6489d96949e0c2bbab39851cf65c4faba9c211b87258686737bc3f50f3e28645"), looks := false }, kinds := [], alts := [], laidByText := true, laidKinds := [.data, .data, .data, .data, .data, .data], laidTests := true, laidLooks := .later }
def SourceTellsCardSaid : Prop := Claim7.holds Tryz.pinned (.plain (OpenSpec.ofChange sourceTellsSpec)) sourceTellsCard

/-- THE TIED CARD OF 'linguistlaw14.SourcePlays'. -/
def sourcePlaysCard : Claim7 := { stood := { row := sourcePlaysRow, standIns := [], harness := (true, "6489d96949e0c2bbab39851cf65c4faba9c211b87258686737bc3f50f3e28645"), looks := false }, kinds := [], alts := [], laidByText := true, laidKinds := [.data, .data, .data, .data, .data, .data], laidTests := true, laidLooks := .later }
def SourcePlaysCardSaid : Prop := Claim7.holds Tryz.pinned (.plain (OpenSpec.ofChange sourcePlaysSpec)) sourcePlaysCard

/-- THE TIED CARD OF 'linguistlaw14.SourceBytes'. -/
def sourceBytesCard : Claim7 := { stood := { row := sourceBytesRow, standIns := [], harness := (true, "6489d96949e0c2bbab39851cf65c4faba9c211b87258686737bc3f50f3e28645"), looks := false }, kinds := [], alts := [], laidByText := true, laidKinds := [.data, .data, .data, .data, .data, .data], laidTests := true, laidLooks := .later }
def SourceBytesCardSaid : Prop := Claim7.holds Tryz.pinned (.plain (OpenSpec.ofChange sourceBytesSpec)) sourceBytesCard

/-- THE TIED CARD OF 'linguistlaw14.SourceText'. -/
def sourceTextCard : Claim7 := { stood := { row := sourceTextRow, standIns := [], harness := (true, "6489d96949e0c2bbab39851cf65c4faba9c211b87258686737bc3f50f3e28645"), looks := false }, kinds := [], alts := [], laidByText := true, laidKinds := [.data, .data, .data, .data, .data, .data], laidTests := true, laidLooks := .later }
def SourceTextCardSaid : Prop := Claim7.holds Tryz.pinned (.plain (OpenSpec.ofChange sourceTextSpec)) sourceTextCard

/-- THE TIED CARD OF 'linguistlaw14.SourceTabs'. -/
def sourceTabsCard : Claim7 := { stood := { row := sourceTabsRow, standIns := [], harness := (true, "6489d96949e0c2bbab39851cf65c4faba9c211b87258686737bc3f50f3e28645"), looks := false }, kinds := [], alts := [], laidByText := true, laidKinds := [.data, .data, .data, .data, .data, .data], laidTests := true, laidLooks := .later }
def SourceTabsCardSaid : Prop := Claim7.holds Tryz.pinned (.plain (OpenSpec.ofChange sourceTabsSpec)) sourceTabsCard

/-- THE TIED CARD OF 'linguistlaw14.SourceReset'. -/
def sourceResetCard : Claim7 := { stood := { row := sourceResetRow, standIns := [], harness := (true, "6489d96949e0c2bbab39851cf65c4faba9c211b87258686737bc3f50f3e28645"), looks := false }, kinds := [], alts := [], laidByText := true, laidKinds := [.data, .data, .data, .data, .data, .data], laidTests := true, laidLooks := .later }
def SourceResetCardSaid : Prop := Claim7.holds Tryz.pinned (.plain (OpenSpec.ofChange sourceResetSpec)) sourceResetCard

/-- THE TIED CARD OF 'linguistlaw15.ReplyAll'. -/
def replyAllCard : Claim7 := { stood := { row := replyAllRow, standIns := [], harness := (true, "6489d96949e0c2bbab39851cf65c4faba9c211b87258686737bc3f50f3e28645"), looks := false }, kinds := [], alts := [], laidByText := true, laidKinds := [.data, .data, .data, .data, .data, .data, .data], laidTests := true, laidLooks := .later }
def ReplyAllCardSaid : Prop := Claim7.holds Tryz.pinned (.plain (OpenSpec.ofChange replyAllSpec)) replyAllCard

/-- THE TIED CARD OF 'linguistlaw15.ReplyPlaces'. -/
def replyPlacesCard : Claim7 := { stood := { row := replyPlacesRow, standIns := [], harness := (true, "6489d96949e0c2bbab39851cf65c4faba9c211b87258686737bc3f50f3e28645"), looks := false }, kinds := [], alts := [], laidByText := true, laidKinds := [.data, .data, .data, .data, .data, .data, .data], laidTests := true, laidLooks := .later }
def ReplyPlacesCardSaid : Prop := Claim7.holds Tryz.pinned (.plain (OpenSpec.ofChange replyPlacesSpec)) replyPlacesCard

/-- THE SECOND FORM's CARD OF 'linguistlaw14.SourceTells'. -/
def sourceTellsUptoCard : Claim7 := { stood := { row := sourceTellsUptoRow, standIns := [], harness := (true, "6489d96949e0c2bbab39851cf65c4faba9c211b87258686737bc3f50f3e28645"), looks := false }, kinds := [], alts := [], laidByText := true, laidKinds := [.data, .data, .data, .data, .data, .data], laidTests := true, laidLooks := .later }
def SourceTellsUptoCardSaid : Prop := Claim7.holds Tryz.pinned (.plain (OpenSpec.upto sourceTellsSpec)) sourceTellsUptoCard

/-- THE SECOND FORM's CARD OF 'linguistlaw14.SourcePlays'. -/
def sourcePlaysUptoCard : Claim7 := { stood := { row := sourcePlaysUptoRow, standIns := [], harness := (true, "6489d96949e0c2bbab39851cf65c4faba9c211b87258686737bc3f50f3e28645"), looks := false }, kinds := [], alts := [], laidByText := true, laidKinds := [.data, .data, .data, .data, .data, .data], laidTests := true, laidLooks := .later }
def SourcePlaysUptoCardSaid : Prop := Claim7.holds Tryz.pinned (.plain (OpenSpec.upto sourcePlaysSpec)) sourcePlaysUptoCard

/-- THE SECOND FORM's CARD OF 'linguistlaw14.SourceBytes'. -/
def sourceBytesUptoCard : Claim7 := { stood := { row := sourceBytesUptoRow, standIns := [], harness := (true, "6489d96949e0c2bbab39851cf65c4faba9c211b87258686737bc3f50f3e28645"), looks := false }, kinds := [], alts := [], laidByText := true, laidKinds := [.data, .data, .data, .data, .data, .data], laidTests := true, laidLooks := .later }
def SourceBytesUptoCardSaid : Prop := Claim7.holds Tryz.pinned (.plain (OpenSpec.upto sourceBytesSpec)) sourceBytesUptoCard

/-- THE SECOND FORM's CARD OF 'linguistlaw14.SourceText'. -/
def sourceTextUptoCard : Claim7 := { stood := { row := sourceTextUptoRow, standIns := [], harness := (true, "6489d96949e0c2bbab39851cf65c4faba9c211b87258686737bc3f50f3e28645"), looks := false }, kinds := [], alts := [], laidByText := true, laidKinds := [.data, .data, .data, .data, .data, .data], laidTests := true, laidLooks := .later }
def SourceTextUptoCardSaid : Prop := Claim7.holds Tryz.pinned (.plain (OpenSpec.upto sourceTextSpec)) sourceTextUptoCard

/-- THE SECOND FORM's CARD OF 'linguistlaw14.SourceTabs'. -/
def sourceTabsUptoCard : Claim7 := { stood := { row := sourceTabsUptoRow, standIns := [], harness := (true, "6489d96949e0c2bbab39851cf65c4faba9c211b87258686737bc3f50f3e28645"), looks := false }, kinds := [], alts := [], laidByText := true, laidKinds := [.data, .data, .data, .data, .data, .data], laidTests := true, laidLooks := .later }
def SourceTabsUptoCardSaid : Prop := Claim7.holds Tryz.pinned (.plain (OpenSpec.upto sourceTabsSpec)) sourceTabsUptoCard

/-- THE SECOND FORM's CARD OF 'linguistlaw14.SourceReset'. -/
def sourceResetUptoCard : Claim7 := { stood := { row := sourceResetUptoRow, standIns := [], harness := (true, "6489d96949e0c2bbab39851cf65c4faba9c211b87258686737bc3f50f3e28645"), looks := false }, kinds := [], alts := [], laidByText := true, laidKinds := [.data, .data, .data, .data, .data, .data], laidTests := true, laidLooks := .later }
def SourceResetUptoCardSaid : Prop := Claim7.holds Tryz.pinned (.plain (OpenSpec.upto sourceResetSpec)) sourceResetUptoCard

/-- THE SECOND FORM's CARD OF 'linguistlaw15.ReplyAll'. -/
def replyAllUptoCard : Claim7 := { stood := { row := replyAllUptoRow, standIns := [], harness := (true, "6489d96949e0c2bbab39851cf65c4faba9c211b87258686737bc3f50f3e28645"), looks := false }, kinds := [], alts := [], laidByText := true, laidKinds := [.data, .data, .data, .data, .data, .data, .data], laidTests := true, laidLooks := .later }
def ReplyAllUptoCardSaid : Prop := Claim7.holds Tryz.pinned (.plain (OpenSpec.upto replyAllSpec)) replyAllUptoCard

/-- THE SECOND FORM's CARD OF 'linguistlaw15.ReplyPlaces'. -/
def replyPlacesUptoCard : Claim7 := { stood := { row := replyPlacesUptoRow, standIns := [], harness := (true, "6489d96949e0c2bbab39851cf65c4faba9c211b87258686737bc3f50f3e28645"), looks := false }, kinds := [], alts := [], laidByText := true, laidKinds := [.data, .data, .data, .data, .data, .data, .data], laidTests := true, laidLooks := .later }
def ReplyPlacesUptoCardSaid : Prop := Claim7.holds Tryz.pinned (.plain (OpenSpec.upto replyPlacesSpec)) replyPlacesUptoCard
end Rows
end Go.Proofs.YtoaabebgmdbjeaaGreatDoor
