/-
  DERIVED. GIVEN WITH THE SEED: THE CARDS: each row of YtboegggoeemfdaaDoorRows.lean that lists a variable, with what it lists TIED to the program's text (the seventh form; the later family's looks); each row that meets fmt, with fmt's text TOLD by the authors' own Lean function (tested against real Go, not proved from fmt's source: count such statements apart). THE CARD IS WHAT COUNTS. Prove the row's statement (the work); the ties are given (YtboegggoeemfdaaDoorTie.lean); close each card by the builder's one call (the guide's Derived/Test/ToyasCard.lean, 'card_holds'). Laid BY PROGRAM, IN A SANDBOX (cutbox-door.mjs). By AI agents, Wed Nov 11 2026. No macro, syntax, notation, axiom, sorry.
-/
import Derived.Test.YtboegggoeemfdaaDoorRows
import GoSem.ClaimSeven
namespace Go.Proofs.YtboegggoeemfdaaDoor
namespace Rows

/-- THE TIED CARD OF 'linguistlaw9.TabsRuns'. -/
def tabsRunsCard : Claim7 := { stood := { row := tabsRunsRow, standIns := [], harness := (true, "99653a8450dd929d284fd1ed02d7d91e9333e01c3d3963e37ab5855dd6fded67"), looks := false }, kinds := [], alts := [], laidByText := true, laidKinds := [.data], laidTests := true, laidLooks := .later }
def TabsRunsCardSaid : Prop := Claim7.holds Tryd.pinned (.plain (OpenSpec.ofChange tabsRunsSpec)) tabsRunsCard

/-- THE TIED CARD OF 'linguistlaw9.TabsTells'. -/
def tabsTellsCard : Claim7 := { stood := { row := tabsTellsRow, standIns := [], harness := (true, "99653a8450dd929d284fd1ed02d7d91e9333e01c3d3963e37ab5855dd6fded67"), looks := false }, kinds := [], alts := [], laidByText := true, laidKinds := [.data], laidTests := true, laidLooks := .later }
def TabsTellsCardSaid : Prop := Claim7.holds Tryd.pinned (.plain (OpenSpec.ofChange tabsTellsSpec)) tabsTellsCard

/-- THE TIED CARD OF 'linguistlaw9.TabsWalk'. -/
def tabsWalkCard : Claim7 := { stood := { row := tabsWalkRow, standIns := [], harness := (true, "99653a8450dd929d284fd1ed02d7d91e9333e01c3d3963e37ab5855dd6fded67"), looks := false }, kinds := [], alts := [], laidByText := true, laidKinds := [.data], laidTests := true, laidLooks := .later }
def TabsWalkCardSaid : Prop := Claim7.holds Tryd.pinned (.plain (OpenSpec.ofChange tabsWalkSpec)) tabsWalkCard

/-- THE TIED CARD OF 'linguistlaw9.TabsBits'. -/
def tabsBitsCard : Claim7 := { stood := { row := tabsBitsRow, standIns := [], harness := (true, "99653a8450dd929d284fd1ed02d7d91e9333e01c3d3963e37ab5855dd6fded67"), looks := false }, kinds := [], alts := [], laidByText := true, laidKinds := [.data], laidTests := true, laidLooks := .later }
def TabsBitsCardSaid : Prop := Claim7.holds Tryd.pinned (.plain (OpenSpec.ofChange tabsBitsSpec)) tabsBitsCard

/-- THE TIED CARD OF 'linguistlaw9.TabsEnds'. -/
def tabsEndsCard : Claim7 := { stood := { row := tabsEndsRow, standIns := [], harness := (true, "99653a8450dd929d284fd1ed02d7d91e9333e01c3d3963e37ab5855dd6fded67"), looks := false }, kinds := [], alts := [], laidByText := true, laidKinds := [.data], laidTests := true, laidLooks := .later }
def TabsEndsCardSaid : Prop := Claim7.holds Tryd.pinned (.plain (OpenSpec.ofChange tabsEndsSpec)) tabsEndsCard

/-- THE SECOND FORM's CARD OF 'linguistlaw9.TabsRuns'. -/
def tabsRunsUptoCard : Claim7 := { stood := { row := tabsRunsUptoRow, standIns := [], harness := (true, "99653a8450dd929d284fd1ed02d7d91e9333e01c3d3963e37ab5855dd6fded67"), looks := false }, kinds := [], alts := [], laidByText := true, laidKinds := [.data], laidTests := true, laidLooks := .later }
def TabsRunsUptoCardSaid : Prop := Claim7.holds Tryd.pinned (.plain (OpenSpec.upto tabsRunsSpec)) tabsRunsUptoCard

/-- THE SECOND FORM's CARD OF 'linguistlaw9.TabsTells'. -/
def tabsTellsUptoCard : Claim7 := { stood := { row := tabsTellsUptoRow, standIns := [], harness := (true, "99653a8450dd929d284fd1ed02d7d91e9333e01c3d3963e37ab5855dd6fded67"), looks := false }, kinds := [], alts := [], laidByText := true, laidKinds := [.data], laidTests := true, laidLooks := .later }
def TabsTellsUptoCardSaid : Prop := Claim7.holds Tryd.pinned (.plain (OpenSpec.upto tabsTellsSpec)) tabsTellsUptoCard

/-- THE SECOND FORM's CARD OF 'linguistlaw9.TabsWalk'. -/
def tabsWalkUptoCard : Claim7 := { stood := { row := tabsWalkUptoRow, standIns := [], harness := (true, "99653a8450dd929d284fd1ed02d7d91e9333e01c3d3963e37ab5855dd6fded67"), looks := false }, kinds := [], alts := [], laidByText := true, laidKinds := [.data], laidTests := true, laidLooks := .later }
def TabsWalkUptoCardSaid : Prop := Claim7.holds Tryd.pinned (.plain (OpenSpec.upto tabsWalkSpec)) tabsWalkUptoCard

/-- THE SECOND FORM's CARD OF 'linguistlaw9.TabsBits'. -/
def tabsBitsUptoCard : Claim7 := { stood := { row := tabsBitsUptoRow, standIns := [], harness := (true, "99653a8450dd929d284fd1ed02d7d91e9333e01c3d3963e37ab5855dd6fded67"), looks := false }, kinds := [], alts := [], laidByText := true, laidKinds := [.data], laidTests := true, laidLooks := .later }
def TabsBitsUptoCardSaid : Prop := Claim7.holds Tryd.pinned (.plain (OpenSpec.upto tabsBitsSpec)) tabsBitsUptoCard

/-- THE SECOND FORM's CARD OF 'linguistlaw9.TabsEnds'. -/
def tabsEndsUptoCard : Claim7 := { stood := { row := tabsEndsUptoRow, standIns := [], harness := (true, "99653a8450dd929d284fd1ed02d7d91e9333e01c3d3963e37ab5855dd6fded67"), looks := false }, kinds := [], alts := [], laidByText := true, laidKinds := [.data], laidTests := true, laidLooks := .later }
def TabsEndsUptoCardSaid : Prop := Claim7.holds Tryd.pinned (.plain (OpenSpec.upto tabsEndsSpec)) tabsEndsUptoCard
end Rows
end Go.Proofs.YtboegggoeemfdaaDoor
