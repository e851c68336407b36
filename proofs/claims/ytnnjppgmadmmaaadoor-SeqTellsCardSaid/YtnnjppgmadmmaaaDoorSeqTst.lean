/- A truth that a piece of code has left in a slot. -/
import Derived.Test.YtnnjppgmadmmaaaDoorLib
namespace Go.Proofs.YtnnjppgmadmmaaaDoor
open Go.RowKit
def Tst (p : Prop) (W : World) (u : Value) (wx : World) : Prop := ∃ b : Bool, u = .bool b ∧ Hid (b = true ↔ p) ∧ W = wx
end Go.Proofs.YtnnjppgmadmmaaaDoor
