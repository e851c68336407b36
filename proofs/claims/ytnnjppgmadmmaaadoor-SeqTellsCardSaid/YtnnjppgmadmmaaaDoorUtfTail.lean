/- The contract of tail: the byte that continues a sequence. -/
import Derived.Test.YtnnjppgmadmmaaaDoorUtfSmall
set_option maxRecDepth 100000
namespace Go.Proofs.YtnnjppgmadmmaaaDoor
open Go.RowKit
set_option maxHeartbeats 400000 in
theorem tail_any (r : Int) (w : World) : Calls Tryd.prog 63 #[.int .i32 r] w fun e w' => e = .returned (.int .u8 (U.tl r)) ∧ w = w' := by
  have e1 := i32_mask 6 (by omega) r
  have e2 := u8_join 6 128 (r % 64) (by omega) (by omega) (by omega) (by omega) (by omega)
  have e3 : U.tl r = 128 + r % 64 := rfl
  have e4 : r % 64 % 256 = r % 64 := by omega
  have E := hide (And.intro e1 (And.intro e2 (And.intro e3 e4)))
  clear e1 e2 e3 e4
  go_enter Tryd.func63, Tryd.ntmps63
  go_wp2
  go_ret
  obtain ⟨e1, e2, e3, e4⟩ := E.out
  refine ⟨ret_int_of ?_, rfl⟩
  simp at e1
  rw [e3]
  show bits .or .u8 128 (bits .and .i32 r 63 % 256) = _
  rw [e1, e4, e2]
end Go.Proofs.YtnnjppgmadmmaaaDoor
