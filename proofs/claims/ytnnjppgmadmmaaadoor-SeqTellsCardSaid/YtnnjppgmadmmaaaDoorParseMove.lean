/- The contract of moveOf: what a byte does in a state, and the state that follows. -/
import Derived.Test.YtnnjppgmadmmaaaDoorParseTab
import Derived.Test.YtnnjppgmadmmaaaDoorInReg
import Derived.Deep.RegionHeld3
set_option maxRecDepth 100000
namespace Go.Proofs.YtnnjppgmadmmaaaDoor
open Go.RowKit
set_option linter.unusedVariables false
theorem and15 (b : Int) (h0 : 0 ≤ b) (h1 : b < 256) : bits .and .u8 b 15 = b % 16 :=
  U.byAll (p := fun b => bits .and .u8 b 15 = b % 16) (by decide +kernel) b h0 h1
theorem andNot15 (b : Int) (h0 : 0 ≤ b) (h1 : b < 256) : bits .andNot .u8 b 15 = b - b % 16 :=
  U.byAll (p := fun b => bits .andNot .u8 b 15 = b - b % 16) (by decide +kernel) b h0 h1
theorem c_two {k : IntKind} {a b a' b' : Int} (h : a = a') (h' : b = b') : Ending.returned (.tuple #[.int k a, .int k b]) = .returned (.tuple #[.int k a', .int k b']) := by rw [h, h']
set_option maxHeartbeats 2000000 in
theorem moveOf_any (st b : Int) (w : World) (s0 : 1 ≤ st) (s1 : st ≤ 12) (h0 : 0 ≤ b) (h1 : b < 256) (hs : Tabs w) :
    Calls Tryd.prog 51 #[.int .u8 st, .int .u8 b] w fun e w' => e = .returned (.tuple #[.int .u8 (PA.act st b), .int .u8 (PA.nxt st b)]) ∧ Below w.heap.size w w' := by
  have CC := hide (fun w' h => classOf_any b w' h0 h1 h)
  have cb := PA.cls_bd b h0 h1
  have mb := PA.mv_bd st b s0 s1 h0 h1
  have lt : 0 < w.heap.size := by have := hs.lt; omega
  have MC := move_cell hs st (PA.cls b) (by omega) (by omega) cb.1 cb.2
  rw [show PA.cellAt st (PA.cls b) = PA.mv st b from rfl] at MC
  have EA := hide (show PA.mv st b - PA.mv st b % 16 = PA.act st b from rfl)
  have EN := hide (show PA.nxt st b = if PA.mv st b % 16 = 0 then st else PA.mv st b % 16 from rfl)
  have a1 := and15 _ mb.1 mb.2
  have a2 := andNot15 _ mb.1 mb.2
  generalize PA.act st b = ac at EA ⊢
  generalize PA.nxt st b = nx at EN ⊢
  generalize PA.mv st b = m at mb MC EA EN a1 a2
  generalize PA.cls b = c at CC cb MC
  have HS := hide hs
  have R0 : ∀ w', InReg w w' → w'.cell? ⟨0, st.toNat * 16 + c.toNat, none⟩ = some (.int .u8 m) := fun w' h => (h.cell (by simpa using lt)).trans MC
  have hd : InReg w w.drew := (Below.refl _ _).drew
  have s2 : 0 ≤ st := by omega
  have s3 : st < 13 := by omega
  have c0 := cb.1
  have c1 := cb.2
  have cs : (m % 16 == 0) = true ∧ nx = st ∨ (m % 16 == 0) = false ∧ nx = m % 16 := by
    have := EN.out
    by_cases h : m % 16 = 0
    · rw [if_pos h] at this
      exact .inl ⟨by simpa using h, this⟩
    · rw [if_neg h] at this
      exact .inr ⟨by simpa using h, this⟩
  clear MC hs EN cb
  rcases cs with ⟨h, e⟩ | ⟨h, e⟩
  all_goals
    have E := hide e
    clear e
    go_enter Tryd.func51, Tryd.ntmps51
    go_wp2_with fail
    go_region_held3 (fun w' => InReg w w')
      (first | with_reducible exact hd | with_reducible exact hC.out)
      (first | (go_at_call 56; refine (CC.out _ (HS.out.keep (show InReg w _ from by assumption))).mono ?_; rintro e wC ⟨rfl, bb⟩; have hC := Lib.hid (InReg.call (by assumption) bb)))
    go_wp2_with fail
    go_ret2
    exact ⟨c_two EA.out E.out.symm, show InReg w _ from by assumption⟩
end Go.Proofs.YtnnjppgmadmmaaaDoor
