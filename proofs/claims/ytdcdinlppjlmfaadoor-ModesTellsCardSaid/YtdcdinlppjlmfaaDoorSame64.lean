/- linguistbook's Same, of lists of numbers that are the same: true; it only draws. -/
import Derived.Test.YtdcdinlppjlmfaaDoorLib
import Derived.Test.YtdcdinlppjlmfaaDoorRows
import Derived.BigQuiet
import Derived.Deep.QuietTactic
import Derived.WalkSpells
import Derived.WalkLawsBesides
set_option maxRecDepth 100000
namespace Go.Proofs.YtdcdinlppjlmfaaDoor
open Go.RowKit
set_option linter.unusedVariables false
set_option maxHeartbeats 400000 in
theorem same_i64 (zs : List Int) (A A' : Option Addr) (B B' n c m c' : Nat) (w : World) (hx : Seen w B A n (zs.map (.int .i64))) (hy : Seen w B' A' m (zs.map (.int .i64))) (hn : n ≤ 1099511627776) :
    Calls Tryd.prog 10 #[.slice A n c, .slice A' m c'] w fun e w' => e = .returned (.bool true) ∧ ∃ q, w.drewN q = w' := by
  have e1 : zs.length = n := by simpa using hx.1
  have e2 : zs.length = m := by simpa using hy.1
  subst e1
  obtain rfl := e2
  generalize hN : zs.length = n at *
  have HX := hide hx
  have HY := hide hy
  clear hx hy hN
  go_enter Tryd.func10, Tryd.ntmps10
  go_wp2
  go_loopw [5] (fun i wr => ∃ k q : Nat, k ≤ n ∧ i = .int .i64 k ∧ wr = w.drewN q) (fun i _ => n - (intOf i).toNat)
  case atStart => exact ⟨0, 0, Nat.zero_le _, rfl, rfl⟩
  case round =>
    obtain ⟨k, q, hk, rfl, rfl⟩ := hrel
    by_cases hlt : k < n
    · obtain ⟨ad, u, rfl, _, hu, hc⟩ := HX.out.at_ hlt
      obtain ⟨ad', u', rfl, _, hu', hc'⟩ := HY.out.at_ hlt
      rw [hu] at hu'
      obtain rfl := Option.some.inj hu'
      rw [List.getElem?_map] at hu
      obtain ⟨z, _, rfl⟩ := Option.map_eq_some_iff.1 hu
      clear hu hu'
      go_wp2_with fail
      go_quiet (fail)
      go_wp2
      go_roundw
      case rel => exact ⟨k + 1, _, by omega, by go_num, rfl⟩
      case measure => simp [intOf]; omega
    · go_wp2
      go_ret
      exact ⟨rfl, q, rfl⟩
end Go.Proofs.YtdcdinlppjlmfaaDoor
