/- linguistbook's Same, of rows of cells that are the same: true; it only draws. -/
import Derived.Test.YtfeapcneebofjaaDoorGridMem
import Derived.Test.YtfeapcneebofjaaDoorRows
import Derived.BigQuiet
import Derived.Deep.QuietTactic
import Derived.WalkSpells
import Derived.WalkLawsBesides
set_option maxRecDepth 100000
namespace Go.Proofs.YtfeapcneebofjaaDoor
open Go.RowKit
set_option linter.unusedVariables false
set_option maxHeartbeats 1000000 in
theorem same_cells (l : List PG.Cl) (A A' : Option Addr) (B B' n c m c' : Nat) (w : World) (hx : SeenC w B A n l) (hy : SeenC w B' A' m l) (hn : n ≤ 1099511627776) :
    Calls Tryd.prog 23 #[.slice A n c, .slice A' m c'] w fun e w' => e = .returned (.bool true) ∧ ∃ q, w.drewN q = w' := by
  have e1 := hx.len
  have e2 := hy.len
  subst e1
  obtain rfl := e2
  generalize hN : l.length = n at *
  have HX := hide hx
  have HY := hide hy
  clear hx hy
  go_enter Tryd.func23, Tryd.ntmps23
  go_wp2
  go_loopw [5] (fun i wr => ∃ k q : Nat, k ≤ n ∧ i = .int .i64 k ∧ wr = w.drewN q) (fun i _ => n - (intOf i).toNat)
  case atStart => exact ⟨0, 0, Nat.zero_le _, rfl, rfl⟩
  case round =>
    obtain ⟨k, q, hk, rfl, rfl⟩ := hrel
    by_cases hlt : k < n
    · have hck : l[k]? = some l[k] := List.getElem?_eq_getElem (by omega)
      generalize l[k] = cc at hck
      obtain ⟨ad, rfl, _, d0, d1, d2, d3, d4⟩ := HX.out.five hck
      obtain ⟨ad', rfl, _, n0, n1, n2, n3, n4⟩ := HY.out.five hck
      generalize PG.rn cc = x0 at *
      generalize PG.kd cc = x1 at *
      generalize (PG.pn cc).1 = x2 at *
      generalize (PG.pn cc).2.1 = x3 at *
      generalize (PG.pn cc).2.2 = x4 at *
      clear hck
      go_wp2_with fail
      go_quiet (fail)
      go_wp2
      go_roundw
      case rel => exact ⟨k + 1, _, by omega, by go_num, rfl⟩
      case measure => simp [intOf]; omega
    · go_wp2
      go_ret
      exact ⟨rfl, q, rfl⟩
end Go.Proofs.YtfeapcneebofjaaDoor
