/- linguistbook's Same, of rows of cells that are the same: true; it only draws. linguistlaw7's own same, of grids that are the same: true. linguistkeep's pick. -/
import Derived.Test.YtcbmjdacdjcggaaDoorGridMem
import Derived.Test.YtcbmjdacdjcggaaDoorRows
import Derived.BigQuiet
import Derived.Deep.QuietTactic
import Derived.WalkSpells
import Derived.WalkLawsBesides
import Derived.Test.YtcbmjdacdjcggaaDoorGridRef
import Derived.Test.YtcbmjdacdjcggaaDoorLists
import Derived.Test.YtcbmjdacdjcggaaDoorGridList
set_option maxRecDepth 100000
namespace Go.Proofs.YtcbmjdacdjcggaaDoor
open Go.RowKit
set_option linter.unusedVariables false
set_option maxHeartbeats 1000000 in
theorem same_cells (l : List PG.Cl) (A A' : Option Addr) (B B' n c m c' : Nat) (w : World) (hx : SeenC w B A n l) (hy : SeenC w B' A' m l) (hn : n ≤ 1099511627776) :
    Calls Tryd.prog 25 #[.slice A n c, .slice A' m c'] w fun e w' => e = .returned (.bool true) ∧ ∃ q, w.drewN q = w' := by
  have e1 := hx.len
  have e2 := hy.len
  subst e1
  obtain rfl := e2
  generalize hN : l.length = n at *
  have HX := hide hx
  have HY := hide hy
  clear hx hy
  go_enter Tryd.func25, Tryd.ntmps25
  go_wp2
  go_loopw [5] (fun i wr => ∃ k q : Nat, k ≤ n ∧ i = .int .i64 k ∧ wr = w.drewN q) (fun i _ => n - (intOf i).toNat)
  case atStart => exact ⟨0, 0, Nat.zero_le _, rfl, rfl⟩
  case round =>
    obtain ⟨k, q, hk, rfl, rfl⟩ := hrel
    by_cases hlt : k < n
    · have hck : l[k]? = some l[k] := List.getElem?_eq_getElem (by omega)
      generalize l[k] = cc at hck
      obtain ⟨ad, rfl, _, d0, d1, d2, d3, d4⟩ := HX.out.five hck
      obtain ⟨ad', rfl, _, n0, n1, n2, n3, n4⟩ := HY.out.five hck
      generalize PG.rn cc = x0 at *
      generalize PG.kd cc = x1 at *
      generalize (PG.pn cc).1 = x2 at *
      generalize (PG.pn cc).2.1 = x3 at *
      generalize (PG.pn cc).2.2 = x4 at *
      clear hck
      go_wp2_with fail
      go_quiet (fail)
      go_wp2
      go_roundw
      case rel => exact ⟨k + 1, _, by omega, by go_num, rfl⟩
      case measure => simp [intOf]; omega
    · go_wp2
      go_ret
      exact ⟨rfl, q, rfl⟩
end Go.Proofs.YtcbmjdacdjcggaaDoor
namespace Go.Proofs.YtcbmjdacdjcggaaDoor
open Go.RowKit
set_option linter.unusedVariables false
set_option maxHeartbeats 1000000 in
theorem pick_any (l : List Int) (A : Option Addr) (B n c i : Nat) (w : World) (hx : Seen w B A n (l.map (Value.int .i64))) (hn : n ≤ 1099511627776) (hi : i ≤ 1099511627776) :
    Calls Tryd.prog 38 #[.slice A n c, .int .i64 i] w fun e w' => e = .returned (.int .i64 (PG.pick l i)) ∧ w = w' := by
  have hlen : l.length = n := by simpa using hx.1
  by_cases h0 : n < 1
  · have hr : PG.pick l i = 0 := by
      unfold PG.pick
      rw [if_pos (List.eq_nil_of_length_eq_zero (by omega))]
    obtain rfl : n = 0 := by omega
    have hr := hide hr
    clear hx hlen h0
    go_enter Tryd.func38, Tryd.ntmps38
    go_wp2_with fail
    go_ret
    exact ⟨by rw [hr.out]; rfl, rfl⟩
  · have hk : i % n < n := Nat.mod_lt _ (by omega)
    obtain ⟨ad, u, rfl, _, hu, hc⟩ := hx.at_ hk
    rw [List.getElem?_map] at hu
    obtain ⟨z, hz, rfl⟩ := Option.map_eq_some_iff.1 hu
    have hr : PG.pick l i = z := by
      unfold PG.pick
      rw [if_neg (fun e => by subst e; simp at hlen; omega), hlen, List.getD_eq_getElem?_getD, hz]
      rfl
    have hm : (i : Int).tmod (n : Int) = ((i % n : Nat) : Int) := (Int.ofNat_tmod i n).symm
    have hne : ((n : Int) == 0) = false := by simp; omega
    have hr := hide hr
    clear hu hz hx hlen
    generalize i % n = j at *
    go_enter Tryd.func38, Tryd.ntmps38
    go_wp2_with fail
    go_ret
    exact ⟨by rw [hr.out]; rfl, rfl⟩
end Go.Proofs.YtcbmjdacdjcggaaDoor
