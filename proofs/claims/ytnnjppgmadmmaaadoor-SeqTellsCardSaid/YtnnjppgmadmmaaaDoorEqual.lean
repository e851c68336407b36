/- slices.Equal at int, linguistbook's Same at int and at byte: do they tell whether two lists of numbers are the same; they only draw. -/
import Derived.Test.YtnnjppgmadmmaaaDoorParseMem
import Derived.Test.YtnnjppgmadmmaaaDoorEnds
import Derived.BigQuiet
import Derived.Deep.QuietTactic
import Derived.WalkSpells
import Derived.WalkLawsBesides
set_option maxRecDepth 100000
namespace Go.Proofs.YtnnjppgmadmmaaaDoor
open Go.RowKit
set_option linter.unusedVariables false
theorem drewN_two (w : World) (a b : Nat) : w.drewN (a + b) = (w.drewN a).drewN b := by
  unfold World.drewN
  simp [Nat.add_assoc]
theorem take_more {l l' : List Int} {k : Nat} {x : Int} (h : l.take k = l'.take k) (h1 : l[k]? = some x) (h2 : l'[k]? = some x) : l.take (k + 1) = l'.take (k + 1) := by
  rw [List.take_add_one, List.take_add_one, h, h1, h2]
theorem take_part {l l' : List Int} {k : Nat} {x y : Int} (h1 : l[k]? = some x) (h2 : l'[k]? = some y) (hne : x ≠ y) : l ≠ l' := fun e => by
  subst e
  rw [h1] at h2
  exact hne (Option.some.inj h2)
set_option maxHeartbeats 1000000 in
theorem equal_i64 (l l' : List Int) (A A' : Option Addr) (B B' n c m c' : Nat) (w : World) (hx : Seen w B A n (l.map (.int .i64))) (hy : Seen w B' A' m (l'.map (.int .i64))) (hn : n ≤ 1099511627776) :
    Calls Tryd.prog 28 #[.slice A n c, .slice A' m c'] w fun e w' => e = .returned (.bool (decide (l = l'))) ∧ ∃ q, w.drewN q = w' := by
  have e1 : l.length = n := by simpa using hx.1
  have e2 : l'.length = m := by simpa using hy.1
  by_cases hnm : n = m
  · subst hnm
    have HX := hide hx
    have HY := hide hy
    have HL := hide (And.intro e1 e2)
    clear hx hy e1 e2
    go_enter Tryd.func28, Tryd.ntmps28
    go_wp2
    go_loopw [13] (fun i wr => ∃ k q : Nat, k ≤ n ∧ i = .int .i64 k ∧ wr = w.drewN q ∧ Hid (l.take k = l'.take k)) (fun i _ => n - (intOf i).toNat)
    case atStart => exact ⟨0, 0, Nat.zero_le _, rfl, rfl, hide (by simp)⟩
    case round =>
      obtain ⟨k, q, hk, rfl, rfl, HT⟩ := hrel
      by_cases hlt : k < n
      · obtain ⟨ad, u, rfl, _, hu, hc⟩ := HX.out.at_ hlt
        obtain ⟨ad', u', rfl, _, hu', hc'⟩ := HY.out.at_ hlt
        rw [List.getElem?_map] at hu hu'
        obtain ⟨x, hx1, rfl⟩ := Option.map_eq_some_iff.1 hu
        obtain ⟨y, hy1, rfl⟩ := Option.map_eq_some_iff.1 hu'
        clear hu hu'
        by_cases hxy : x = y
        · subst hxy
          have HT2 := hide (take_more HT.out hx1 hy1)
          clear hx1 hy1
          go_wp2_with fail
          go_quiet (fail)
          go_wp2
          go_roundw
          case rel => exact ⟨k + 1, _, by omega, by go_num, rfl, HT2⟩
          case measure => simp [intOf]; omega
        · have hd : (x != y) = true := by simpa using hxy
          have HN := hide (decide_eq_false (take_part hx1 hy1 hxy))
          clear hx1 hy1 hxy
          go_wp2_with fail
          go_quiet (fail)
          go_wp2
          go_ret
          exact ⟨c_bool HN.out.symm, _, drewN_two w q nq⟩
      · obtain rfl : k = n := by omega
        have HE := hide (decide_eq_true (show l = l' by
          have := HT.out
          rwa [List.take_of_length_le (by rw [HL.out.1]; omega), List.take_of_length_le (by rw [HL.out.2]; omega)] at this))
        go_wp2
        go_ret
        exact ⟨c_bool HE.out.symm, q, rfl⟩
  · have HN := hide (decide_eq_false (show l ≠ l' from fun e => hnm (by rw [← e1, ← e2, e])))
    have hd : ((n : Int) != (m : Int)) = true := by simp; omega
    clear hx hy e1 e2 hnm
    go_enter Tryd.func28, Tryd.ntmps28
    go_wp2
    go_ret
    exact ⟨c_bool HN.out.symm, 0, rfl⟩
set_option maxHeartbeats 1000000 in
theorem sameB_i64 (l l' : List Int) (A A' : Option Addr) (B B' n c m c' : Nat) (w : World) (hx : Seen w B A n (l.map (.int .i64))) (hy : Seen w B' A' m (l'.map (.int .i64))) (hn : n ≤ 1099511627776) :
    Calls Tryd.prog 24 #[.slice A n c, .slice A' m c'] w fun e w' => e = .returned (.bool (decide (l = l'))) ∧ ∃ q, w.drewN q = w' := by
  have e1 : l.length = n := by simpa using hx.1
  have e2 : l'.length = m := by simpa using hy.1
  by_cases hnm : n = m
  · subst hnm
    have HX := hide hx
    have HY := hide hy
    have HL := hide (And.intro e1 e2)
    clear hx hy e1 e2
    go_enter Tryd.func24, Tryd.ntmps24
    go_wp2
    go_loopw [5] (fun i wr => ∃ k q : Nat, k ≤ n ∧ i = .int .i64 k ∧ wr = w.drewN q ∧ Hid (l.take k = l'.take k)) (fun i _ => n - (intOf i).toNat)
    case atStart => exact ⟨0, 0, Nat.zero_le _, rfl, rfl, hide (by simp)⟩
    case round =>
      obtain ⟨k, q, hk, rfl, rfl, HT⟩ := hrel
      by_cases hlt : k < n
      · obtain ⟨ad, u, rfl, _, hu, hc⟩ := HX.out.at_ hlt
        obtain ⟨ad', u', rfl, _, hu', hc'⟩ := HY.out.at_ hlt
        rw [List.getElem?_map] at hu hu'
        obtain ⟨x, hx1, rfl⟩ := Option.map_eq_some_iff.1 hu
        obtain ⟨y, hy1, rfl⟩ := Option.map_eq_some_iff.1 hu'
        clear hu hu'
        by_cases hxy : x = y
        · subst hxy
          have HT2 := hide (take_more HT.out hx1 hy1)
          clear hx1 hy1
          go_wp2_with fail
          go_quiet (fail)
          go_wp2
          go_roundw
          case rel => exact ⟨k + 1, _, by omega, by go_num, rfl, HT2⟩
          case measure => simp [intOf]; omega
        · have hd : (x != y) = true := by simpa using hxy
          have HN := hide (decide_eq_false (take_part hx1 hy1 hxy))
          clear hx1 hy1 hxy
          go_wp2_with fail
          go_quiet (fail)
          go_wp2
          go_ret
          exact ⟨c_bool HN.out.symm, _, drewN_two w q nq⟩
      · obtain rfl : k = n := by omega
        have HE := hide (decide_eq_true (show l = l' by
          have := HT.out
          rwa [List.take_of_length_le (by rw [HL.out.1]; omega), List.take_of_length_le (by rw [HL.out.2]; omega)] at this))
        go_wp2
        go_ret
        exact ⟨c_bool HE.out.symm, q, rfl⟩
  · have HN := hide (decide_eq_false (show l ≠ l' from fun e => hnm (by rw [← e1, ← e2, e])))
    have hd : ((n : Int) != (m : Int)) = true := by simp; omega
    clear hx hy e1 e2 hnm
    go_enter Tryd.func24, Tryd.ntmps24
    go_wp2
    go_ret
    exact ⟨c_bool HN.out.symm, 0, rfl⟩
set_option maxHeartbeats 1000000 in
theorem sameB_u8 (l l' : List Int) (A A' : Option Addr) (B B' n c m c' : Nat) (w : World) (hx : Seen w B A n (l.map (.int .u8))) (hy : Seen w B' A' m (l'.map (.int .u8))) (hn : n ≤ 1099511627776) :
    Calls Tryd.prog 22 #[.slice A n c, .slice A' m c'] w fun e w' => e = .returned (.bool (decide (l = l'))) ∧ ∃ q, w.drewN q = w' := by
  have e1 : l.length = n := by simpa using hx.1
  have e2 : l'.length = m := by simpa using hy.1
  by_cases hnm : n = m
  · subst hnm
    have HX := hide hx
    have HY := hide hy
    have HL := hide (And.intro e1 e2)
    clear hx hy e1 e2
    go_enter Tryd.func22, Tryd.ntmps22
    go_wp2
    go_loopw [5] (fun i wr => ∃ k q : Nat, k ≤ n ∧ i = .int .i64 k ∧ wr = w.drewN q ∧ Hid (l.take k = l'.take k)) (fun i _ => n - (intOf i).toNat)
    case atStart => exact ⟨0, 0, Nat.zero_le _, rfl, rfl, hide (by simp)⟩
    case round =>
      obtain ⟨k, q, hk, rfl, rfl, HT⟩ := hrel
      by_cases hlt : k < n
      · obtain ⟨ad, u, rfl, _, hu, hc⟩ := HX.out.at_ hlt
        obtain ⟨ad', u', rfl, _, hu', hc'⟩ := HY.out.at_ hlt
        rw [List.getElem?_map] at hu hu'
        obtain ⟨x, hx1, rfl⟩ := Option.map_eq_some_iff.1 hu
        obtain ⟨y, hy1, rfl⟩ := Option.map_eq_some_iff.1 hu'
        clear hu hu'
        by_cases hxy : x = y
        · subst hxy
          have HT2 := hide (take_more HT.out hx1 hy1)
          clear hx1 hy1
          go_wp2_with fail
          go_quiet (fail)
          go_wp2
          go_roundw
          case rel => exact ⟨k + 1, _, by omega, by go_num, rfl, HT2⟩
          case measure => simp [intOf]; omega
        · have hd : (x != y) = true := by simpa using hxy
          have HN := hide (decide_eq_false (take_part hx1 hy1 hxy))
          clear hx1 hy1 hxy
          go_wp2_with fail
          go_quiet (fail)
          go_wp2
          go_ret
          exact ⟨c_bool HN.out.symm, _, drewN_two w q nq⟩
      · obtain rfl : k = n := by omega
        have HE := hide (decide_eq_true (show l = l' by
          have := HT.out
          rwa [List.take_of_length_le (by rw [HL.out.1]; omega), List.take_of_length_le (by rw [HL.out.2]; omega)] at this))
        go_wp2
        go_ret
        exact ⟨c_bool HE.out.symm, q, rfl⟩
  · have HN := hide (decide_eq_false (show l ≠ l' from fun e => hnm (by rw [← e1, ← e2, e])))
    have hd : ((n : Int) != (m : Int)) = true := by simp; omega
    clear hx hy e1 e2 hnm
    go_enter Tryd.func22, Tryd.ntmps22
    go_wp2
    go_ret
    exact ⟨c_bool HN.out.symm, 0, rfl⟩
end Go.Proofs.YtnnjppgmadmmaaaDoor
