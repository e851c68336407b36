/- The contracts of the document's own RGB (P3.1). -/
import Derived.Test.YtgkjknjcklnngaaDoorColorFar
import Derived.Deep.DeepCutAuto
namespace Go.Proofs.YtgkjknjcklnngaaDoor
open Go.RowKit
set_option linter.unusedVariables false
def refBase : Array Value := #[.int .i64 0, .int .i64 0, .int .i64 0, .int .i64 205, .int .i64 0, .int .i64 0, .int .i64 0, .int .i64 205, .int .i64 0, .int .i64 205, .int .i64 205, .int .i64 0, .int .i64 0, .int .i64 0, .int .i64 238, .int .i64 205, .int .i64 0, .int .i64 205, .int .i64 0, .int .i64 205, .int .i64 205, .int .i64 229, .int .i64 229, .int .i64 229, .int .i64 127, .int .i64 127, .int .i64 127, .int .i64 255, .int .i64 0, .int .i64 0, .int .i64 0, .int .i64 255, .int .i64 0, .int .i64 255, .int .i64 255, .int .i64 0, .int .i64 92, .int .i64 92, .int .i64 255, .int .i64 255, .int .i64 0, .int .i64 255, .int .i64 0, .int .i64 255, .int .i64 255, .int .i64 255, .int .i64 255, .int .i64 255]
theorem refBase_at {w : World} {g : Nat} (h : Box w g 43 refBase) (k : Nat) (hk : k < 16) : w.cell? ⟨g, k * 3, none⟩ = some (.int .i64 (CO.baseAt k).1) ∧ w.cell? ⟨g, k * 3 + 1, none⟩ = some (.int .i64 (CO.baseAt k).2.1) ∧ w.cell? ⟨g, k * 3 + 2, none⟩ = some (.int .i64 (CO.baseAt k).2.2) := by
  rw [h.cell, h.cell, h.cell]
  obtain rfl | rfl | rfl | rfl | rfl | rfl | rfl | rfl | rfl | rfl | rfl | rfl | rfl | rfl | rfl | rfl : k = 0 ∨ k = 1 ∨ k = 2 ∨ k = 3 ∨ k = 4 ∨ k = 5 ∨ k = 6 ∨ k = 7 ∨ k = 8 ∨ k = 9 ∨ k = 10 ∨ k = 11 ∨ k = 12 ∨ k = 13 ∨ k = 14 ∨ k = 15 := by omega
  all_goals exact ⟨rfl, rfl, rfl⟩
theorem refStep_at {w : World} {g : Nat} (h : Box w g 3 stepCells) {i : Int} (h0 : 0 ≤ i ∧ i < 6) : w.cell? ⟨g, i.toNat, none⟩ = some (.int .i64 (CO.stepAt i)) := by
  rw [h.cell]
  obtain ⟨k, rfl⟩ := Int.eq_ofNat_of_zero_le h0.1
  rw [Int.toNat_natCast]
  obtain rfl | rfl | rfl | rfl | rfl | rfl : k = 0 ∨ k = 1 ∨ k = 2 ∨ k = 3 ∨ k = 4 ∨ k = 5 := by omega
  all_goals rfl
set_option maxHeartbeats 1000000 in
theorem refRgb_any (c : Int) (w : World) : Calls Tryd.prog 13 #[.int .i64 c] w fun e w' => e = .returned (rgbRes c) ∧ Below w.heap.size w w' := by
  have hr : ∀ (r g b : Int) (k : Bool), CO.rgb c = (r, g, b) → CO.has c = k → Ending.returned (.tuple #[.int .i64 r, .int .i64 g, .int .i64 b, .bool k]) = .returned (rgbRes c) := fun r g b k h hk => c_val (rgbRes_is h hk)
  have HR := hide hr
  clear hr
  by_cases hd : 16777216 ≤ c ∧ c < 33554432
  · have E := hide (rgb_direct hd.1 hd.2)
    have K := hide (show CO.has c = true from CO.has_iff.2 (.inr hd))
    go_enter Tryd.func13, Tryd.ntmps13
    go_wp2_with fail
    exact bodyPost_ret (v := .tuple #[.int .i64 (c / 65536 % 256), .int .i64 (c / 256 % 256), .int .i64 (c % 256), .bool true]) (by simp [results, Tryd.results13, go_sem]) rfl ⟨HR.out _ _ _ _ E.out K.out, Below.refl _ _⟩
  have hn : (decide (16777216 ≤ c) && decide (c < 33554432)) = false := by simp; omega
  have hc : c < 16777216 ∨ 33554432 ≤ c := by omega
  clear hd
  rcases hc with hc | hc
  · go_enter Tryd.func13, Tryd.ntmps13
    go_upto_region 3 with fail
    go_cut [6] from 24 to 40 (fun p wx => p = .slice (some ⟨w.heap.size, 0, none⟩) 16 16 ∧ Box wx w.heap.size 43 refBase ∧ Below w.heap.size w wx ∧ wx.heap.size = w.heap.size + 1)
    case first =>
      go_wp2_with fail
      go_meet
      exact ⟨rfl, Box.new w _ _, (Below.refl _ _).alloc (Nat.le_refl _) _, by simp⟩
    case rest =>
      obtain ⟨rfl, hb, bel, hsz⟩ := hcut
      go_upto_region 4 with fail
      go_cut [7] from 41 to 41 (fun p wx => p = .slice (some ⟨w.heap.size + 1, 0, none⟩) 6 6 ∧ Box wx w.heap.size 43 refBase ∧ Box wx (w.heap.size + 1) 3 stepCells ∧ Below w.heap.size w wx)
      case first =>
        go_wp2_with fail
        go_meet
        exact ⟨rfl, hb.alloc _, Box.fresh (by omega), bel.alloc bel.size _⟩
      case rest =>
        clear hb bel hsz
        obtain ⟨rfl, hb, hs, bel⟩ := hcut
        have cs : c < 0 ∨ 255 < c ∨ (0 ≤ c ∧ c < 16) ∨ (16 ≤ c ∧ c < 232) ∨ (232 ≤ c ∧ c ≤ 255) := by omega
        rcases cs with h | h | h | h | h
        · have E := hide (rgb_none (c := c) (by omega))
          have K := hide (has_not (c := c) (by omega))
          go_wp2_with fail
          exact bodyPost_ret (v := .tuple #[.int .i64 0, .int .i64 0, .int .i64 0, .bool false]) (by simp [results, Tryd.results13, go_sem]) rfl ⟨HR.out _ _ _ _ E.out K.out, bel⟩
        · have E := hide (rgb_none (c := c) (by omega))
          have K := hide (has_not (c := c) (by omega))
          go_wp2_with fail
          exact bodyPost_ret (v := .tuple #[.int .i64 0, .int .i64 0, .int .i64 0, .bool false]) (by simp [results, Tryd.results13, go_sem]) rfl ⟨HR.out _ _ _ _ E.out K.out, bel⟩
        · obtain ⟨k, rfl⟩ := Int.eq_ofNat_of_zero_le h.1
          obtain ⟨k0, k1, k2⟩ := refBase_at hb k (by omega)
          have E0 := rgb_basic (c := (k : Int)) (by omega) (by omega)
          have K := hide (show CO.has (k : Int) = true from CO.has_iff.2 (.inl ⟨by omega, by omega⟩))
          have q : (decide ((k : Int) < 0) || decide (255 < (k : Int))) = false := by simp; omega
          rcases hq : CO.baseAt (k : Int) with ⟨r, g, b⟩
          rw [hq] at k0 k1 k2 E0
          simp only at k0 k1 k2
          have E := hide E0
          clear E0 hq
          go_wp2_with fail
          go_quiet (fail)
          go_wp2_with fail
          exact bodyPost_ret (v := .tuple #[.int .i64 r, .int .i64 g, .int .i64 b, .bool true]) (by simp [results, Tryd.results13, go_sem]) rfl ⟨HR.out _ _ _ _ E.out K.out, below_drewN bel _⟩
        · have h36 : 0 ≤ (c - 16) / 36 ∧ (c - 16) / 36 < 6 := by omega
          have h6 : 0 ≤ (c - 16) / 6 % 6 ∧ (c - 16) / 6 % 6 < 6 := by omega
          have h1 : 0 ≤ (c - 16) % 6 ∧ (c - 16) % 6 < 6 := by omega
          have s36 := refStep_at hs h36
          have s6 := refStep_at hs h6
          have s1 := refStep_at hs h1
          have E0 := rgb_cube h.1 h.2
          generalize CO.stepAt ((c - 16) / 36) = x at s36 E0
          generalize CO.stepAt ((c - 16) / 6 % 6) = y at s6 E0
          generalize CO.stepAt ((c - 16) % 6) = z at s1 E0
          have E := hide E0
          have K := hide (show CO.has c = true from CO.has_iff.2 (.inl ⟨by omega, by omega⟩))
          have q : (decide (c < 0) || decide (255 < c)) = false := by simp; omega
          clear E0
          go_wp2_with fail
          go_quiet (fail)
          go_wp2_with fail
          exact bodyPost_ret (v := .tuple #[.int .i64 x, .int .i64 y, .int .i64 z, .bool true]) (by simp [results, Tryd.results13, go_sem]) rfl ⟨HR.out _ _ _ _ E.out K.out, below_drewN bel _⟩
        · have E := hide (rgb_grey (c := c) (by omega) (by omega))
          have K := hide (show CO.has c = true from CO.has_iff.2 (.inl ⟨by omega, by omega⟩))
          have q : (decide (c < 0) || decide (255 < c)) = false := by simp; omega
          go_wp2_with fail
          exact bodyPost_ret (v := .tuple #[.int .i64 (8 + 10 * (c - 232)), .int .i64 (8 + 10 * (c - 232)), .int .i64 (8 + 10 * (c - 232)), .bool true]) (by simp [results, Tryd.results13, go_sem]) rfl ⟨HR.out _ _ _ _ E.out K.out, bel⟩
  · go_enter Tryd.func13, Tryd.ntmps13
    go_upto_region 3 with fail
    go_cut [6] from 24 to 40 (fun p wx => p = .slice (some ⟨w.heap.size, 0, none⟩) 16 16 ∧ Below w.heap.size w wx)
    case first =>
      go_wp2_with fail
      go_meet
      exact ⟨rfl, (Below.refl _ _).alloc (Nat.le_refl _) _⟩
    case rest =>
      obtain ⟨rfl, bel⟩ := hcut
      have E := hide (rgb_none (c := c) (by omega))
      have K := hide (has_not (c := c) (by omega))
      go_wp2_with fail
      exact bodyPost_ret (v := .tuple #[.int .i64 0, .int .i64 0, .int .i64 0, .bool false]) (by simp [results, Tryd.results13, go_sem]) rfl ⟨HR.out _ _ _ _ E.out K.out, bel.alloc bel.size _⟩
theorem refRgb_is (c r g b : Int) (k : Bool) (h : CO.rgb c = (r, g, b)) (hk : CO.has c = k) (w : World) : Calls Tryd.prog 13 #[.int .i64 c] w fun e w' => e = .returned (.tuple #[.int .i64 r, .int .i64 g, .int .i64 b, .bool k]) ∧ Below w.heap.size w w' := by
  rw [rgbRes_is h hk]
  exact refRgb_any c w
end Go.Proofs.YtgkjknjcklnngaaDoor
