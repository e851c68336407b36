/- Package color's two tables as the program lays them, and the contract of RGB. -/
import Derived.Test.YtgkjknjcklnngaaDoorColorSmall
import Derived.Test.YtgkjknjcklnngaaDoorFlat
import Derived.BigQuiet
import Derived.Deep.QuietTactic
namespace Go.Proofs.YtgkjknjcklnngaaDoor
open Go.RowKit
set_option linter.unusedVariables false
def basicCells : Array Value := #[.int .i64 0, .int .i64 13434880, .int .i64 52480, .int .i64 13487360, .int .i64 238, .int .i64 13435085, .int .i64 52685, .int .i64 15066597, .int .i64 8355711, .int .i64 16711680, .int .i64 65280, .int .i64 16776960, .int .i64 6053119, .int .i64 16711935, .int .i64 65535, .int .i64 16777215]
def stepCells : Array Value := #[.int .i64 0, .int .i64 95, .int .i64 135, .int .i64 175, .int .i64 215, .int .i64 255]
/-- the two tables are as the program's text lays them -/
def Tab (w : World) : Prop := (∃ t, w.heap[0]? = some (.cells basicCells t (0, 0))) ∧ ∃ t, w.heap[1]? = some (.cells stepCells t (0, 0))
theorem Tab.lt {w : World} (h : Tab w) : 0 < w.heap.size ∧ 1 < w.heap.size := by
  obtain ⟨⟨t, h⟩, t', h'⟩ := h
  exact ⟨(Array.getElem?_eq_some_iff.1 h).1, (Array.getElem?_eq_some_iff.1 h').1⟩
theorem Tab.keep {w w' : World} (h : Tab w) (hb : Below w.heap.size w w') : Tab w' := by
  have hl := h.lt
  obtain ⟨⟨t, h⟩, t', h'⟩ := h
  exact ⟨⟨t, (hb.block _ hl.1).trans h⟩, t', (hb.block _ hl.2).trans h'⟩
theorem gBasic : Tryd.prog.globalNamed "linguist/color.basic" = some 0 := by kernel_rfl
theorem tBasic : (Tryd.prog.globals[0]?).map (·.type) = some 41 := by kernel_rfl
theorem tilesBasic : tiled Tryd.prog 4 41 = true := by kernel_rfl
theorem flatBasic : flat (H := Unit) Rows.laid_linguist_color_basic = some basicCells.toList := by rfl
theorem gSteps : Tryd.prog.globalNamed "linguist/color.steps" = some 1 := by kernel_rfl
theorem tSteps : (Tryd.prog.globals[1]?).map (·.type) = some 42 := by kernel_rfl
theorem tilesSteps : tiled Tryd.prog 4 42 = true := by kernel_rfl
theorem flatSteps : flat (H := Unit) Rows.laid_linguist_color_steps = some stepCells.toList := by rfl
theorem tab_laid {w : World} {l : List (String × DataW Unit)} (h : laidMet Tryd.prog l w) (hm : ("linguist/color.basic", Rows.laid_linguist_color_basic) ∈ l ∧ ("linguist/color.steps", Rows.laid_linguist_color_steps) ∈ l) : Tab w := by
  obtain ⟨t, ht⟩ := laid_flat_mem 4 gBasic tBasic tilesBasic flatBasic (by simp [basicCells]) h hm.1
  obtain ⟨t', ht'⟩ := laid_flat_mem 4 gSteps tSteps tilesSteps flatSteps (by simp [stepCells]) h hm.2
  exact ⟨⟨t, by simpa using ht⟩, t', by simpa using ht'⟩
/-- what the table of basic colours holds: the parts side by side -/
def baseNum (c : Int) : Int := [0, 13434880, 52480, 13487360, 238, 13435085, 52685, 15066597, 8355711, 16711680, 65280, 16776960, 6053119, 16711935, 65535, 16777215].getD c.toNat 0
theorem Tab.basic {w : World} (h : Tab w) (k : Nat) (hk : k < 16) : w.cell? ⟨0, k, none⟩ = some (.int .i64 (baseNum k)) := by
  obtain ⟨⟨t, h⟩, _⟩ := h
  rw [cell_of_row w _ k _ t (0, 0) h]
  obtain rfl | rfl | rfl | rfl | rfl | rfl | rfl | rfl | rfl | rfl | rfl | rfl | rfl | rfl | rfl | rfl : k = 0 ∨ k = 1 ∨ k = 2 ∨ k = 3 ∨ k = 4 ∨ k = 5 ∨ k = 6 ∨ k = 7 ∨ k = 8 ∨ k = 9 ∨ k = 10 ∨ k = 11 ∨ k = 12 ∨ k = 13 ∨ k = 14 ∨ k = 15 := by omega
  all_goals rfl
theorem Tab.step {w : World} (h : Tab w) (k : Nat) (hk : k < 6) : w.cell? ⟨1, k, none⟩ = some (.int .i64 (CO.stepAt k)) := by
  obtain ⟨_, t, h⟩ := h
  rw [cell_of_row w _ k _ t (0, 0) h]
  obtain rfl | rfl | rfl | rfl | rfl | rfl : k = 0 ∨ k = 1 ∨ k = 2 ∨ k = 3 ∨ k = 4 ∨ k = 5 := by omega
  all_goals rfl
theorem Tab.stepZ {w : World} (h : Tab w) {i : Int} (h0 : 0 ≤ i ∧ i < 6) : w.cell? ⟨1, i.toNat, none⟩ = some (.int .i64 (CO.stepAt i)) := by
  have := h.step i.toNat (by omega)
  rwa [Int.toNat_of_nonneg h0.1] at this
theorem baseNum_parts (c : Nat) (h : c < 16) : 0 ≤ baseNum c ∧ baseNum c < 33554432 ∧ (baseNum c / 65536 % 256, baseNum c / 256 % 256, baseNum c % 256) = CO.baseAt c := by
  obtain rfl | rfl | rfl | rfl | rfl | rfl | rfl | rfl | rfl | rfl | rfl | rfl | rfl | rfl | rfl | rfl : c = 0 ∨ c = 1 ∨ c = 2 ∨ c = 3 ∨ c = 4 ∨ c = 5 ∨ c = 6 ∨ c = 7 ∨ c = 8 ∨ c = 9 ∨ c = 10 ∨ c = 11 ∨ c = 12 ∨ c = 13 ∨ c = 14 ∨ c = 15 := by omega
  all_goals decide
/-- what RGB answers -/
def rgbRes (c : Int) : Value := .tuple #[.int .i64 (CO.rgb c).1, .int .i64 (CO.rgb c).2.1, .int .i64 (CO.rgb c).2.2, .bool (CO.has c)]
theorem rgbRes_is {c r g b : Int} {k : Bool} (h : CO.rgb c = (r, g, b)) (hk : CO.has c = k) : .tuple #[.int .i64 r, .int .i64 g, .int .i64 b, .bool k] = rgbRes c := by
  unfold rgbRes
  rw [h, hk]
theorem has_not {c : Int} (h : c < 0 ∨ (255 < c ∧ c < 16777216) ∨ 33554432 ≤ c) : CO.has c = false := by
  unfold CO.has
  simp
  omega
theorem rgb_none {c : Int} (h : c < 0 ∨ (255 < c ∧ c < 16777216) ∨ 33554432 ≤ c) : CO.rgb c = (0, 0, 0) := by
  unfold CO.rgb
  rw [if_neg (by omega), if_pos (by omega)]
theorem rgb_basic {c : Int} (h0 : 0 ≤ c) (h : c < 16) : CO.rgb c = CO.baseAt c := by
  unfold CO.rgb
  rw [if_neg (by omega), if_neg (by omega), if_pos h]
theorem rgb_cube {c : Int} (h0 : 16 ≤ c) (h : c < 232) : CO.rgb c = (CO.stepAt ((c - 16) / 36), CO.stepAt ((c - 16) / 6 % 6), CO.stepAt ((c - 16) % 6)) := by
  unfold CO.rgb
  rw [if_neg (by omega), if_neg (by omega), if_neg (by omega), if_pos h]
theorem rgb_grey {c : Int} (h0 : 232 ≤ c) (h : c ≤ 255) : CO.rgb c = (8 + 10 * (c - 232), 8 + 10 * (c - 232), 8 + 10 * (c - 232)) := by
  unfold CO.rgb
  rw [if_neg (by omega), if_neg (by omega), if_neg (by omega), if_neg (by omega)]
theorem rgb_direct {c : Int} (h0 : 16777216 ≤ c) (h : c < 33554432) : CO.rgb c = (c / 65536 % 256, c / 256 % 256, c % 256) := by
  unfold CO.rgb
  rw [if_pos ⟨h0, h⟩]
set_option maxHeartbeats 1000000 in
theorem rgb_any (c : Int) (w : World) (ht : Tab w) : Calls Tryd.prog 12 #[.int .i64 c] w fun e w' => e = .returned (rgbRes c) ∧ Below w.heap.size w w' := by
  have hr : ∀ (r g b : Int) (k : Bool), CO.rgb c = (r, g, b) → CO.has c = k → Ending.returned (.tuple #[.int .i64 r, .int .i64 g, .int .i64 b, .bool k]) = .returned (rgbRes c) := fun r g b k h hk => c_val (rgbRes_is h hk)
  have HR := hide hr
  clear hr
  have cs : c < 0 ∨ (0 ≤ c ∧ c < 16) ∨ (16 ≤ c ∧ c < 232) ∨ (232 ≤ c ∧ c < 256) ∨ (256 ≤ c ∧ c < 16777216) ∨ (16777216 ≤ c ∧ c < 33554432) ∨ 33554432 ≤ c := by omega
  rcases cs with h | h | h | h | h | h | h
  · have E := hide (rgb_none (c := c) (by omega))
    have K := hide (has_not (c := c) (by omega))
    go_enter Tryd.func12, Tryd.ntmps12
    go_wp2
    exact bodyPost_ret (v := .tuple #[.int .i64 0, .int .i64 0, .int .i64 0, .bool false]) (by simp [results, Tryd.results12, go_sem]) rfl ⟨HR.out _ _ _ _ E.out K.out, Below.refl _ _⟩
  · obtain ⟨k, rfl⟩ := Int.eq_ofNat_of_zero_le h.1
    have hk : k < 16 := by omega
    obtain ⟨p0, p1, p2⟩ := baseNum_parts k hk
    have hc := ht.basic k hk
    have E := hide (rgb_basic (c := (k : Int)) (by omega) (by omega))
    have K := hide (show CO.has (k : Int) = true from CO.has_iff.2 (.inl ⟨by omega, by omega⟩))
    have P := fun r g b h w' => parts_is (baseNum k) r g b h w' p0 p1
    rcases hq : CO.baseAt (k : Int) with ⟨r, g, b⟩
    rw [hq] at p2
    have Q := hide p2
    have HQ := hide hq
    have HP := hide P
    generalize baseNum (k : Int) = m at hc p0 p1 Q HP
    clear p2 hq P
    go_enter Tryd.func12, Tryd.ntmps12
    go_wp2_with fail
    refine (HP.out r g b Q.out _).mono ?_
    rintro e w' ⟨rfl, rfl⟩
    go_wp2_with fail
    exact bodyPost_ret (v := .tuple #[.int .i64 r, .int .i64 g, .int .i64 b, .bool true]) (by simp [results, Tryd.results12, go_sem]) rfl ⟨HR.out _ _ _ _ (E.out.trans HQ.out) K.out, Below.refl _ _⟩
  · have h36 : 0 ≤ (c - 16) / 36 ∧ (c - 16) / 36 < 6 := by omega
    have h6 : 0 ≤ (c - 16) / 6 % 6 ∧ (c - 16) / 6 % 6 < 6 := by omega
    have h1 : 0 ≤ (c - 16) % 6 ∧ (c - 16) % 6 < 6 := by omega
    have s36 := ht.stepZ h36
    have s6 := ht.stepZ h6
    have s1 := ht.stepZ h1
    have E0 := rgb_cube h.1 h.2
    generalize CO.stepAt ((c - 16) / 36) = x at s36 E0
    generalize CO.stepAt ((c - 16) / 6 % 6) = y at s6 E0
    generalize CO.stepAt ((c - 16) % 6) = z at s1 E0
    have E := hide E0
    have K := hide (show CO.has c = true from CO.has_iff.2 (.inl ⟨by omega, by omega⟩))
    clear E0
    go_enter Tryd.func12, Tryd.ntmps12
    go_wp2_with fail
    go_quiet (fail)
    go_wp2_with fail
    exact bodyPost_ret (v := .tuple #[.int .i64 x, .int .i64 y, .int .i64 z, .bool true]) (by simp [results, Tryd.results12, go_sem]) rfl ⟨HR.out _ _ _ _ E.out K.out, below_drewN (Below.refl _ _) _⟩
  · have E := hide (rgb_grey (c := c) (by omega) (by omega))
    have K := hide (show CO.has c = true from CO.has_iff.2 (.inl ⟨by omega, by omega⟩))
    go_enter Tryd.func12, Tryd.ntmps12
    go_wp2_with fail
    exact bodyPost_ret (v := .tuple #[.int .i64 (8 + 10 * (c - 232)), .int .i64 (8 + 10 * (c - 232)), .int .i64 (8 + 10 * (c - 232)), .bool true]) (by simp [results, Tryd.results12, go_sem]) rfl ⟨HR.out _ _ _ _ E.out K.out, Below.refl _ _⟩
  · have E := hide (rgb_none (c := c) (by omega))
    have K := hide (has_not (c := c) (by omega))
    go_enter Tryd.func12, Tryd.ntmps12
    go_wp2
    exact bodyPost_ret (v := .tuple #[.int .i64 0, .int .i64 0, .int .i64 0, .bool false]) (by simp [results, Tryd.results12, go_sem]) rfl ⟨HR.out _ _ _ _ E.out K.out, Below.refl _ _⟩
  · have E := hide (rgb_direct h.1 h.2)
    have K := hide (show CO.has c = true from CO.has_iff.2 (.inr h))
    have P := fun w' => parts_any c w' (by omega) h.2
    generalize c / 65536 % 256 = x at P E
    generalize c / 256 % 256 = y at P E
    generalize c % 256 = z at P E
    have HP := hide P
    clear P
    go_enter Tryd.func12, Tryd.ntmps12
    go_wp2_with fail
    refine (HP.out _).mono ?_
    rintro e w' ⟨rfl, rfl⟩
    go_wp2_with fail
    exact bodyPost_ret (v := .tuple #[.int .i64 x, .int .i64 y, .int .i64 z, .bool true]) (by simp [results, Tryd.results12, go_sem]) rfl ⟨HR.out _ _ _ _ E.out K.out, Below.refl _ _⟩
  · have E := hide (rgb_none (c := c) (by omega))
    have K := hide (has_not (c := c) (by omega))
    go_enter Tryd.func12, Tryd.ntmps12
    go_wp2
    exact bodyPost_ret (v := .tuple #[.int .i64 0, .int .i64 0, .int .i64 0, .bool false]) (by simp [results, Tryd.results12, go_sem]) rfl ⟨HR.out _ _ _ _ E.out K.out, Below.refl _ _⟩
theorem rgb_is (c r g b : Int) (k : Bool) (h : CO.rgb c = (r, g, b)) (hk : CO.has c = k) (w : World) (ht : Tab w) : Calls Tryd.prog 12 #[.int .i64 c] w fun e w' => e = .returned (.tuple #[.int .i64 r, .int .i64 g, .int .i64 b, .bool k]) ∧ Below w.heap.size w w' := by
  rw [rgbRes_is h hk]
  exact rgb_any c w ht
end Go.Proofs.YtgkjknjcklnngaaDoor
