/- The contracts of the document's own Width and RightPen (P2.1, P2.2). -/
import Derived.Test.YtdcdinlppjlmfaaDoorCellWidth
set_option maxRecDepth 100000
namespace Go.Proofs.YtdcdinlppjlmfaaDoor
open Go.RowKit
set_option linter.unusedVariables false
def wideCells : Array Value := #[.int .i64 4352, .int .i64 4447, .int .i64 11904, .int .i64 42191, .int .i64 44032, .int .i64 55203, .int .i64 63744, .int .i64 64255, .int .i64 65072, .int .i64 65135, .int .i64 65280, .int .i64 65376, .int .i64 65504, .int .i64 65510, .int .i64 127744, .int .i64 129791, .int .i64 131072, .int .i64 262141]
set_option maxHeartbeats 400000 in
theorem refWide_any (w : World) : Calls Tryd.prog 70 #[] w fun e w' => e = .returned (.slice (some ⟨w.heap.size, 0, none⟩) 9 9) ∧ w.alloc (.cells wideCells 99) = w' := by
  unfold wideCells
  go_enter Tryd.func70, Tryd.ntmps70
  go_wp2
  go_ret
  exact ⟨rfl, rfl⟩
def widesFrom (k : Nat) : List (Int × Int) := C.wides.drop k
theorem wides0 : widesFrom 0 = (4352, 4447) :: widesFrom 1 := rfl
theorem wides1 : widesFrom 1 = (11904, 42191) :: widesFrom 2 := rfl
theorem wides2 : widesFrom 2 = (44032, 55203) :: widesFrom 3 := rfl
theorem wides3 : widesFrom 3 = (63744, 64255) :: widesFrom 4 := rfl
theorem wides4 : widesFrom 4 = (65072, 65135) :: widesFrom 5 := rfl
theorem wides5 : widesFrom 5 = (65280, 65376) :: widesFrom 6 := rfl
theorem wides6 : widesFrom 6 = (65504, 65510) :: widesFrom 7 := rfl
theorem wides7 : widesFrom 7 = (127744, 129791) :: widesFrom 8 := rfl
theorem wides8 : widesFrom 8 = (131072, 262141) :: widesFrom 9 := rfl
theorem wides9 (x : Int) : C.isWide (widesFrom 9) x = 1 := rfl
set_option maxHeartbeats 4000000 in
theorem refWidth_any (r : Int) (w : World) (hr0 : -2147483648 ≤ r) (hr1 : r ≤ 2147483647) :
    Calls Tryd.prog 43 #[.int .i32 r] w fun e w' => e = .returned (.int .i64 (C.width r)) ∧ Below w.heap.size w w' := by
  rw [C.width_ref]
  have HE : ∀ x : Int, x = C.refWidth r → Ending.returned (.int .i64 x) = .returned (.int .i64 (C.refWidth r)) := fun x h => c_int h
  have HR := Lib.hid HE
  clear HE
  have cs : (r < 32 ∨ (127 ≤ r ∧ r < 160) ∨ (768 ≤ r ∧ r ≤ 879) ∨ (55296 ≤ r ∧ r ≤ 57343) ∨ 1114111 < r) ∨ ((32 ≤ r ∧ r < 127) ∨ (160 ≤ r ∧ r < 768) ∨ (879 < r ∧ r < 55296) ∨ (57343 < r ∧ r ≤ 1114111)) := by omega
  rcases cs with cs | cs
  · have HN : 0 = C.refWidth r := by unfold C.refWidth; rw [if_pos (show C.narrow r from by unfold C.narrow; omega)]
    have HN := Lib.hid HN
    rcases cs with h | h | h | h | h
    all_goals
      go_enter Tryd.func43, Tryd.ntmps43
      go_wp2
      go_ret
      exact ⟨HR.out _ HN.out, Below.refl _ _⟩
  have hw : C.refWidth r = C.isWide (widesFrom 0) r := by
    unfold C.refWidth
    rw [if_neg (show ¬ C.narrow r from by unfold C.narrow; omega)]
    rfl
  have HW := Lib.hid hw
  clear hw
  rcases cs with h | h | h | h
  · have cw := refWide_any
    go_enter Tryd.func43, Tryd.ntmps43
    go_wp2_with (go_at_call 70; refine (cw _).mono ?_; rintro e w' ⟨rfl, rfl⟩)
    go_loopw [40] (fun i wr => ∃ k : Nat, k ≤ 9 ∧ i = .int .i64 k ∧ C.isWide (widesFrom k) r = C.refWidth r ∧ Box wr w.heap.size 99 wideCells ∧ Below w.heap.size w wr) (fun i _ => 9 - (intOf i).toNat)
    case atStart => exact ⟨0, by omega, rfl, HW.out.symm, Box.new w _ _, (Below.refl _ _).alloc (Nat.le_refl _) _⟩
    case round =>
      obtain ⟨k, hk, rfl, hf, hb, hbel⟩ := hrel
      have hsz := hbel.size
      have HF := hide hf
      clear hf cw
      obtain hlt | rfl : k < 9 ∨ k = 9 := by omega
      · obtain rfl | rfl | rfl | rfl | rfl | rfl | rfl | rfl | rfl : k = 0 ∨ k = 1 ∨ k = 2 ∨ k = 3 ∨ k = 4 ∨ k = 5 ∨ k = 6 ∨ k = 7 ∨ k = 8 := by omega
        · have c0 := hb.cell 0
          have c1 := hb.cell 1
          simp [wideCells] at c0 c1
          have ha : r < 4352 := by omega
          go_wp2
          go_roundw
          case rel => exact ⟨1, by omega, by go_num, by rw [← HF.out, wides0, C.isWide_out (by omega)], hb.alloc _, hbel.alloc hsz _⟩
          case measure => simp [intOf]
        · have c0 := hb.cell 2
          have c1 := hb.cell 3
          simp [wideCells] at c0 c1
          have ha : r < 11904 := by omega
          go_wp2
          go_roundw
          case rel => exact ⟨2, by omega, by go_num, by rw [← HF.out, wides1, C.isWide_out (by omega)], hb.alloc _, hbel.alloc hsz _⟩
          case measure => simp [intOf]
        · have c0 := hb.cell 4
          have c1 := hb.cell 5
          simp [wideCells] at c0 c1
          have ha : r < 44032 := by omega
          go_wp2
          go_roundw
          case rel => exact ⟨3, by omega, by go_num, by rw [← HF.out, wides2, C.isWide_out (by omega)], hb.alloc _, hbel.alloc hsz _⟩
          case measure => simp [intOf]
        · have c0 := hb.cell 6
          have c1 := hb.cell 7
          simp [wideCells] at c0 c1
          have ha : r < 63744 := by omega
          go_wp2
          go_roundw
          case rel => exact ⟨4, by omega, by go_num, by rw [← HF.out, wides3, C.isWide_out (by omega)], hb.alloc _, hbel.alloc hsz _⟩
          case measure => simp [intOf]
        · have c0 := hb.cell 8
          have c1 := hb.cell 9
          simp [wideCells] at c0 c1
          have ha : r < 65072 := by omega
          go_wp2
          go_roundw
          case rel => exact ⟨5, by omega, by go_num, by rw [← HF.out, wides4, C.isWide_out (by omega)], hb.alloc _, hbel.alloc hsz _⟩
          case measure => simp [intOf]
        · have c0 := hb.cell 10
          have c1 := hb.cell 11
          simp [wideCells] at c0 c1
          have ha : r < 65280 := by omega
          go_wp2
          go_roundw
          case rel => exact ⟨6, by omega, by go_num, by rw [← HF.out, wides5, C.isWide_out (by omega)], hb.alloc _, hbel.alloc hsz _⟩
          case measure => simp [intOf]
        · have c0 := hb.cell 12
          have c1 := hb.cell 13
          simp [wideCells] at c0 c1
          have ha : r < 65504 := by omega
          go_wp2
          go_roundw
          case rel => exact ⟨7, by omega, by go_num, by rw [← HF.out, wides6, C.isWide_out (by omega)], hb.alloc _, hbel.alloc hsz _⟩
          case measure => simp [intOf]
        · have c0 := hb.cell 14
          have c1 := hb.cell 15
          simp [wideCells] at c0 c1
          have ha : r < 127744 := by omega
          go_wp2
          go_roundw
          case rel => exact ⟨8, by omega, by go_num, by rw [← HF.out, wides7, C.isWide_out (by omega)], hb.alloc _, hbel.alloc hsz _⟩
          case measure => simp [intOf]
        · have c0 := hb.cell 16
          have c1 := hb.cell 17
          simp [wideCells] at c0 c1
          have ha : r < 131072 := by omega
          go_wp2
          go_roundw
          case rel => exact ⟨9, by omega, by go_num, by rw [← HF.out, wides8, C.isWide_out (by omega)], hb.alloc _, hbel.alloc hsz _⟩
          case measure => simp [intOf]
      · go_wp2
        go_ret
        exact ⟨HR.out _ (by rw [← HF.out, wides9]), hbel⟩
  · have cw := refWide_any
    go_enter Tryd.func43, Tryd.ntmps43
    go_wp2_with (go_at_call 70; refine (cw _).mono ?_; rintro e w' ⟨rfl, rfl⟩)
    go_loopw [40] (fun i wr => ∃ k : Nat, k ≤ 9 ∧ i = .int .i64 k ∧ C.isWide (widesFrom k) r = C.refWidth r ∧ Box wr w.heap.size 99 wideCells ∧ Below w.heap.size w wr) (fun i _ => 9 - (intOf i).toNat)
    case atStart => exact ⟨0, by omega, rfl, HW.out.symm, Box.new w _ _, (Below.refl _ _).alloc (Nat.le_refl _) _⟩
    case round =>
      obtain ⟨k, hk, rfl, hf, hb, hbel⟩ := hrel
      have hsz := hbel.size
      have HF := hide hf
      clear hf cw
      obtain hlt | rfl : k < 9 ∨ k = 9 := by omega
      · obtain rfl | rfl | rfl | rfl | rfl | rfl | rfl | rfl | rfl : k = 0 ∨ k = 1 ∨ k = 2 ∨ k = 3 ∨ k = 4 ∨ k = 5 ∨ k = 6 ∨ k = 7 ∨ k = 8 := by omega
        · have c0 := hb.cell 0
          have c1 := hb.cell 1
          simp [wideCells] at c0 c1
          have ha : r < 4352 := by omega
          go_wp2
          go_roundw
          case rel => exact ⟨1, by omega, by go_num, by rw [← HF.out, wides0, C.isWide_out (by omega)], hb.alloc _, hbel.alloc hsz _⟩
          case measure => simp [intOf]
        · have c0 := hb.cell 2
          have c1 := hb.cell 3
          simp [wideCells] at c0 c1
          have ha : r < 11904 := by omega
          go_wp2
          go_roundw
          case rel => exact ⟨2, by omega, by go_num, by rw [← HF.out, wides1, C.isWide_out (by omega)], hb.alloc _, hbel.alloc hsz _⟩
          case measure => simp [intOf]
        · have c0 := hb.cell 4
          have c1 := hb.cell 5
          simp [wideCells] at c0 c1
          have ha : r < 44032 := by omega
          go_wp2
          go_roundw
          case rel => exact ⟨3, by omega, by go_num, by rw [← HF.out, wides2, C.isWide_out (by omega)], hb.alloc _, hbel.alloc hsz _⟩
          case measure => simp [intOf]
        · have c0 := hb.cell 6
          have c1 := hb.cell 7
          simp [wideCells] at c0 c1
          have ha : r < 63744 := by omega
          go_wp2
          go_roundw
          case rel => exact ⟨4, by omega, by go_num, by rw [← HF.out, wides3, C.isWide_out (by omega)], hb.alloc _, hbel.alloc hsz _⟩
          case measure => simp [intOf]
        · have c0 := hb.cell 8
          have c1 := hb.cell 9
          simp [wideCells] at c0 c1
          have ha : r < 65072 := by omega
          go_wp2
          go_roundw
          case rel => exact ⟨5, by omega, by go_num, by rw [← HF.out, wides4, C.isWide_out (by omega)], hb.alloc _, hbel.alloc hsz _⟩
          case measure => simp [intOf]
        · have c0 := hb.cell 10
          have c1 := hb.cell 11
          simp [wideCells] at c0 c1
          have ha : r < 65280 := by omega
          go_wp2
          go_roundw
          case rel => exact ⟨6, by omega, by go_num, by rw [← HF.out, wides5, C.isWide_out (by omega)], hb.alloc _, hbel.alloc hsz _⟩
          case measure => simp [intOf]
        · have c0 := hb.cell 12
          have c1 := hb.cell 13
          simp [wideCells] at c0 c1
          have ha : r < 65504 := by omega
          go_wp2
          go_roundw
          case rel => exact ⟨7, by omega, by go_num, by rw [← HF.out, wides6, C.isWide_out (by omega)], hb.alloc _, hbel.alloc hsz _⟩
          case measure => simp [intOf]
        · have c0 := hb.cell 14
          have c1 := hb.cell 15
          simp [wideCells] at c0 c1
          have ha : r < 127744 := by omega
          go_wp2
          go_roundw
          case rel => exact ⟨8, by omega, by go_num, by rw [← HF.out, wides7, C.isWide_out (by omega)], hb.alloc _, hbel.alloc hsz _⟩
          case measure => simp [intOf]
        · have c0 := hb.cell 16
          have c1 := hb.cell 17
          simp [wideCells] at c0 c1
          have ha : r < 131072 := by omega
          go_wp2
          go_roundw
          case rel => exact ⟨9, by omega, by go_num, by rw [← HF.out, wides8, C.isWide_out (by omega)], hb.alloc _, hbel.alloc hsz _⟩
          case measure => simp [intOf]
      · go_wp2
        go_ret
        exact ⟨HR.out _ (by rw [← HF.out, wides9]), hbel⟩
  · have cw := refWide_any
    go_enter Tryd.func43, Tryd.ntmps43
    go_wp2_with (go_at_call 70; refine (cw _).mono ?_; rintro e w' ⟨rfl, rfl⟩)
    go_loopw [40] (fun i wr => ∃ k : Nat, k ≤ 9 ∧ i = .int .i64 k ∧ C.isWide (widesFrom k) r = C.refWidth r ∧ Box wr w.heap.size 99 wideCells ∧ Below w.heap.size w wr) (fun i _ => 9 - (intOf i).toNat)
    case atStart => exact ⟨0, by omega, rfl, HW.out.symm, Box.new w _ _, (Below.refl _ _).alloc (Nat.le_refl _) _⟩
    case round =>
      obtain ⟨k, hk, rfl, hf, hb, hbel⟩ := hrel
      have hsz := hbel.size
      have HF := hide hf
      clear hf cw
      obtain hlt | rfl : k < 9 ∨ k = 9 := by omega
      · obtain rfl | rfl | rfl | rfl | rfl | rfl | rfl | rfl | rfl : k = 0 ∨ k = 1 ∨ k = 2 ∨ k = 3 ∨ k = 4 ∨ k = 5 ∨ k = 6 ∨ k = 7 ∨ k = 8 := by omega
        · have c0 := hb.cell 0
          have c1 := hb.cell 1
          simp [wideCells] at c0 c1
          by_cases ha : r < 4352
          · go_wp2
            go_roundw
            case rel => exact ⟨1, by omega, by go_num, by rw [← HF.out, wides0, C.isWide_out (by omega)], hb.alloc _, hbel.alloc hsz _⟩
            case measure => simp [intOf]
          by_cases hb1 : 4447 < r
          · go_wp2
            go_roundw
            case rel => exact ⟨1, by omega, by go_num, by rw [← HF.out, wides0, C.isWide_out (by omega)], hb.alloc _, hbel.alloc hsz _⟩
            case measure => simp [intOf]
          · go_wp2
            go_ret
            exact ⟨HR.out _ (by rw [← HF.out, wides0, C.isWide_in (by omega)]), hbel.alloc hsz _⟩
        · have c0 := hb.cell 2
          have c1 := hb.cell 3
          simp [wideCells] at c0 c1
          by_cases ha : r < 11904
          · go_wp2
            go_roundw
            case rel => exact ⟨2, by omega, by go_num, by rw [← HF.out, wides1, C.isWide_out (by omega)], hb.alloc _, hbel.alloc hsz _⟩
            case measure => simp [intOf]
          by_cases hb1 : 42191 < r
          · go_wp2
            go_roundw
            case rel => exact ⟨2, by omega, by go_num, by rw [← HF.out, wides1, C.isWide_out (by omega)], hb.alloc _, hbel.alloc hsz _⟩
            case measure => simp [intOf]
          · go_wp2
            go_ret
            exact ⟨HR.out _ (by rw [← HF.out, wides1, C.isWide_in (by omega)]), hbel.alloc hsz _⟩
        · have c0 := hb.cell 4
          have c1 := hb.cell 5
          simp [wideCells] at c0 c1
          by_cases ha : r < 44032
          · go_wp2
            go_roundw
            case rel => exact ⟨3, by omega, by go_num, by rw [← HF.out, wides2, C.isWide_out (by omega)], hb.alloc _, hbel.alloc hsz _⟩
            case measure => simp [intOf]
          by_cases hb1 : 55203 < r
          · go_wp2
            go_roundw
            case rel => exact ⟨3, by omega, by go_num, by rw [← HF.out, wides2, C.isWide_out (by omega)], hb.alloc _, hbel.alloc hsz _⟩
            case measure => simp [intOf]
          · go_wp2
            go_ret
            exact ⟨HR.out _ (by rw [← HF.out, wides2, C.isWide_in (by omega)]), hbel.alloc hsz _⟩
        · have c0 := hb.cell 6
          have c1 := hb.cell 7
          simp [wideCells] at c0 c1
          have ha : r < 63744 := by omega
          go_wp2
          go_roundw
          case rel => exact ⟨4, by omega, by go_num, by rw [← HF.out, wides3, C.isWide_out (by omega)], hb.alloc _, hbel.alloc hsz _⟩
          case measure => simp [intOf]
        · have c0 := hb.cell 8
          have c1 := hb.cell 9
          simp [wideCells] at c0 c1
          have ha : r < 65072 := by omega
          go_wp2
          go_roundw
          case rel => exact ⟨5, by omega, by go_num, by rw [← HF.out, wides4, C.isWide_out (by omega)], hb.alloc _, hbel.alloc hsz _⟩
          case measure => simp [intOf]
        · have c0 := hb.cell 10
          have c1 := hb.cell 11
          simp [wideCells] at c0 c1
          have ha : r < 65280 := by omega
          go_wp2
          go_roundw
          case rel => exact ⟨6, by omega, by go_num, by rw [← HF.out, wides5, C.isWide_out (by omega)], hb.alloc _, hbel.alloc hsz _⟩
          case measure => simp [intOf]
        · have c0 := hb.cell 12
          have c1 := hb.cell 13
          simp [wideCells] at c0 c1
          have ha : r < 65504 := by omega
          go_wp2
          go_roundw
          case rel => exact ⟨7, by omega, by go_num, by rw [← HF.out, wides6, C.isWide_out (by omega)], hb.alloc _, hbel.alloc hsz _⟩
          case measure => simp [intOf]
        · have c0 := hb.cell 14
          have c1 := hb.cell 15
          simp [wideCells] at c0 c1
          have ha : r < 127744 := by omega
          go_wp2
          go_roundw
          case rel => exact ⟨8, by omega, by go_num, by rw [← HF.out, wides7, C.isWide_out (by omega)], hb.alloc _, hbel.alloc hsz _⟩
          case measure => simp [intOf]
        · have c0 := hb.cell 16
          have c1 := hb.cell 17
          simp [wideCells] at c0 c1
          have ha : r < 131072 := by omega
          go_wp2
          go_roundw
          case rel => exact ⟨9, by omega, by go_num, by rw [← HF.out, wides8, C.isWide_out (by omega)], hb.alloc _, hbel.alloc hsz _⟩
          case measure => simp [intOf]
      · go_wp2
        go_ret
        exact ⟨HR.out _ (by rw [← HF.out, wides9]), hbel⟩
  · have cw := refWide_any
    go_enter Tryd.func43, Tryd.ntmps43
    go_wp2_with (go_at_call 70; refine (cw _).mono ?_; rintro e w' ⟨rfl, rfl⟩)
    go_loopw [40] (fun i wr => ∃ k : Nat, k ≤ 9 ∧ i = .int .i64 k ∧ C.isWide (widesFrom k) r = C.refWidth r ∧ Box wr w.heap.size 99 wideCells ∧ Below w.heap.size w wr) (fun i _ => 9 - (intOf i).toNat)
    case atStart => exact ⟨0, by omega, rfl, HW.out.symm, Box.new w _ _, (Below.refl _ _).alloc (Nat.le_refl _) _⟩
    case round =>
      obtain ⟨k, hk, rfl, hf, hb, hbel⟩ := hrel
      have hsz := hbel.size
      have HF := hide hf
      clear hf cw
      obtain hlt | rfl : k < 9 ∨ k = 9 := by omega
      · obtain rfl | rfl | rfl | rfl | rfl | rfl | rfl | rfl | rfl : k = 0 ∨ k = 1 ∨ k = 2 ∨ k = 3 ∨ k = 4 ∨ k = 5 ∨ k = 6 ∨ k = 7 ∨ k = 8 := by omega
        · have c0 := hb.cell 0
          have c1 := hb.cell 1
          simp [wideCells] at c0 c1
          have ha : ¬ r < 4352 := by omega
          have hb1 : 4447 < r := by omega
          go_wp2
          go_roundw
          case rel => exact ⟨1, by omega, by go_num, by rw [← HF.out, wides0, C.isWide_out (by omega)], hb.alloc _, hbel.alloc hsz _⟩
          case measure => simp [intOf]
        · have c0 := hb.cell 2
          have c1 := hb.cell 3
          simp [wideCells] at c0 c1
          have ha : ¬ r < 11904 := by omega
          have hb1 : 42191 < r := by omega
          go_wp2
          go_roundw
          case rel => exact ⟨2, by omega, by go_num, by rw [← HF.out, wides1, C.isWide_out (by omega)], hb.alloc _, hbel.alloc hsz _⟩
          case measure => simp [intOf]
        · have c0 := hb.cell 4
          have c1 := hb.cell 5
          simp [wideCells] at c0 c1
          have ha : ¬ r < 44032 := by omega
          have hb1 : 55203 < r := by omega
          go_wp2
          go_roundw
          case rel => exact ⟨3, by omega, by go_num, by rw [← HF.out, wides2, C.isWide_out (by omega)], hb.alloc _, hbel.alloc hsz _⟩
          case measure => simp [intOf]
        · have c0 := hb.cell 6
          have c1 := hb.cell 7
          simp [wideCells] at c0 c1
          by_cases ha : r < 63744
          · go_wp2
            go_roundw
            case rel => exact ⟨4, by omega, by go_num, by rw [← HF.out, wides3, C.isWide_out (by omega)], hb.alloc _, hbel.alloc hsz _⟩
            case measure => simp [intOf]
          by_cases hb1 : 64255 < r
          · go_wp2
            go_roundw
            case rel => exact ⟨4, by omega, by go_num, by rw [← HF.out, wides3, C.isWide_out (by omega)], hb.alloc _, hbel.alloc hsz _⟩
            case measure => simp [intOf]
          · go_wp2
            go_ret
            exact ⟨HR.out _ (by rw [← HF.out, wides3, C.isWide_in (by omega)]), hbel.alloc hsz _⟩
        · have c0 := hb.cell 8
          have c1 := hb.cell 9
          simp [wideCells] at c0 c1
          by_cases ha : r < 65072
          · go_wp2
            go_roundw
            case rel => exact ⟨5, by omega, by go_num, by rw [← HF.out, wides4, C.isWide_out (by omega)], hb.alloc _, hbel.alloc hsz _⟩
            case measure => simp [intOf]
          by_cases hb1 : 65135 < r
          · go_wp2
            go_roundw
            case rel => exact ⟨5, by omega, by go_num, by rw [← HF.out, wides4, C.isWide_out (by omega)], hb.alloc _, hbel.alloc hsz _⟩
            case measure => simp [intOf]
          · go_wp2
            go_ret
            exact ⟨HR.out _ (by rw [← HF.out, wides4, C.isWide_in (by omega)]), hbel.alloc hsz _⟩
        · have c0 := hb.cell 10
          have c1 := hb.cell 11
          simp [wideCells] at c0 c1
          by_cases ha : r < 65280
          · go_wp2
            go_roundw
            case rel => exact ⟨6, by omega, by go_num, by rw [← HF.out, wides5, C.isWide_out (by omega)], hb.alloc _, hbel.alloc hsz _⟩
            case measure => simp [intOf]
          by_cases hb1 : 65376 < r
          · go_wp2
            go_roundw
            case rel => exact ⟨6, by omega, by go_num, by rw [← HF.out, wides5, C.isWide_out (by omega)], hb.alloc _, hbel.alloc hsz _⟩
            case measure => simp [intOf]
          · go_wp2
            go_ret
            exact ⟨HR.out _ (by rw [← HF.out, wides5, C.isWide_in (by omega)]), hbel.alloc hsz _⟩
        · have c0 := hb.cell 12
          have c1 := hb.cell 13
          simp [wideCells] at c0 c1
          by_cases ha : r < 65504
          · go_wp2
            go_roundw
            case rel => exact ⟨7, by omega, by go_num, by rw [← HF.out, wides6, C.isWide_out (by omega)], hb.alloc _, hbel.alloc hsz _⟩
            case measure => simp [intOf]
          by_cases hb1 : 65510 < r
          · go_wp2
            go_roundw
            case rel => exact ⟨7, by omega, by go_num, by rw [← HF.out, wides6, C.isWide_out (by omega)], hb.alloc _, hbel.alloc hsz _⟩
            case measure => simp [intOf]
          · go_wp2
            go_ret
            exact ⟨HR.out _ (by rw [← HF.out, wides6, C.isWide_in (by omega)]), hbel.alloc hsz _⟩
        · have c0 := hb.cell 14
          have c1 := hb.cell 15
          simp [wideCells] at c0 c1
          by_cases ha : r < 127744
          · go_wp2
            go_roundw
            case rel => exact ⟨8, by omega, by go_num, by rw [← HF.out, wides7, C.isWide_out (by omega)], hb.alloc _, hbel.alloc hsz _⟩
            case measure => simp [intOf]
          by_cases hb1 : 129791 < r
          · go_wp2
            go_roundw
            case rel => exact ⟨8, by omega, by go_num, by rw [← HF.out, wides7, C.isWide_out (by omega)], hb.alloc _, hbel.alloc hsz _⟩
            case measure => simp [intOf]
          · go_wp2
            go_ret
            exact ⟨HR.out _ (by rw [← HF.out, wides7, C.isWide_in (by omega)]), hbel.alloc hsz _⟩
        · have c0 := hb.cell 16
          have c1 := hb.cell 17
          simp [wideCells] at c0 c1
          by_cases ha : r < 131072
          · go_wp2
            go_roundw
            case rel => exact ⟨9, by omega, by go_num, by rw [← HF.out, wides8, C.isWide_out (by omega)], hb.alloc _, hbel.alloc hsz _⟩
            case measure => simp [intOf]
          by_cases hb1 : 262141 < r
          · go_wp2
            go_roundw
            case rel => exact ⟨9, by omega, by go_num, by rw [← HF.out, wides8, C.isWide_out (by omega)], hb.alloc _, hbel.alloc hsz _⟩
            case measure => simp [intOf]
          · go_wp2
            go_ret
            exact ⟨HR.out _ (by rw [← HF.out, wides8, C.isWide_in (by omega)]), hbel.alloc hsz _⟩
      · go_wp2
        go_ret
        exact ⟨HR.out _ (by rw [← HF.out, wides9]), hbel⟩
end Go.Proofs.YtdcdinlppjlmfaaDoor
