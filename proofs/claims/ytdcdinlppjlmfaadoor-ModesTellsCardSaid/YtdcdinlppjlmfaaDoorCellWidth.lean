/- The contract of Width, where the table of spans is as the program lays it; and of the document's own Width. -/
import Derived.Test.YtdcdinlppjlmfaaDoorLib
import Derived.Test.YtdcdinlppjlmfaaDoorCellSpec
import Derived.Test.YtdcdinlppjlmfaaDoorCellSmall
import Derived.Laws.Rows
set_option maxRecDepth 100000
namespace Go.Proofs.YtdcdinlppjlmfaaDoor
open Go.RowKit
set_option linter.unusedVariables false
def spanCells : Array Value := #[.int .i32 127, .int .i32 159, .int .i64 0, .int .i32 768, .int .i32 879, .int .i64 0, .int .i32 4352, .int .i32 4447, .int .i64 2, .int .i32 11904, .int .i32 42191, .int .i64 2, .int .i32 44032, .int .i32 55203, .int .i64 2, .int .i32 55296, .int .i32 57343, .int .i64 0, .int .i32 63744, .int .i32 64255, .int .i64 2, .int .i32 65072, .int .i32 65135, .int .i64 2, .int .i32 65280, .int .i32 65376, .int .i64 2, .int .i32 65504, .int .i32 65510, .int .i64 2, .int .i32 127744, .int .i32 129791, .int .i64 2, .int .i32 131072, .int .i32 262141, .int .i64 2]
/-- the table of spans is as the program's text lays it -/
def Spans (w : World) : Prop := ∃ t, w.heap[1]? = some (.cells spanCells t (0, 0))
theorem Spans.lt {w : World} (h : Spans w) : 1 < w.heap.size := by
  obtain ⟨t, h⟩ := h
  exact (Array.getElem?_eq_some_iff.1 h).1
theorem Spans.below {w w' : World} {B : Nat} (h : Spans w) (hb : Below B w w') (hB : 1 < B) : Spans w' := by
  obtain ⟨t, h⟩ := h
  exact ⟨t, (hb.block _ hB).trans h⟩
theorem Spans.keep {w w' : World} (h : Spans w) (hb : Below w.heap.size w w') : Spans w' := h.below hb h.lt
theorem gSpans : Tryd.prog.globalNamed "linguist/cell.spans" = some 1 := by kernel_rfl
theorem tSpans : (Tryd.prog.globals[1]?).map (·.type) = some 109 := by kernel_rfl
theorem tilesSpans : tiled Tryd.prog 4 109 = true := by kernel_rfl
theorem flatSpans : flat (H := Unit) Rows.laid_linguist_cell_spans = some spanCells.toList := by rfl
theorem spans_laid {w : World} {l : List (String × DataW Unit)} (h : laidMet Tryd.prog l w) (hm : ("linguist/cell.spans", Rows.laid_linguist_cell_spans) ∈ l) : Spans w := by
  obtain ⟨t, ht⟩ := laid_flat_mem 4 gSpans tSpans tilesSpans flatSpans (by simp [spanCells]) h hm
  exact ⟨t, by simpa using ht⟩
/-- what is left of the table at place k -/
def spansFrom (k : Nat) : List (Int × Int × Int) := C.spans.drop k
theorem span0 (w : World) : (Instr.index 109 (.agg spanCells) (.int .i64 0)).run Tryd.prog w = .ok (.agg #[.int .i32 127, .int .i32 159, .int .i64 0]) w := by kernel_rfl
theorem from0 : spansFrom 0 = (127, 159, 0) :: spansFrom 1 := rfl
theorem span1 (w : World) : (Instr.index 109 (.agg spanCells) (.int .i64 1)).run Tryd.prog w = .ok (.agg #[.int .i32 768, .int .i32 879, .int .i64 0]) w := by kernel_rfl
theorem from1 : spansFrom 1 = (768, 879, 0) :: spansFrom 2 := rfl
theorem span2 (w : World) : (Instr.index 109 (.agg spanCells) (.int .i64 2)).run Tryd.prog w = .ok (.agg #[.int .i32 4352, .int .i32 4447, .int .i64 2]) w := by kernel_rfl
theorem from2 : spansFrom 2 = (4352, 4447, 2) :: spansFrom 3 := rfl
theorem span3 (w : World) : (Instr.index 109 (.agg spanCells) (.int .i64 3)).run Tryd.prog w = .ok (.agg #[.int .i32 11904, .int .i32 42191, .int .i64 2]) w := by kernel_rfl
theorem from3 : spansFrom 3 = (11904, 42191, 2) :: spansFrom 4 := rfl
theorem span4 (w : World) : (Instr.index 109 (.agg spanCells) (.int .i64 4)).run Tryd.prog w = .ok (.agg #[.int .i32 44032, .int .i32 55203, .int .i64 2]) w := by kernel_rfl
theorem from4 : spansFrom 4 = (44032, 55203, 2) :: spansFrom 5 := rfl
theorem span5 (w : World) : (Instr.index 109 (.agg spanCells) (.int .i64 5)).run Tryd.prog w = .ok (.agg #[.int .i32 55296, .int .i32 57343, .int .i64 0]) w := by kernel_rfl
theorem from5 : spansFrom 5 = (55296, 57343, 0) :: spansFrom 6 := rfl
theorem span6 (w : World) : (Instr.index 109 (.agg spanCells) (.int .i64 6)).run Tryd.prog w = .ok (.agg #[.int .i32 63744, .int .i32 64255, .int .i64 2]) w := by kernel_rfl
theorem from6 : spansFrom 6 = (63744, 64255, 2) :: spansFrom 7 := rfl
theorem span7 (w : World) : (Instr.index 109 (.agg spanCells) (.int .i64 7)).run Tryd.prog w = .ok (.agg #[.int .i32 65072, .int .i32 65135, .int .i64 2]) w := by kernel_rfl
theorem from7 : spansFrom 7 = (65072, 65135, 2) :: spansFrom 8 := rfl
theorem span8 (w : World) : (Instr.index 109 (.agg spanCells) (.int .i64 8)).run Tryd.prog w = .ok (.agg #[.int .i32 65280, .int .i32 65376, .int .i64 2]) w := by kernel_rfl
theorem from8 : spansFrom 8 = (65280, 65376, 2) :: spansFrom 9 := rfl
theorem span9 (w : World) : (Instr.index 109 (.agg spanCells) (.int .i64 9)).run Tryd.prog w = .ok (.agg #[.int .i32 65504, .int .i32 65510, .int .i64 2]) w := by kernel_rfl
theorem from9 : spansFrom 9 = (65504, 65510, 2) :: spansFrom 10 := rfl
theorem span10 (w : World) : (Instr.index 109 (.agg spanCells) (.int .i64 10)).run Tryd.prog w = .ok (.agg #[.int .i32 127744, .int .i32 129791, .int .i64 2]) w := by kernel_rfl
theorem from10 : spansFrom 10 = (127744, 129791, 2) :: spansFrom 11 := rfl
theorem span11 (w : World) : (Instr.index 109 (.agg spanCells) (.int .i64 11)).run Tryd.prog w = .ok (.agg #[.int .i32 131072, .int .i32 262141, .int .i64 2]) w := by kernel_rfl
theorem from11 : spansFrom 11 = (131072, 262141, 2) :: spansFrom 12 := rfl
theorem from12 (x : Int) : C.find (spansFrom 12) x = 1 := rfl
theorem size_spans : (Tryd.prog.info? 109).map (·.size) = some spanCells.size := by kernel_rfl
set_option maxHeartbeats 2000000 in
theorem width_any (r : Int) (w : World) (hr0 : -2147483648 ≤ r) (hr1 : r ≤ 2147483647) (hs : Spans w) :
    Calls Tryd.prog 88 #[.int .i32 r] w fun e w' => e = .returned (.int .i64 (C.width r)) ∧ Below w.heap.size w w' := by
  have HE : ∀ x : Int, x = C.width r → Ending.returned (.int .i64 x) = .returned (.int .i64 (C.width r)) := fun x h => c_int h
  have HR := Lib.hid HE
  clear HE
  by_cases h0 : r < 32
  · go_enter Tryd.func88, Tryd.ntmps88
    go_wp2
    go_ret
    exact ⟨HR.out _ (by unfold C.width; rw [if_pos (by omega)]), Below.refl _ _⟩
  by_cases h1 : 1114111 < r
  · go_enter Tryd.func88, Tryd.ntmps88
    go_wp2
    go_ret
    exact ⟨HR.out _ (by unfold C.width; rw [if_pos (by omega)]), Below.refl _ _⟩
  have hw : C.width r = C.find (spansFrom 0) r := by
    unfold C.width
    rw [if_neg (by omega)]
    rfl
  have HW := Lib.hid hw
  clear hw
  obtain ⟨tt, hg⟩ := hs
  have lt : 1 < w.heap.size := (Array.getElem?_eq_some_iff.1 hg).1
  have i0 := span0
  have i1 := span1
  have i2 := span2
  have i3 := span3
  have i4 := span4
  have i5 := span5
  have i6 := span6
  have i7 := span7
  have i8 := span8
  have i9 := span9
  have i10 := span10
  have i11 := span11
  have hsz : spanCells.size = 36 := rfl
  generalize hcs : spanCells = cs at hg hsz i0 i1 i2 i3 i4 i5 i6 i7 i8 i9 i10 i11
  have size_cs : (Tryd.prog.info? 109).map (·.size) = some cs.size := by rw [← hcs]; exact size_spans
  have SC := hide size_cs
  clear hcs hsz size_cs
  go_enter Tryd.func88, Tryd.ntmps88
  go_wp2_with (refine wpList_load_row rfl 109 _ rfl 1 rfl tt cs (0, 0) _ hg Tryd.underlying109 rfl SC.out ?_)
  go_loopw [12] (fun i wr => ∃ k : Nat, k ≤ 12 ∧ i = .int .i64 k ∧ C.find (spansFrom k) r = C.width r ∧ Below w.heap.size w wr) (fun i _ => 12 - (intOf i).toNat)
  case atStart => exact ⟨0, by omega, rfl, HW.out.symm, Below.refl _ _⟩
  case round =>
    obtain ⟨k, hk, rfl, hf, hbel⟩ := hrel
    have hsz := hbel.size
    have HF := hide hf
    clear hf
    obtain hlt | rfl : k < 12 ∨ k = 12 := by omega
    · obtain rfl | rfl | rfl | rfl | rfl | rfl | rfl | rfl | rfl | rfl | rfl | rfl : k = 0 ∨ k = 1 ∨ k = 2 ∨ k = 3 ∨ k = 4 ∨ k = 5 ∨ k = 6 ∨ k = 7 ∨ k = 8 ∨ k = 9 ∨ k = 10 ∨ k = 11 := by omega
      · by_cases ha : r < 127
        · go_wp2
          go_roundw
          case rel => exact ⟨1, by omega, by go_num, by rw [← HF.out, from0, C.find_cons_out (by omega)], hbel.alloc hsz _⟩
          case measure => simp [intOf]
        by_cases hb : 159 < r
        · go_wp2
          go_roundw
          case rel => exact ⟨1, by omega, by go_num, by rw [← HF.out, from0, C.find_cons_out (by omega)], hbel.alloc hsz _⟩
          case measure => simp [intOf]
        · go_wp2
          go_ret
          exact ⟨HR.out _ (by rw [← HF.out, from0, C.find_cons_in (by omega)]), hbel.alloc hsz _⟩
      · by_cases ha : r < 768
        · go_wp2
          go_roundw
          case rel => exact ⟨2, by omega, by go_num, by rw [← HF.out, from1, C.find_cons_out (by omega)], hbel.alloc hsz _⟩
          case measure => simp [intOf]
        by_cases hb : 879 < r
        · go_wp2
          go_roundw
          case rel => exact ⟨2, by omega, by go_num, by rw [← HF.out, from1, C.find_cons_out (by omega)], hbel.alloc hsz _⟩
          case measure => simp [intOf]
        · go_wp2
          go_ret
          exact ⟨HR.out _ (by rw [← HF.out, from1, C.find_cons_in (by omega)]), hbel.alloc hsz _⟩
      · by_cases ha : r < 4352
        · go_wp2
          go_roundw
          case rel => exact ⟨3, by omega, by go_num, by rw [← HF.out, from2, C.find_cons_out (by omega)], hbel.alloc hsz _⟩
          case measure => simp [intOf]
        by_cases hb : 4447 < r
        · go_wp2
          go_roundw
          case rel => exact ⟨3, by omega, by go_num, by rw [← HF.out, from2, C.find_cons_out (by omega)], hbel.alloc hsz _⟩
          case measure => simp [intOf]
        · go_wp2
          go_ret
          exact ⟨HR.out _ (by rw [← HF.out, from2, C.find_cons_in (by omega)]), hbel.alloc hsz _⟩
      · by_cases ha : r < 11904
        · go_wp2
          go_roundw
          case rel => exact ⟨4, by omega, by go_num, by rw [← HF.out, from3, C.find_cons_out (by omega)], hbel.alloc hsz _⟩
          case measure => simp [intOf]
        by_cases hb : 42191 < r
        · go_wp2
          go_roundw
          case rel => exact ⟨4, by omega, by go_num, by rw [← HF.out, from3, C.find_cons_out (by omega)], hbel.alloc hsz _⟩
          case measure => simp [intOf]
        · go_wp2
          go_ret
          exact ⟨HR.out _ (by rw [← HF.out, from3, C.find_cons_in (by omega)]), hbel.alloc hsz _⟩
      · by_cases ha : r < 44032
        · go_wp2
          go_roundw
          case rel => exact ⟨5, by omega, by go_num, by rw [← HF.out, from4, C.find_cons_out (by omega)], hbel.alloc hsz _⟩
          case measure => simp [intOf]
        by_cases hb : 55203 < r
        · go_wp2
          go_roundw
          case rel => exact ⟨5, by omega, by go_num, by rw [← HF.out, from4, C.find_cons_out (by omega)], hbel.alloc hsz _⟩
          case measure => simp [intOf]
        · go_wp2
          go_ret
          exact ⟨HR.out _ (by rw [← HF.out, from4, C.find_cons_in (by omega)]), hbel.alloc hsz _⟩
      · by_cases ha : r < 55296
        · go_wp2
          go_roundw
          case rel => exact ⟨6, by omega, by go_num, by rw [← HF.out, from5, C.find_cons_out (by omega)], hbel.alloc hsz _⟩
          case measure => simp [intOf]
        by_cases hb : 57343 < r
        · go_wp2
          go_roundw
          case rel => exact ⟨6, by omega, by go_num, by rw [← HF.out, from5, C.find_cons_out (by omega)], hbel.alloc hsz _⟩
          case measure => simp [intOf]
        · go_wp2
          go_ret
          exact ⟨HR.out _ (by rw [← HF.out, from5, C.find_cons_in (by omega)]), hbel.alloc hsz _⟩
      · by_cases ha : r < 63744
        · go_wp2
          go_roundw
          case rel => exact ⟨7, by omega, by go_num, by rw [← HF.out, from6, C.find_cons_out (by omega)], hbel.alloc hsz _⟩
          case measure => simp [intOf]
        by_cases hb : 64255 < r
        · go_wp2
          go_roundw
          case rel => exact ⟨7, by omega, by go_num, by rw [← HF.out, from6, C.find_cons_out (by omega)], hbel.alloc hsz _⟩
          case measure => simp [intOf]
        · go_wp2
          go_ret
          exact ⟨HR.out _ (by rw [← HF.out, from6, C.find_cons_in (by omega)]), hbel.alloc hsz _⟩
      · by_cases ha : r < 65072
        · go_wp2
          go_roundw
          case rel => exact ⟨8, by omega, by go_num, by rw [← HF.out, from7, C.find_cons_out (by omega)], hbel.alloc hsz _⟩
          case measure => simp [intOf]
        by_cases hb : 65135 < r
        · go_wp2
          go_roundw
          case rel => exact ⟨8, by omega, by go_num, by rw [← HF.out, from7, C.find_cons_out (by omega)], hbel.alloc hsz _⟩
          case measure => simp [intOf]
        · go_wp2
          go_ret
          exact ⟨HR.out _ (by rw [← HF.out, from7, C.find_cons_in (by omega)]), hbel.alloc hsz _⟩
      · by_cases ha : r < 65280
        · go_wp2
          go_roundw
          case rel => exact ⟨9, by omega, by go_num, by rw [← HF.out, from8, C.find_cons_out (by omega)], hbel.alloc hsz _⟩
          case measure => simp [intOf]
        by_cases hb : 65376 < r
        · go_wp2
          go_roundw
          case rel => exact ⟨9, by omega, by go_num, by rw [← HF.out, from8, C.find_cons_out (by omega)], hbel.alloc hsz _⟩
          case measure => simp [intOf]
        · go_wp2
          go_ret
          exact ⟨HR.out _ (by rw [← HF.out, from8, C.find_cons_in (by omega)]), hbel.alloc hsz _⟩
      · by_cases ha : r < 65504
        · go_wp2
          go_roundw
          case rel => exact ⟨10, by omega, by go_num, by rw [← HF.out, from9, C.find_cons_out (by omega)], hbel.alloc hsz _⟩
          case measure => simp [intOf]
        by_cases hb : 65510 < r
        · go_wp2
          go_roundw
          case rel => exact ⟨10, by omega, by go_num, by rw [← HF.out, from9, C.find_cons_out (by omega)], hbel.alloc hsz _⟩
          case measure => simp [intOf]
        · go_wp2
          go_ret
          exact ⟨HR.out _ (by rw [← HF.out, from9, C.find_cons_in (by omega)]), hbel.alloc hsz _⟩
      · by_cases ha : r < 127744
        · go_wp2
          go_roundw
          case rel => exact ⟨11, by omega, by go_num, by rw [← HF.out, from10, C.find_cons_out (by omega)], hbel.alloc hsz _⟩
          case measure => simp [intOf]
        by_cases hb : 129791 < r
        · go_wp2
          go_roundw
          case rel => exact ⟨11, by omega, by go_num, by rw [← HF.out, from10, C.find_cons_out (by omega)], hbel.alloc hsz _⟩
          case measure => simp [intOf]
        · go_wp2
          go_ret
          exact ⟨HR.out _ (by rw [← HF.out, from10, C.find_cons_in (by omega)]), hbel.alloc hsz _⟩
      · by_cases ha : r < 131072
        · go_wp2
          go_roundw
          case rel => exact ⟨12, by omega, by go_num, by rw [← HF.out, from11, C.find_cons_out (by omega)], hbel.alloc hsz _⟩
          case measure => simp [intOf]
        by_cases hb : 262141 < r
        · go_wp2
          go_roundw
          case rel => exact ⟨12, by omega, by go_num, by rw [← HF.out, from11, C.find_cons_out (by omega)], hbel.alloc hsz _⟩
          case measure => simp [intOf]
        · go_wp2
          go_ret
          exact ⟨HR.out _ (by rw [← HF.out, from11, C.find_cons_in (by omega)]), hbel.alloc hsz _⟩
    · go_wp2
      go_ret
      exact ⟨HR.out _ (by rw [← HF.out, from12]), hbel⟩
end Go.Proofs.YtdcdinlppjlmfaaDoor
