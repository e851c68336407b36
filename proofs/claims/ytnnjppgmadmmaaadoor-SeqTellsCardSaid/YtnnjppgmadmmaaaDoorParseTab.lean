/- Package parse's tables as the program lays them, and the contracts of classOf, moveOf. -/
import Derived.Test.YtnnjppgmadmmaaaDoorLib
import Derived.Test.YtnnjppgmadmmaaaDoorEnds
import Derived.Test.YtnnjppgmadmmaaaDoorParseSpec
import Derived.Test.YtnnjppgmadmmaaaDoorFlat
import Derived.Test.YtnnjppgmadmmaaaDoorRows
import Derived.WalkSpells
import Derived.WalkLawsBesides
import Derived.Laws.Rows
import Derived.BigQuiet
import Derived.Deep.QuietTactic
set_option maxRecDepth 100000
namespace Go.Proofs.YtnnjppgmadmmaaaDoor
open Go.RowKit
set_option linter.unusedVariables false
def runCells : Array Value := ((List.range 24).flatMap fun k => [Value.int .u8 (PA.lastAt k), Value.int .u8 (PA.kindAt k)]).toArray
def moveCells : Array Value := (PA.tab.map (Value.int .u8)).toArray
/-- the tables are as the program's text lays them -/
structure Tabs (w : World) : Prop where
  runs : ∃ t, w.heap[1]? = some (.cells runCells t (0, 0))
  moves : ∃ t, w.heap[0]? = some (.cells moveCells t (0, 0))
theorem Tabs.below {w w' : World} {B : Nat} (h : Tabs w) (hb : Below B w w') (hB : 2 ≤ B) : Tabs w' := by
  obtain ⟨⟨t, h⟩, ⟨u, k⟩⟩ := h
  exact ⟨⟨t, (hb.block _ (by omega)).trans h⟩, ⟨u, (hb.block _ (by omega)).trans k⟩⟩
theorem Tabs.lt {w : World} (h : Tabs w) : 2 ≤ w.heap.size := by
  obtain ⟨⟨t, h⟩, ⟨u, k⟩⟩ := h
  have a := (Array.getElem?_eq_some_iff.1 h).1
  have b := (Array.getElem?_eq_some_iff.1 k).1
  omega
theorem Tabs.keep {w w' : World} (h : Tabs w) (hb : Below w.heap.size w w') : Tabs w' := h.below hb h.lt
theorem gRuns : Tryd.prog.globalNamed "linguist/parse.runs" = some 1 := by kernel_rfl
theorem tRuns : (Tryd.prog.globals[1]?).map (·.type) = some 95 := by kernel_rfl
theorem tilesRuns : tiled Tryd.prog 4 95 = true := by kernel_rfl
theorem flatRuns : flat (H := Unit) Rows.laid_linguist_parse_runs = some runCells.toList := by kernel_rfl
theorem gMoves : Tryd.prog.globalNamed "linguist/parse.moves" = some 0 := by kernel_rfl
theorem tMoves : (Tryd.prog.globals[0]?).map (·.type) = some 86 := by kernel_rfl
theorem tilesMoves : tiled Tryd.prog 4 86 = true := by kernel_rfl
theorem flatMoves : flat (H := Unit) Rows.laid_linguist_parse_moves = some moveCells.toList := by kernel_rfl
theorem tabs_laid {w : World} {l : List (String × DataW Unit)} (h : laidMet Tryd.prog l w) (hm : ("linguist/parse.runs", Rows.laid_linguist_parse_runs) ∈ l) (hm' : ("linguist/parse.moves", Rows.laid_linguist_parse_moves) ∈ l) : Tabs w := by
  obtain ⟨t, ht⟩ := laid_flat_mem 4 gRuns tRuns tilesRuns flatRuns (by rw [show runCells.toList.length = 48 from by kernel_rfl]; omega) h hm
  obtain ⟨u, hu⟩ := laid_flat_mem 4 gMoves tMoves tilesMoves flatMoves (by rw [show moveCells.toList.length = 208 from by kernel_rfl]; omega) h hm'
  exact ⟨⟨t, by simpa using ht⟩, ⟨u, by simpa using hu⟩⟩
theorem run_index (w : World) (k : Nat) (hk : k < 24) : (Instr.index 95 (.agg runCells) (.int .i64 (k : Int))).run Tryd.prog w = .ok (.agg #[.int .u8 (PA.lastAt k), .int .u8 (PA.kindAt k)]) w := by
  obtain rfl | rfl | rfl | rfl | rfl | rfl | rfl | rfl | rfl | rfl | rfl | rfl | rfl | rfl | rfl | rfl | rfl | rfl | rfl | rfl | rfl | rfl | rfl | rfl : k = 0 ∨ k = 1 ∨ k = 2 ∨ k = 3 ∨ k = 4 ∨ k = 5 ∨ k = 6 ∨ k = 7 ∨ k = 8 ∨ k = 9 ∨ k = 10 ∨ k = 11 ∨ k = 12 ∨ k = 13 ∨ k = 14 ∨ k = 15 ∨ k = 16 ∨ k = 17 ∨ k = 18 ∨ k = 19 ∨ k = 20 ∨ k = 21 ∨ k = 22 ∨ k = 23 := by omega
  all_goals kernel_rfl
theorem size_runs : (Tryd.prog.info? 95).map (·.size) = some runCells.size := by kernel_rfl
theorem move_cell {w : World} (h : Tabs w) (st c : Int) (h0 : 0 ≤ st) (h1 : st < 13) (h2 : 0 ≤ c) (h3 : c < 16) : w.cell? ⟨0, st.toNat * 16 + c.toNat, none⟩ = some (.int .u8 (PA.cellAt st c)) := by
  obtain ⟨t, h⟩ := h.moves
  rw [cell_of_row w _ (st.toNat * 16 + c.toNat) _ t (0, 0) h]
  have hl : st.toNat * 16 + c.toNat < PA.tab.length := by
    rw [show PA.tab.length = 208 from by kernel_rfl]
    omega
  unfold moveCells PA.cellAt
  rw [List.getElem?_toArray, List.getElem?_map, List.getElem?_eq_getElem hl, List.getD_eq_getElem?_getD, List.getElem?_eq_getElem hl]
  rfl
set_option maxHeartbeats 2000000 in
theorem classOf_any (b : Int) (w : World) (h0 : 0 ≤ b) (h1 : b < 256) (hs : Tabs w) : Calls Tryd.prog 56 #[.int .u8 b] w fun e w' => e = .returned (.int .u8 (PA.cls b)) ∧ Below w.heap.size w w' := by
  obtain ⟨⟨tt, hg⟩, _⟩ := hs
  have SI := hide run_index
  have SC := hide size_runs
  generalize hcs : runCells = cs at hg SI SC
  clear hcs
  have hp := PA.place_le b
  go_enter Tryd.func56, Tryd.ntmps56
  go_wp2_with (refine wpList_load_row rfl 95 _ rfl 1 rfl tt cs (0, 0) _ hg Tryd.underlying95 rfl SC.out ?_)
  go_loopw [6] (fun i wr => ∃ k : Nat, k ≤ PA.place b ∧ i = .int .i64 k ∧ Below w.heap.size w wr) (fun i _ => 24 - (intOf i).toNat)
  case atStart => exact ⟨0, by omega, rfl, Below.refl _ _⟩
  case round =>
    obtain ⟨k, hk, rfl, hbel⟩ := hrel
    have hsz := hbel.size
    obtain hlt | rfl : k < 24 ∨ k = 24 := by omega
    · have si := fun w' => SI.out w' k hlt
      obtain hx | hx : k = PA.place b ∨ k < PA.place b := by omega
      · have hle : b ≤ PA.lastAt k := by
          rw [hx]
          exact PA.place_at h0 h1 (by omega)
        have E := hide (show PA.kindAt k = PA.cls b by unfold PA.cls; rw [← hx])
        generalize PA.kindAt k = y at si E
        generalize PA.lastAt k = x at si hle
        clear hx hp hk
        go_wp2
        go_ret
        exact ⟨c_int E.out, hbel.alloc hsz _⟩
      · have hle : PA.lastAt k < b := PA.place_lt h0 h1 hx
        have hle' : ¬ b ≤ PA.lastAt k := by omega
        generalize PA.kindAt k = y at si
        generalize PA.lastAt k = x at si hle hle'
        go_wp2
        go_roundw
        case rel => exact ⟨k + 1, by omega, by go_num, hbel.alloc hsz _⟩
        case measure => simp [intOf]; omega
    · have E := hide (PA.cls_none (b := b) (by omega))
      go_wp2
      go_ret
      exact ⟨c_int E.out.symm, hbel⟩
end Go.Proofs.YtnnjppgmadmmaaaDoor
