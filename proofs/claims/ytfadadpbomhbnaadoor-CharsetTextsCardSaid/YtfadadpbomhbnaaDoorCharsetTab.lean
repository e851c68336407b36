/- Package charset's table as the program lays it, and the contracts of Draw, Undraw, Plain. -/
import Derived.Test.YtfadadpbomhbnaaDoorLib
import Derived.Test.YtfadadpbomhbnaaDoorEnds
import Derived.Test.YtfadadpbomhbnaaDoorCharsetSpec
import Derived.Test.YtfadadpbomhbnaaDoorFlat
import Derived.Test.YtfadadpbomhbnaaDoorRows
import Derived.WalkSpells
import Derived.WalkLawsBesides
import Derived.Laws.Rows
namespace Go.Proofs.YtfadadpbomhbnaaDoor
open Go.RowKit
set_option linter.unusedVariables false
def signCells : Array Value := #[.int .i32 9670, .int .u8 42, .int .i32 9618, .int .u8 35, .int .i32 9225, .int .u8 72, .int .i32 9228, .int .u8 70, .int .i32 9229, .int .u8 67, .int .i32 9226, .int .u8 76, .int .i32 176, .int .u8 111, .int .i32 177, .int .u8 43, .int .i32 9252, .int .u8 78, .int .i32 9227, .int .u8 86, .int .i32 9496, .int .u8 43, .int .i32 9488, .int .u8 43, .int .i32 9484, .int .u8 43, .int .i32 9492, .int .u8 43, .int .i32 9532, .int .u8 43, .int .i32 9146, .int .u8 45, .int .i32 9147, .int .u8 45, .int .i32 9472, .int .u8 45, .int .i32 9148, .int .u8 45, .int .i32 9149, .int .u8 95, .int .i32 9500, .int .u8 43, .int .i32 9508, .int .u8 43, .int .i32 9524, .int .u8 43, .int .i32 9516, .int .u8 43, .int .i32 9474, .int .u8 124, .int .i32 8804, .int .u8 60, .int .i32 8805, .int .u8 62, .int .i32 960, .int .u8 112, .int .i32 8800, .int .u8 33, .int .i32 163, .int .u8 76, .int .i32 183, .int .u8 46]
/-- the table of signs is as the program's text lays it -/
def Signs (w : World) : Prop := ∃ t, w.heap[0]? = some (.cells signCells t (0, 0))
theorem Signs.lt {w : World} (h : Signs w) : 0 < w.heap.size := by
  obtain ⟨t, h⟩ := h
  exact (Array.getElem?_eq_some_iff.1 h).1
theorem Signs.below {w w' : World} {B : Nat} (h : Signs w) (hb : Below B w w') (hB : 0 < B) : Signs w' := by
  obtain ⟨t, h⟩ := h
  exact ⟨t, (hb.block _ hB).trans h⟩
theorem Signs.keep {w w' : World} (h : Signs w) (hb : Below w.heap.size w w') : Signs w' := h.below hb h.lt
theorem gSigns : Tryd.prog.globalNamed "linguist/charset.signs" = some 0 := by kernel_rfl
theorem tSigns : (Tryd.prog.globals[0]?).map (·.type) = some 38 := by kernel_rfl
theorem tilesSigns : tiled Tryd.prog 4 38 = true := by kernel_rfl
theorem flatSigns : flat (H := Unit) Rows.laid_linguist_charset_signs = some signCells.toList := by rfl
theorem signs_laid {w : World} {l : List (String × DataW Unit)} (h : laidMet Tryd.prog l w) (hm : ("linguist/charset.signs", Rows.laid_linguist_charset_signs) ∈ l) : Signs w := by
  obtain ⟨t, ht⟩ := laid_flat_mem 4 gSigns tSigns tilesSigns flatSigns (by simp [signCells]) h hm
  exact ⟨t, by simpa using ht⟩
theorem signs_drawn {w : World} (h : Signs w) (k : Nat) (hk : k < 31) : w.cell? ⟨0, k * 2, none⟩ = some (.int .i32 (CH.drawnAt k)) := by
  obtain ⟨t, h⟩ := h
  rw [cell_of_row w _ (k * 2) _ t (0, 0) h]
  obtain rfl | rfl | rfl | rfl | rfl | rfl | rfl | rfl | rfl | rfl | rfl | rfl | rfl | rfl | rfl | rfl | rfl | rfl | rfl | rfl | rfl | rfl | rfl | rfl | rfl | rfl | rfl | rfl | rfl | rfl | rfl : k = 0 ∨ k = 1 ∨ k = 2 ∨ k = 3 ∨ k = 4 ∨ k = 5 ∨ k = 6 ∨ k = 7 ∨ k = 8 ∨ k = 9 ∨ k = 10 ∨ k = 11 ∨ k = 12 ∨ k = 13 ∨ k = 14 ∨ k = 15 ∨ k = 16 ∨ k = 17 ∨ k = 18 ∨ k = 19 ∨ k = 20 ∨ k = 21 ∨ k = 22 ∨ k = 23 ∨ k = 24 ∨ k = 25 ∨ k = 26 ∨ k = 27 ∨ k = 28 ∨ k = 29 ∨ k = 30 := by omega
  all_goals rfl
theorem signs_plain {w : World} (h : Signs w) (k : Nat) (hk : k < 31) : w.cell? ⟨0, k * 2 + 1, none⟩ = some (.int .u8 (CH.plainAt k)) := by
  obtain ⟨t, h⟩ := h
  rw [cell_of_row w _ (k * 2 + 1) _ t (0, 0) h]
  obtain rfl | rfl | rfl | rfl | rfl | rfl | rfl | rfl | rfl | rfl | rfl | rfl | rfl | rfl | rfl | rfl | rfl | rfl | rfl | rfl | rfl | rfl | rfl | rfl | rfl | rfl | rfl | rfl | rfl | rfl | rfl : k = 0 ∨ k = 1 ∨ k = 2 ∨ k = 3 ∨ k = 4 ∨ k = 5 ∨ k = 6 ∨ k = 7 ∨ k = 8 ∨ k = 9 ∨ k = 10 ∨ k = 11 ∨ k = 12 ∨ k = 13 ∨ k = 14 ∨ k = 15 ∨ k = 16 ∨ k = 17 ∨ k = 18 ∨ k = 19 ∨ k = 20 ∨ k = 21 ∨ k = 22 ∨ k = 23 ∨ k = 24 ∨ k = 25 ∨ k = 26 ∨ k = 27 ∨ k = 28 ∨ k = 29 ∨ k = 30 := by omega
  all_goals rfl
theorem sign_index (w : World) (k : Nat) (hk : k < 31) : (Instr.index 38 (.agg signCells) (.int .i64 (k : Int))).run Tryd.prog w = .ok (.agg #[.int .i32 (CH.drawnAt k), .int .u8 (CH.plainAt k)]) w := by
  obtain rfl | rfl | rfl | rfl | rfl | rfl | rfl | rfl | rfl | rfl | rfl | rfl | rfl | rfl | rfl | rfl | rfl | rfl | rfl | rfl | rfl | rfl | rfl | rfl | rfl | rfl | rfl | rfl | rfl | rfl | rfl : k = 0 ∨ k = 1 ∨ k = 2 ∨ k = 3 ∨ k = 4 ∨ k = 5 ∨ k = 6 ∨ k = 7 ∨ k = 8 ∨ k = 9 ∨ k = 10 ∨ k = 11 ∨ k = 12 ∨ k = 13 ∨ k = 14 ∨ k = 15 ∨ k = 16 ∨ k = 17 ∨ k = 18 ∨ k = 19 ∨ k = 20 ∨ k = 21 ∨ k = 22 ∨ k = 23 ∨ k = 24 ∨ k = 25 ∨ k = 26 ∨ k = 27 ∨ k = 28 ∨ k = 29 ∨ k = 30 := by omega
  all_goals kernel_rfl
theorem size_signs : (Tryd.prog.info? 38).map (·.size) = some signCells.size := by kernel_rfl
theorem drawnAt_i32 {k : Nat} (h : k < 31) : IntKind.i32.wrap (CH.drawnAt k) = CH.drawnAt k := by
  have := CH.drawnAt_bd h
  exact IntWalk.i32_in _ (by omega)

theorem draw_is_blank : CH.draw 95 = 32 := rfl
theorem draw_is_drawn {k : Nat} (h : k < 31) : CH.draw (96 + (k : Int)) = CH.drawnAt k := by
  unfold CH.draw
  rw [if_neg (by omega), if_pos (by omega)]
  congr 1
  omega
theorem draw_is_plain {b : Int} (h : b < 95 ∨ 126 < b) : CH.draw b = b := by
  unfold CH.draw
  rw [if_neg (by omega), if_neg (by omega)]
theorem undraw_at {k : Nat} {r : Int} (h : k < 31) (hp : CH.place r = k) : CH.undraw r = 96 + (k : Int) ∧ CH.undrawn r = true := by
  unfold CH.undraw CH.undrawn
  rw [hp, if_pos h]
  exact ⟨rfl, by simp; omega⟩
theorem undraw_none {r : Int} (hp : CH.place r = 31) : CH.undraw r = 0 ∧ CH.undrawn r = false := by
  unfold CH.undraw CH.undrawn
  rw [hp]
  exact ⟨rfl, by simp⟩
set_option maxHeartbeats 1000000 in
theorem draw_any (b : Int) (w : World) (h0 : 0 ≤ b) (h1 : b < 256) (hs : Signs w) : Calls Tryd.prog 8 #[.int .u8 b] w fun e w' => e = .returned (.int .i32 (CH.draw b)) ∧ Below w.heap.size w w' := by
  have cs : b = 95 ∨ (96 ≤ b ∧ b ≤ 126) ∨ b < 95 ∨ 126 < b := by omega
  rcases cs with rfl | h | h | h
  · go_enter Tryd.func8, Tryd.ntmps8
    go_wp2
    go_ret
    exact ⟨rfl, Below.refl _ _⟩
  · have hk : (b - 96).toNat < 31 := by omega
    have hc := signs_drawn hs (b - 96).toNat hk
    have e := draw_is_drawn hk
    rw [show (96 : Int) + ((b - 96).toNat : Int) = b from by omega] at e
    have E := hide e
    clear hs e hk
    generalize CH.drawnAt (b - 96).toNat = x at hc E
    have hb : (b == 95) = false := by simp; omega
    go_enter Tryd.func8, Tryd.ntmps8
    go_wp2
    go_ret
    exact ⟨c_int E.out.symm, Below.refl _ _⟩
  · have E := hide (draw_is_plain (b := b) (by omega))
    have hb : (b == 95) = false := by simp; omega
    go_enter Tryd.func8, Tryd.ntmps8
    go_wp2
    go_ret
    exact ⟨c_int E.out.symm, Below.refl _ _⟩
  · have E := hide (draw_is_plain (b := b) (by omega))
    have hb : (b == 95) = false := by simp; omega
    have hb' : 96 ≤ b := by omega
    go_enter Tryd.func8, Tryd.ntmps8
    go_wp2
    go_ret
    exact ⟨c_int E.out.symm, Below.refl _ _⟩
set_option maxHeartbeats 2000000 in
theorem undraw_any (r : Int) (w : World) (hs : Signs w) : Calls Tryd.prog 7 #[.int .i32 r] w fun e w' => e = .returned (.tuple #[.int .u8 (CH.undraw r), .bool (CH.undrawn r)]) ∧ Below w.heap.size w w' := by
  obtain ⟨tt, hg⟩ := hs
  have lt : 0 < w.heap.size := (Array.getElem?_eq_some_iff.1 hg).1
  have SI := hide sign_index
  have SC := hide size_signs
  generalize hcs : signCells = cs at hg SI SC
  clear hcs
  have hp := CH.place_le r
  go_enter Tryd.func7, Tryd.ntmps7
  go_wp2_with (refine wpList_load_row rfl 38 _ rfl 0 rfl tt cs (0, 0) _ hg Tryd.underlying38 rfl SC.out ?_)
  go_loopw [7] (fun i wr => ∃ k : Nat, k ≤ CH.place r ∧ i = .int .i64 k ∧ Below w.heap.size w wr) (fun i _ => 31 - (intOf i).toNat)
  case atStart => exact ⟨0, by omega, rfl, Below.refl _ _⟩
  case round =>
    obtain ⟨k, hk, rfl, hbel⟩ := hrel
    have hsz := hbel.size
    obtain hlt | rfl : k < 31 ∨ k = 31 := by omega
    · have si := fun w' => SI.out w' k hlt
      by_cases hx : CH.drawnAt k = r
      · obtain ⟨u1, u2⟩ := undraw_at hlt ((CH.drawnAt_iff hlt).1 hx)
        have U1 := hide u1
        have U2 := hide u2
        rw [hx] at si
        clear u1 u2 hx
        generalize CH.plainAt k = y at si
        go_wp2
        exact bodyPost_ret (v := .tuple #[.int .u8 (96 + (k : Int)), .bool true]) (by simp [results, Tryd.results7, go_sem]) rfl ⟨by rw [U1.out, U2.out], hbel.alloc hsz _⟩
      · have hk' : k + 1 ≤ CH.place r := by
          have : CH.place r ≠ k := fun e => hx ((CH.drawnAt_iff hlt).2 e)
          omega
        generalize CH.drawnAt k = x at si hx
        have hx : (x == r) = false := by simpa using hx
        generalize CH.plainAt k = y at si
        go_wp2
        go_roundw
        case rel => exact ⟨k + 1, hk', by go_num, hbel.alloc hsz _⟩
        case measure => simp [intOf]; omega
    · obtain ⟨u1, u2⟩ := undraw_none (r := r) (by omega)
      have U1 := hide u1
      have U2 := hide u2
      clear u1 u2
      go_wp2
      exact bodyPost_ret (v := .tuple #[.int .u8 0, .bool false]) (by simp [results, Tryd.results7, go_sem]) rfl ⟨by rw [U1.out, U2.out], hbel⟩
end Go.Proofs.YtfadadpbomhbnaaDoor
