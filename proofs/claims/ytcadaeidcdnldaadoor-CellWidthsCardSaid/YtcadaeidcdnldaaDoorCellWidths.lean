/- CellWidths: what can be printed in ASCII is one wide, controls none; ranges of wide runes have ends. -/
import Derived.Test.YtcadaeidcdnldaaDoorCellRuns
import Derived.Test.YtcadaeidcdnldaaDoorKeepPen
import Derived.OpenShut
namespace Go.Proofs.YtcadaeidcdnldaaDoor
open Go.RowKit
set_option linter.unusedVariables false
def edgeCells : Array Value := #[.int .i32 4351, .int .i32 4352, .int .i32 11903, .int .i32 11904, .int .i32 42192, .int .i32 42191, .int .i32 44031, .int .i32 44032, .int .i32 55204, .int .i32 55203, .int .i32 65377, .int .i32 65376, .int .i32 127743, .int .i32 127744, .int .i32 129792, .int .i32 129791, .int .i32 131071, .int .i32 131072, .int .i32 262142, .int .i32 262141]
theorem edge0a : C.width 4351 = 1 := by decide
theorem edge0b : C.width 4352 = 2 := by decide
theorem edge1a : C.width 11903 = 1 := by decide
theorem edge1b : C.width 11904 = 2 := by decide
theorem edge2a : C.width 42192 = 1 := by decide
theorem edge2b : C.width 42191 = 2 := by decide
theorem edge3a : C.width 44031 = 1 := by decide
theorem edge3b : C.width 44032 = 2 := by decide
theorem edge4a : C.width 55204 = 1 := by decide
theorem edge4b : C.width 55203 = 2 := by decide
theorem edge5a : C.width 65377 = 1 := by decide
theorem edge5b : C.width 65376 = 2 := by decide
theorem edge6a : C.width 127743 = 1 := by decide
theorem edge6b : C.width 127744 = 2 := by decide
theorem edge7a : C.width 129792 = 1 := by decide
theorem edge7b : C.width 129791 = 2 := by decide
theorem edge8a : C.width 131071 = 1 := by decide
theorem edge8b : C.width 131072 = 2 := by decide
theorem edge9a : C.width 262142 = 1 := by decide
theorem edge9b : C.width 262141 = 2 := by decide
theorem width_low {k : Int} (h : k < 32) : C.width k = 0 := by unfold C.width; rw [if_pos (by omega)]
theorem width_mid {k : Int} (h : 32 ≤ k) (h1 : k < 127) : C.width k = 1 := by
  unfold C.width C.spans
  rw [if_neg (by omega)]
  repeat (rw [C.find_cons_out (by omega)])
  rfl
theorem width_high {k : Int} (h : 127 ≤ k) (h1 : k < 160) : C.width k = 0 := by
  unfold C.width C.spans
  rw [if_neg (by omega), C.find_cons_in (by omega)]
theorem width_m1 : C.width (-1) = 0 := by decide
theorem width_over : C.width 1114112 = 0 := by decide
theorem width_sur : C.width 55296 = 0 := by decide
theorem width_a0 : C.width 160 = 1 := by decide
set_option maxHeartbeats 4000000 in
theorem cellWidths_of (n k v : Int) (w : World) (hs : Spans w) (hk : Hid (n % 160 = k)) (hv : Hid (C.width k = v)) (hn0 : -9223372036854775808 ≤ n) (hn1 : n ≤ 9223372036854775807) (hk0 : 0 ≤ k) (hk1 : k < 160)
    (hc : (k < 32 ∧ v = 0) ∨ ((32 ≤ k ∧ k < 127) ∧ v = 1) ∨ (127 ≤ k ∧ v = 0)) :
    Calls Tryd.prog 6 #[.int .i64 n] w fun e w' => e = .returned (.bool true) ∧ Below w.heap.size w w' := by
  have kw := fun w' => within_is n 0 159 k (by have := hk.out; omega) w' hn0 hn1 (by omega) (by omega) (by omega)
  have KW := hide kw
  have HSP := hide hs
  clear kw hs
  rcases hc with ⟨h, rfl⟩ | ⟨h, rfl⟩ | ⟨h, rfl⟩
  all_goals
    go_enter Tryd.func6, Tryd.ntmps6
    go_wp2_with fail
    refine (KW.out _).mono ?_
    rintro e w1 ⟨rfl, rfl⟩
    go_wp2_with fail
    go_loopw [27] (fun i wr => ∃ j : Nat, j ≤ 10 ∧ i = .int .i64 j ∧ Box wr w.heap.size 42 edgeCells ∧ Below w.heap.size w wr) (fun i _ => 10 - (intOf i).toNat)
    case atStart => exact ⟨0, by omega, rfl, Box.new w _ _, (Below.refl _ _).alloc (Nat.le_refl _) _⟩
    case round =>
      obtain ⟨j, hj, rfl, hb, hbel⟩ := hrel
      have hsz := hbel.size
      obtain hlt | rfl : j < 10 ∨ j = 10 := by omega
      · obtain rfl | rfl | rfl | rfl | rfl | rfl | rfl | rfl | rfl | rfl : j = 0 ∨ j = 1 ∨ j = 2 ∨ j = 3 ∨ j = 4 ∨ j = 5 ∨ j = 6 ∨ j = 7 ∨ j = 8 ∨ j = 9 := by omega
        · have c0 := hb.cell 0
          have c1 := hb.cell 1
          simp only [edgeCells, List.getElem?_toArray, List.getElem?_cons_zero, List.getElem?_cons_succ] at c0 c1
          have lt := hb.lt
          have bs := hbel.alloc hsz (.cells #[.int .i32 4351, .int .i32 4352] 42)
          have hx := Box.new wr 42 #[.int .i32 4351, .int .i32 4352]
          have hb2 := hb.alloc (.cells #[.int .i32 4351, .int .i32 4352] 42)
          go_wp2_with fail
          refine (width_is 4351 1 edge0a _ (by omega) (by omega) (HSP.out.below bs HSP.out.lt)).mono ?_
          rintro e w2 ⟨rfl, c⟩
          have hx2 := hx.below c hx.lt
          have hb3 := hb2.below c hb2.lt
          have bs2 := bs.trans (c.mono bs.size)
          have y0 := hx2.cell 1
          simp only [List.getElem?_toArray, List.getElem?_cons_zero, List.getElem?_cons_succ] at y0
          clear c hx hb hb2 c0 c1 bs hbel
          go_wp2_with fail
          refine (width_is 4352 2 edge0b _ (by omega) (by omega) (HSP.out.below bs2 HSP.out.lt)).mono ?_
          rintro e w3 ⟨rfl, c⟩
          have hb4 := hb3.below c hb3.lt
          have bs3 := bs2.trans (c.mono bs2.size)
          clear c hx2 hb3 bs2 y0
          go_wp2_with fail
          go_roundw
          case rel => exact ⟨1, by omega, by go_num, hb4, bs3⟩
          case measure => simp [intOf]
        · have c0 := hb.cell 2
          have c1 := hb.cell 3
          simp only [edgeCells, List.getElem?_toArray, List.getElem?_cons_zero, List.getElem?_cons_succ] at c0 c1
          have lt := hb.lt
          have bs := hbel.alloc hsz (.cells #[.int .i32 11903, .int .i32 11904] 42)
          have hx := Box.new wr 42 #[.int .i32 11903, .int .i32 11904]
          have hb2 := hb.alloc (.cells #[.int .i32 11903, .int .i32 11904] 42)
          go_wp2_with fail
          refine (width_is 11903 1 edge1a _ (by omega) (by omega) (HSP.out.below bs HSP.out.lt)).mono ?_
          rintro e w2 ⟨rfl, c⟩
          have hx2 := hx.below c hx.lt
          have hb3 := hb2.below c hb2.lt
          have bs2 := bs.trans (c.mono bs.size)
          have y0 := hx2.cell 1
          simp only [List.getElem?_toArray, List.getElem?_cons_zero, List.getElem?_cons_succ] at y0
          clear c hx hb hb2 c0 c1 bs hbel
          go_wp2_with fail
          refine (width_is 11904 2 edge1b _ (by omega) (by omega) (HSP.out.below bs2 HSP.out.lt)).mono ?_
          rintro e w3 ⟨rfl, c⟩
          have hb4 := hb3.below c hb3.lt
          have bs3 := bs2.trans (c.mono bs2.size)
          clear c hx2 hb3 bs2 y0
          go_wp2_with fail
          go_roundw
          case rel => exact ⟨2, by omega, by go_num, hb4, bs3⟩
          case measure => simp [intOf]
        · have c0 := hb.cell 4
          have c1 := hb.cell 5
          simp only [edgeCells, List.getElem?_toArray, List.getElem?_cons_zero, List.getElem?_cons_succ] at c0 c1
          have lt := hb.lt
          have bs := hbel.alloc hsz (.cells #[.int .i32 42192, .int .i32 42191] 42)
          have hx := Box.new wr 42 #[.int .i32 42192, .int .i32 42191]
          have hb2 := hb.alloc (.cells #[.int .i32 42192, .int .i32 42191] 42)
          go_wp2_with fail
          refine (width_is 42192 1 edge2a _ (by omega) (by omega) (HSP.out.below bs HSP.out.lt)).mono ?_
          rintro e w2 ⟨rfl, c⟩
          have hx2 := hx.below c hx.lt
          have hb3 := hb2.below c hb2.lt
          have bs2 := bs.trans (c.mono bs.size)
          have y0 := hx2.cell 1
          simp only [List.getElem?_toArray, List.getElem?_cons_zero, List.getElem?_cons_succ] at y0
          clear c hx hb hb2 c0 c1 bs hbel
          go_wp2_with fail
          refine (width_is 42191 2 edge2b _ (by omega) (by omega) (HSP.out.below bs2 HSP.out.lt)).mono ?_
          rintro e w3 ⟨rfl, c⟩
          have hb4 := hb3.below c hb3.lt
          have bs3 := bs2.trans (c.mono bs2.size)
          clear c hx2 hb3 bs2 y0
          go_wp2_with fail
          go_roundw
          case rel => exact ⟨3, by omega, by go_num, hb4, bs3⟩
          case measure => simp [intOf]
        · have c0 := hb.cell 6
          have c1 := hb.cell 7
          simp only [edgeCells, List.getElem?_toArray, List.getElem?_cons_zero, List.getElem?_cons_succ] at c0 c1
          have lt := hb.lt
          have bs := hbel.alloc hsz (.cells #[.int .i32 44031, .int .i32 44032] 42)
          have hx := Box.new wr 42 #[.int .i32 44031, .int .i32 44032]
          have hb2 := hb.alloc (.cells #[.int .i32 44031, .int .i32 44032] 42)
          go_wp2_with fail
          refine (width_is 44031 1 edge3a _ (by omega) (by omega) (HSP.out.below bs HSP.out.lt)).mono ?_
          rintro e w2 ⟨rfl, c⟩
          have hx2 := hx.below c hx.lt
          have hb3 := hb2.below c hb2.lt
          have bs2 := bs.trans (c.mono bs.size)
          have y0 := hx2.cell 1
          simp only [List.getElem?_toArray, List.getElem?_cons_zero, List.getElem?_cons_succ] at y0
          clear c hx hb hb2 c0 c1 bs hbel
          go_wp2_with fail
          refine (width_is 44032 2 edge3b _ (by omega) (by omega) (HSP.out.below bs2 HSP.out.lt)).mono ?_
          rintro e w3 ⟨rfl, c⟩
          have hb4 := hb3.below c hb3.lt
          have bs3 := bs2.trans (c.mono bs2.size)
          clear c hx2 hb3 bs2 y0
          go_wp2_with fail
          go_roundw
          case rel => exact ⟨4, by omega, by go_num, hb4, bs3⟩
          case measure => simp [intOf]
        · have c0 := hb.cell 8
          have c1 := hb.cell 9
          simp only [edgeCells, List.getElem?_toArray, List.getElem?_cons_zero, List.getElem?_cons_succ] at c0 c1
          have lt := hb.lt
          have bs := hbel.alloc hsz (.cells #[.int .i32 55204, .int .i32 55203] 42)
          have hx := Box.new wr 42 #[.int .i32 55204, .int .i32 55203]
          have hb2 := hb.alloc (.cells #[.int .i32 55204, .int .i32 55203] 42)
          go_wp2_with fail
          refine (width_is 55204 1 edge4a _ (by omega) (by omega) (HSP.out.below bs HSP.out.lt)).mono ?_
          rintro e w2 ⟨rfl, c⟩
          have hx2 := hx.below c hx.lt
          have hb3 := hb2.below c hb2.lt
          have bs2 := bs.trans (c.mono bs.size)
          have y0 := hx2.cell 1
          simp only [List.getElem?_toArray, List.getElem?_cons_zero, List.getElem?_cons_succ] at y0
          clear c hx hb hb2 c0 c1 bs hbel
          go_wp2_with fail
          refine (width_is 55203 2 edge4b _ (by omega) (by omega) (HSP.out.below bs2 HSP.out.lt)).mono ?_
          rintro e w3 ⟨rfl, c⟩
          have hb4 := hb3.below c hb3.lt
          have bs3 := bs2.trans (c.mono bs2.size)
          clear c hx2 hb3 bs2 y0
          go_wp2_with fail
          go_roundw
          case rel => exact ⟨5, by omega, by go_num, hb4, bs3⟩
          case measure => simp [intOf]
        · have c0 := hb.cell 10
          have c1 := hb.cell 11
          simp only [edgeCells, List.getElem?_toArray, List.getElem?_cons_zero, List.getElem?_cons_succ] at c0 c1
          have lt := hb.lt
          have bs := hbel.alloc hsz (.cells #[.int .i32 65377, .int .i32 65376] 42)
          have hx := Box.new wr 42 #[.int .i32 65377, .int .i32 65376]
          have hb2 := hb.alloc (.cells #[.int .i32 65377, .int .i32 65376] 42)
          go_wp2_with fail
          refine (width_is 65377 1 edge5a _ (by omega) (by omega) (HSP.out.below bs HSP.out.lt)).mono ?_
          rintro e w2 ⟨rfl, c⟩
          have hx2 := hx.below c hx.lt
          have hb3 := hb2.below c hb2.lt
          have bs2 := bs.trans (c.mono bs.size)
          have y0 := hx2.cell 1
          simp only [List.getElem?_toArray, List.getElem?_cons_zero, List.getElem?_cons_succ] at y0
          clear c hx hb hb2 c0 c1 bs hbel
          go_wp2_with fail
          refine (width_is 65376 2 edge5b _ (by omega) (by omega) (HSP.out.below bs2 HSP.out.lt)).mono ?_
          rintro e w3 ⟨rfl, c⟩
          have hb4 := hb3.below c hb3.lt
          have bs3 := bs2.trans (c.mono bs2.size)
          clear c hx2 hb3 bs2 y0
          go_wp2_with fail
          go_roundw
          case rel => exact ⟨6, by omega, by go_num, hb4, bs3⟩
          case measure => simp [intOf]
        · have c0 := hb.cell 12
          have c1 := hb.cell 13
          simp only [edgeCells, List.getElem?_toArray, List.getElem?_cons_zero, List.getElem?_cons_succ] at c0 c1
          have lt := hb.lt
          have bs := hbel.alloc hsz (.cells #[.int .i32 127743, .int .i32 127744] 42)
          have hx := Box.new wr 42 #[.int .i32 127743, .int .i32 127744]
          have hb2 := hb.alloc (.cells #[.int .i32 127743, .int .i32 127744] 42)
          go_wp2_with fail
          refine (width_is 127743 1 edge6a _ (by omega) (by omega) (HSP.out.below bs HSP.out.lt)).mono ?_
          rintro e w2 ⟨rfl, c⟩
          have hx2 := hx.below c hx.lt
          have hb3 := hb2.below c hb2.lt
          have bs2 := bs.trans (c.mono bs.size)
          have y0 := hx2.cell 1
          simp only [List.getElem?_toArray, List.getElem?_cons_zero, List.getElem?_cons_succ] at y0
          clear c hx hb hb2 c0 c1 bs hbel
          go_wp2_with fail
          refine (width_is 127744 2 edge6b _ (by omega) (by omega) (HSP.out.below bs2 HSP.out.lt)).mono ?_
          rintro e w3 ⟨rfl, c⟩
          have hb4 := hb3.below c hb3.lt
          have bs3 := bs2.trans (c.mono bs2.size)
          clear c hx2 hb3 bs2 y0
          go_wp2_with fail
          go_roundw
          case rel => exact ⟨7, by omega, by go_num, hb4, bs3⟩
          case measure => simp [intOf]
        · have c0 := hb.cell 14
          have c1 := hb.cell 15
          simp only [edgeCells, List.getElem?_toArray, List.getElem?_cons_zero, List.getElem?_cons_succ] at c0 c1
          have lt := hb.lt
          have bs := hbel.alloc hsz (.cells #[.int .i32 129792, .int .i32 129791] 42)
          have hx := Box.new wr 42 #[.int .i32 129792, .int .i32 129791]
          have hb2 := hb.alloc (.cells #[.int .i32 129792, .int .i32 129791] 42)
          go_wp2_with fail
          refine (width_is 129792 1 edge7a _ (by omega) (by omega) (HSP.out.below bs HSP.out.lt)).mono ?_
          rintro e w2 ⟨rfl, c⟩
          have hx2 := hx.below c hx.lt
          have hb3 := hb2.below c hb2.lt
          have bs2 := bs.trans (c.mono bs.size)
          have y0 := hx2.cell 1
          simp only [List.getElem?_toArray, List.getElem?_cons_zero, List.getElem?_cons_succ] at y0
          clear c hx hb hb2 c0 c1 bs hbel
          go_wp2_with fail
          refine (width_is 129791 2 edge7b _ (by omega) (by omega) (HSP.out.below bs2 HSP.out.lt)).mono ?_
          rintro e w3 ⟨rfl, c⟩
          have hb4 := hb3.below c hb3.lt
          have bs3 := bs2.trans (c.mono bs2.size)
          clear c hx2 hb3 bs2 y0
          go_wp2_with fail
          go_roundw
          case rel => exact ⟨8, by omega, by go_num, hb4, bs3⟩
          case measure => simp [intOf]
        · have c0 := hb.cell 16
          have c1 := hb.cell 17
          simp only [edgeCells, List.getElem?_toArray, List.getElem?_cons_zero, List.getElem?_cons_succ] at c0 c1
          have lt := hb.lt
          have bs := hbel.alloc hsz (.cells #[.int .i32 131071, .int .i32 131072] 42)
          have hx := Box.new wr 42 #[.int .i32 131071, .int .i32 131072]
          have hb2 := hb.alloc (.cells #[.int .i32 131071, .int .i32 131072] 42)
          go_wp2_with fail
          refine (width_is 131071 1 edge8a _ (by omega) (by omega) (HSP.out.below bs HSP.out.lt)).mono ?_
          rintro e w2 ⟨rfl, c⟩
          have hx2 := hx.below c hx.lt
          have hb3 := hb2.below c hb2.lt
          have bs2 := bs.trans (c.mono bs.size)
          have y0 := hx2.cell 1
          simp only [List.getElem?_toArray, List.getElem?_cons_zero, List.getElem?_cons_succ] at y0
          clear c hx hb hb2 c0 c1 bs hbel
          go_wp2_with fail
          refine (width_is 131072 2 edge8b _ (by omega) (by omega) (HSP.out.below bs2 HSP.out.lt)).mono ?_
          rintro e w3 ⟨rfl, c⟩
          have hb4 := hb3.below c hb3.lt
          have bs3 := bs2.trans (c.mono bs2.size)
          clear c hx2 hb3 bs2 y0
          go_wp2_with fail
          go_roundw
          case rel => exact ⟨9, by omega, by go_num, hb4, bs3⟩
          case measure => simp [intOf]
        · have c0 := hb.cell 18
          have c1 := hb.cell 19
          simp only [edgeCells, List.getElem?_toArray, List.getElem?_cons_zero, List.getElem?_cons_succ] at c0 c1
          have lt := hb.lt
          have bs := hbel.alloc hsz (.cells #[.int .i32 262142, .int .i32 262141] 42)
          have hx := Box.new wr 42 #[.int .i32 262142, .int .i32 262141]
          have hb2 := hb.alloc (.cells #[.int .i32 262142, .int .i32 262141] 42)
          go_wp2_with fail
          refine (width_is 262142 1 edge9a _ (by omega) (by omega) (HSP.out.below bs HSP.out.lt)).mono ?_
          rintro e w2 ⟨rfl, c⟩
          have hx2 := hx.below c hx.lt
          have hb3 := hb2.below c hb2.lt
          have bs2 := bs.trans (c.mono bs.size)
          have y0 := hx2.cell 1
          simp only [List.getElem?_toArray, List.getElem?_cons_zero, List.getElem?_cons_succ] at y0
          clear c hx hb hb2 c0 c1 bs hbel
          go_wp2_with fail
          refine (width_is 262141 2 edge9b _ (by omega) (by omega) (HSP.out.below bs2 HSP.out.lt)).mono ?_
          rintro e w3 ⟨rfl, c⟩
          have hb4 := hb3.below c hb3.lt
          have bs3 := bs2.trans (c.mono bs2.size)
          clear c hx2 hb3 bs2 y0
          go_wp2_with fail
          go_roundw
          case rel => exact ⟨10, by omega, by go_num, hb4, bs3⟩
          case measure => simp [intOf]
      · clear hb hsz
        go_wp2_with fail
        refine (width_is k _ hv.out _ (by omega) (by omega) (HSP.out.below hbel HSP.out.lt)).mono ?_
        rintro e w2 ⟨rfl, c⟩
        have b2 := hbel.trans (c.mono hbel.size)
        clear c hbel
        go_wp2_with fail
        refine (width_is (-1) 0 width_m1 _ (by omega) (by omega) (HSP.out.below b2 HSP.out.lt)).mono ?_
        rintro e w3 ⟨rfl, c⟩
        have b3 := b2.trans (c.mono b2.size)
        clear c b2
        go_wp2_with fail
        refine (width_is (1114112) 0 width_over _ (by omega) (by omega) (HSP.out.below b3 HSP.out.lt)).mono ?_
        rintro e w4 ⟨rfl, c⟩
        have b4 := b3.trans (c.mono b3.size)
        clear c b3
        go_wp2_with fail
        refine (width_is (55296) 0 width_sur _ (by omega) (by omega) (HSP.out.below b4 HSP.out.lt)).mono ?_
        rintro e w5 ⟨rfl, c⟩
        have b5 := b4.trans (c.mono b4.size)
        clear c b4
        go_wp2_with fail
        refine (width_is (160) 1 width_a0 _ (by omega) (by omega) (HSP.out.below b5 HSP.out.lt)).mono ?_
        rintro e w6 ⟨rfl, c⟩
        have b6 := b5.trans (c.mono b5.size)
        clear c b5
        go_wp2_with fail
        refine (cellRuns_any _ (HSP.out.below b6 HSP.out.lt)).mono ?_
        rintro e w7 ⟨rfl, c⟩
        have b7 := b6.trans (c.mono b6.size)
        clear c b6
        go_wp2_with fail
        go_ret
        exact ⟨rfl, b7⟩
theorem cellWidths_any (n : Int) (w : World) (hn : (Lit.int .i64 n).wf = true) (hs : Spans w) :
    Calls Tryd.prog 6 #[.int .i64 n] w fun e w' => e = .returned (.bool true) ∧ Below w.heap.size w w' := by
  obtain ⟨h0, h1⟩ := bounds_i64 hn
  have hk : 0 ≤ n % 160 ∧ n % 160 < 160 := by omega
  have cs : n % 160 < 32 ∨ (32 ≤ n % 160 ∧ n % 160 < 127) ∨ 127 ≤ n % 160 := by omega
  rcases cs with h | h | h
  · exact cellWidths_of n (n % 160) 0 w hs (hide rfl) (hide (width_low h)) h0 h1 hk.1 hk.2 (.inl ⟨h, rfl⟩)
  · exact cellWidths_of n (n % 160) 1 w hs (hide rfl) (hide (width_mid h.1 h.2)) h0 h1 hk.1 hk.2 (.inr (.inl ⟨h, rfl⟩))
  · exact cellWidths_of n (n % 160) 0 w hs (hide rfl) (hide (width_high h hk.2)) h0 h1 hk.1 hk.2 (.inr (.inr ⟨h, rfl⟩))
end Go.Proofs.YtcadaeidcdnldaaDoor
