/- The landed package modes, told plainly: Known, holds, Report, All, Set. (written by tools/genmodesuse.py) -/
import Derived.Test.YtdcdinlppjlmfaaDoorModesSpec
import Derived.Test.YtdcdinlppjlmfaaDoorCursorUse
import Derived.Test.YtdcdinlppjlmfaaDoorScreenFit
import Derived.Test.YtdcdinlppjlmfaaDoorScreenYes
import Derived.Deep.DeepCutAuto
set_option maxRecDepth 100000
namespace Go.Proofs.YtdcdinlppjlmfaaDoor
open Go Go.RowKit
set_option linter.unusedVariables false
def modeCells : Array Value := #[.int .i64 1, .int .i64 6, .int .i64 7, .int .i64 25]
/-- the table of modes is as the program's text lays it -/
def MTab (w : World) : Prop := ∃ t, w.heap[0]? = some (.cells modeCells t (0, 0))
theorem MTab.lt {w : World} (h : MTab w) : 0 < w.heap.size := by
  obtain ⟨t, h⟩ := h
  exact (Array.getElem?_eq_some_iff.1 h).1
theorem MTab.below {w w' : World} {B : Nat} (h : MTab w) (hb : Below B w w') (hB : 0 < B) : MTab w' := by
  obtain ⟨t, h⟩ := h
  exact ⟨t, (hb.block _ hB).trans h⟩
theorem MTab.keep {w w' : World} (h : MTab w) (hb : Below w.heap.size w w') : MTab w' := h.below hb h.lt
theorem gModes : Tryd.prog.globalNamed "linguist/modes.known" = some 0 := by kernel_rfl
theorem tModes : (Tryd.prog.globals[0]?).map (·.type) = some 65 := by kernel_rfl
theorem tilesModes : tiled Tryd.prog 4 65 = true := by kernel_rfl
theorem flatModes : flat (H := Unit) Rows.laid_linguist_modes_known = some modeCells.toList := by rfl
theorem modes_laid {w : World} {l : List (String × DataW Unit)} (h : laidMet Tryd.prog l w) (hm : ("linguist/modes.known", Rows.laid_linguist_modes_known) ∈ l) : MTab w := by
  obtain ⟨t, ht⟩ := laid_flat_mem 4 gModes tModes tilesModes flatModes (by simp [modeCells]) h hm
  exact ⟨t, by simpa using ht⟩
theorem mode0 (w : World) : (Instr.index 65 (.agg modeCells) (.int .i64 0)).run Tryd.prog w = .ok (.int .i64 1) w := by kernel_rfl
theorem mode1 (w : World) : (Instr.index 65 (.agg modeCells) (.int .i64 1)).run Tryd.prog w = .ok (.int .i64 6) w := by kernel_rfl
theorem mode2 (w : World) : (Instr.index 65 (.agg modeCells) (.int .i64 2)).run Tryd.prog w = .ok (.int .i64 7) w := by kernel_rfl
theorem mode3 (w : World) : (Instr.index 65 (.agg modeCells) (.int .i64 3)).run Tryd.prog w = .ok (.int .i64 25) w := by kernel_rfl
theorem size_modes : (Tryd.prog.info? 65).map (·.size) = some modeCells.size := by kernel_rfl
/-- the first k of the table's numbers are not n -/
def NotYet (n : Int) (k : Nat) : Prop := ∀ j : Nat, j < k → (([1, 6, 7, 25] : List Int).getD j 0) ≠ n
theorem NotYet.next {n : Int} {k : Nat} (h : NotYet n k) (hk : (([1, 6, 7, 25] : List Int).getD k 0) ≠ n) : NotYet n (k + 1) := fun j hj => by
  by_cases e : j = k
  · subst e
    exact hk
  · exact h j (by omega)
theorem NotYet.none {n : Int} (h : NotYet n 4) : ¬ SN.IsMode n := fun hm => by
  rcases hm with rfl | rfl | rfl | rfl
  · exact h 0 (by omega) rfl
  · exact h 1 (by omega) rfl
  · exact h 2 (by omega) rfl
  · exact h 3 (by omega) rfl
set_option maxHeartbeats 4000000 in
theorem mknown_is (n : Int) (w : World) (hT : MTab w) : Calls Tryd.prog 17 #[.int .i64 n] w fun e w' => e = .returned (.bool (decide (SN.IsMode n))) ∧ Below w.heap.size w w' := by
  have HY := hide (fun (b : Bool) (h : b = true → SN.IsMode n) (h' : b = false → ¬ SN.IsMode n) => (show Ending.returned (.bool b) = .returned (.bool (decide (SN.IsMode n))) from by
    cases b
    · rw [decide_eq_false (h' rfl)]
    · rw [decide_eq_true (h rfl)]))
  obtain ⟨tt, hg⟩ := hT
  have lt : 0 < w.heap.size := (Array.getElem?_eq_some_iff.1 hg).1
  have i0 := mode0
  have i1 := mode1
  have i2 := mode2
  have i3 := mode3
  have hsz : modeCells.size = 4 := rfl
  generalize hcs : modeCells = cs at hg hsz i0 i1 i2 i3
  have size_cs : (Tryd.prog.info? 65).map (·.size) = some cs.size := by rw [← hcs]; exact size_modes
  have SC := hide size_cs
  clear hcs hsz size_cs
  go_enter Tryd.func17, Tryd.ntmps17
  go_wp2_with (refine wpList_load_row rfl 65 _ rfl 0 rfl tt cs (0, 0) _ hg Tryd.underlying65 rfl SC.out ?_)
  go_loopw [6] (fun i wr => ∃ k : Nat, k ≤ 4 ∧ i = .int .i64 k ∧ NotYet n k ∧ Below w.heap.size w wr) (fun i _ => 4 - (intOf i).toNat)
  case atStart => exact ⟨0, by omega, rfl, fun j hj => absurd hj (by omega), Below.refl _ _⟩
  case round =>
    obtain ⟨k, hk, rfl, hf, hbel⟩ := hrel
    have hsz := hbel.size
    have HF := hide hf
    clear hf
    obtain hlt | rfl : k < 4 ∨ k = 4 := by omega
    · obtain rfl | rfl | rfl | rfl : k = 0 ∨ k = 1 ∨ k = 2 ∨ k = 3 := by omega
      · by_cases ha : n = 1
        · subst ha
          go_wp2
          go_ret
          exact ⟨HY.out true (fun _ => by unfold SN.IsMode; omega) (fun h => by cases h), hbel⟩
        · have eq : ((1 : Int) == n) = false := by simp; omega
          go_wp2
          go_roundw
          case rel => exact ⟨1, by omega, by go_num, HF.out.next (show (1 : Int) ≠ n by omega), hbel⟩
          case measure => simp [intOf]
      · by_cases ha : n = 6
        · subst ha
          go_wp2
          go_ret
          exact ⟨HY.out true (fun _ => by unfold SN.IsMode; omega) (fun h => by cases h), hbel⟩
        · have eq : ((6 : Int) == n) = false := by simp; omega
          go_wp2
          go_roundw
          case rel => exact ⟨2, by omega, by go_num, HF.out.next (show (6 : Int) ≠ n by omega), hbel⟩
          case measure => simp [intOf]
      · by_cases ha : n = 7
        · subst ha
          go_wp2
          go_ret
          exact ⟨HY.out true (fun _ => by unfold SN.IsMode; omega) (fun h => by cases h), hbel⟩
        · have eq : ((7 : Int) == n) = false := by simp; omega
          go_wp2
          go_roundw
          case rel => exact ⟨3, by omega, by go_num, HF.out.next (show (7 : Int) ≠ n by omega), hbel⟩
          case measure => simp [intOf]
      · by_cases ha : n = 25
        · subst ha
          go_wp2
          go_ret
          exact ⟨HY.out true (fun _ => by unfold SN.IsMode; omega) (fun h => by cases h), hbel⟩
        · have eq : ((25 : Int) == n) = false := by simp; omega
          go_wp2
          go_roundw
          case rel => exact ⟨4, by omega, by go_num, HF.out.next (show (25 : Int) ≠ n by omega), hbel⟩
          case measure => simp [intOf]
    · go_wp2
      go_ret
      exact ⟨HY.out false (fun h => by cases h) (fun _ => HF.out.none), hbel⟩
set_option maxHeartbeats 4000000 in
theorem mall_is (w : World) (hT : MTab w) : Calls Tryd.prog 11 #[] w fun e w' => ∃ A c, e = .returned (.slice A 4 c) ∧ Seen w' w'.heap.size A 4 (([1, 6, 7, 25] : List Int).map (.int .i64)) ∧ Below w.heap.size w w' := by
  obtain ⟨tt, hg⟩ := hT
  have lt : 0 < w.heap.size := (Array.getElem?_eq_some_iff.1 hg).1
  have SC := hide (show (Tryd.prog.info? 65).map (·.size) = some (#[.int .i64 1, .int .i64 6, .int .i64 7, .int .i64 25] : Array Value).size from size_modes)
  unfold modeCells at hg
  go_enter Tryd.func11, Tryd.ntmps11
  go_wp2_with (refine wpList_load_row rfl 65 _ rfl 0 rfl tt #[.int .i64 1, .int .i64 6, .int .i64 7, .int .i64 25] (0, 0) _ hg Tryd.underlying65 rfl SC.out ?_)
  go_ret
  exact ⟨_, _, rfl, (Seen.fresh (B := w.heap.size + 1) (t := 65) (cs := #[.int .i64 1, .int .i64 6, .int .i64 7, .int .i64 25]) rfl rfl rfl rfl).more (by simp), (Below.refl _ _).alloc (Nat.le_refl _) _⟩
set_option maxHeartbeats 4000000 in
theorem mset_1 (s : SN.Sc) (v : Value) (on : Bool) (w : World) (hs : SN.RightS s) (h : IsS w s v) : Calls Tryd.prog 7 #[v, .int .i64 1, .bool on] w (GotS w (SN.modeS s 1 on)) := by
  have RT := SN.right_mode hs 1 on
  obtain ⟨x, rfl, hg⟩ := h
  obtain ⟨A, cp, rfl⟩ := gv_slice hg
  have hgr := hs.g.2.1
  have hgc := hs.g.2.2.2.1
  have hR1 := hs.g.1
  have hK1 := hs.g.2.2.1
  have HG := hide hg
  have AT := hide (fun w' v' h => (show Calls Tryd.prog 20 #[v'] w' (GotS w' (s.u18 on)) from scopy_got _ v' RT w' h))
  clear RT hg hs
  go_enter Tryd.func7, Tryd.ntmps7
  go_upto_region 1 with (first | (refine wpList_box_scr rfl _ rfl rfl ?_; intro g w1 hB hb1 hg1) | (refine wpList_alloc_scr rfl rfl ?_; intro gR w2 csR hR hsR hb2 hgR))
  have HB2 := hide (hB.below hb2 hB.lt)
  have HW2 := hide (hb1.trans (hb2.mono hb1.size))
  have HR2 := hide hR
  have HG2 := hide (HG.out.low HW2.out)
  have hb1s := hb1.size
  have hne : gR ≠ g := by have := hB.lt; omega
  have hgR' : w.heap.size ≤ gR := by omega
  clear hB hb1 hb2 hR HG
  have k18 := HB2.out.c18
  have z18 := HB2.out.fz 18
  go_upto_region 12 with fail
  have HB3 := hide (HB2.out.set18 on)
  have HR3 := hide (HR2.out.far (p := ⟨g, 18, none⟩) hne (.bool on))
  have HW3 := hide (HW2.out.setCell (p := ⟨g, 18, none⟩) hg1 (.bool on))
  have HG3 := hide (IsG.puts HG2.out HB2.out 18 (.bool on))
  generalize (w2.setCell ⟨g, 18, none⟩ (.bool on)) = w3 at HB3 HR3 HW3 HG3 ⊢
  clear k18 z18 HB2 HR2 HW2 HG2
  go_wp2_with (refine wpList_load_scr HB3.out rfl _ rfl rfl ?_)
  refine (AT.out _ _ ⟨_, rfl, HG3.out⟩).mono ?_
  rintro e w7 ⟨v7, rfl, ⟨x7, rfl, hg7⟩, hb7⟩
  obtain ⟨A7, c7, rfl⟩ := gv_slice hg7
  have HR7 := hide (HR3.out.below hb7 HR3.out.lt)
  have HW7 := hide (HW3.out.trans (hb7.mono HW3.out.size))
  have HG7 := hide hg7
  clear hb7 hg7 HB3 HR3 HW3 HG3
  go_wp2_with (refine wpList_store_scr HR7.out hsR rfl _ _ rfl rfl rfl rfl ?_; intro w8 hB8 hk8 hs8)
  exact bodyPost_ret (results_scr rfl rfl hB8) rfl ⟨_, rfl, ⟨_, rfl, HG7.out.kept HR7.out (by decide) hk8⟩, HW7.out.trans (hk8.toBelow HW7.out.size (fun k hh => by simp at hh; omega))⟩
set_option maxHeartbeats 4000000 in
theorem mset_25 (s : SN.Sc) (v : Value) (on : Bool) (w : World) (hs : SN.RightS s) (h : IsS w s v) : Calls Tryd.prog 7 #[v, .int .i64 25, .bool on] w (GotS w (SN.modeS s 25 on)) := by
  have RT := SN.right_mode hs 25 on
  obtain ⟨x, rfl, hg⟩ := h
  obtain ⟨A, cp, rfl⟩ := gv_slice hg
  have hgr := hs.g.2.1
  have hgc := hs.g.2.2.2.1
  have hR1 := hs.g.1
  have hK1 := hs.g.2.2.1
  have HG := hide hg
  have AT := hide (fun w' v' h => (show Calls Tryd.prog 20 #[v'] w' (GotS w' (s.u17 on)) from scopy_got _ v' RT w' h))
  clear RT hg hs
  go_enter Tryd.func7, Tryd.ntmps7
  go_upto_region 1 with (first | (refine wpList_box_scr rfl _ rfl rfl ?_; intro g w1 hB hb1 hg1) | (refine wpList_alloc_scr rfl rfl ?_; intro gR w2 csR hR hsR hb2 hgR))
  have HB2 := hide (hB.below hb2 hB.lt)
  have HW2 := hide (hb1.trans (hb2.mono hb1.size))
  have HR2 := hide hR
  have HG2 := hide (HG.out.low HW2.out)
  have hb1s := hb1.size
  have hne : gR ≠ g := by have := hB.lt; omega
  have hgR' : w.heap.size ≤ gR := by omega
  clear hB hb1 hb2 hR HG
  have k17 := HB2.out.c17
  have z17 := HB2.out.fz 17
  go_upto_region 12 with fail
  have HB3 := hide (HB2.out.set17 on)
  have HR3 := hide (HR2.out.far (p := ⟨g, 17, none⟩) hne (.bool on))
  have HW3 := hide (HW2.out.setCell (p := ⟨g, 17, none⟩) hg1 (.bool on))
  have HG3 := hide (IsG.puts HG2.out HB2.out 17 (.bool on))
  generalize (w2.setCell ⟨g, 17, none⟩ (.bool on)) = w3 at HB3 HR3 HW3 HG3 ⊢
  clear k17 z17 HB2 HR2 HW2 HG2
  go_wp2_with (refine wpList_load_scr HB3.out rfl _ rfl rfl ?_)
  refine (AT.out _ _ ⟨_, rfl, HG3.out⟩).mono ?_
  rintro e w7 ⟨v7, rfl, ⟨x7, rfl, hg7⟩, hb7⟩
  obtain ⟨A7, c7, rfl⟩ := gv_slice hg7
  have HR7 := hide (HR3.out.below hb7 HR3.out.lt)
  have HW7 := hide (HW3.out.trans (hb7.mono HW3.out.size))
  have HG7 := hide hg7
  clear hb7 hg7 HB3 HR3 HW3 HG3
  go_wp2_with (refine wpList_store_scr HR7.out hsR rfl _ _ rfl rfl rfl rfl ?_; intro w8 hB8 hk8 hs8)
  exact bodyPost_ret (results_scr rfl rfl hB8) rfl ⟨_, rfl, ⟨_, rfl, HG7.out.kept HR7.out (by decide) hk8⟩, HW7.out.trans (hk8.toBelow HW7.out.size (fun k hh => by simp at hh; omega))⟩
set_option maxHeartbeats 4000000 in
theorem mset_6 (s : SN.Sc) (v : Value) (on : Bool) (w : World) (hs : SN.RightS s) (h : IsS w s v) : Calls Tryd.prog 7 #[v, .int .i64 6, .bool on] w (GotS w (SN.modeS s 6 on)) := by
  have RT := SN.right_mode hs 6 on
  obtain ⟨x, rfl, hg⟩ := h
  obtain ⟨A, cp, rfl⟩ := gv_slice hg
  have hgr := hs.g.2.1
  have hgc := hs.g.2.2.2.1
  have hR1 := hs.g.1
  have hK1 := hs.g.2.2.1
  have HG := hide hg
  have AT := hide (fun w' v' h => (show Calls Tryd.prog 19 #[v'] w' (GotS w' (SN.modeS s 6 on)) from chome_is (s.u16 on) v' w' (SN.right_u16 hs on) h))
  clear RT hg hs
  go_enter Tryd.func7, Tryd.ntmps7
  go_upto_region 1 with (first | (refine wpList_box_scr rfl _ rfl rfl ?_; intro g w1 hB hb1 hg1) | (refine wpList_alloc_scr rfl rfl ?_; intro gR w2 csR hR hsR hb2 hgR))
  have HB2 := hide (hB.below hb2 hB.lt)
  have HW2 := hide (hb1.trans (hb2.mono hb1.size))
  have HR2 := hide hR
  have HG2 := hide (HG.out.low HW2.out)
  have hb1s := hb1.size
  have hne : gR ≠ g := by have := hB.lt; omega
  have hgR' : w.heap.size ≤ gR := by omega
  clear hB hb1 hb2 hR HG
  have k16 := HB2.out.c16
  have z16 := HB2.out.fz 16
  go_upto_region 6 with fail
  have HB3 := hide (HB2.out.set16 on)
  have HR3 := hide (HR2.out.far (p := ⟨g, 16, none⟩) hne (.bool on))
  have HW3 := hide (HW2.out.setCell (p := ⟨g, 16, none⟩) hg1 (.bool on))
  have HG3 := hide (IsG.puts HG2.out HB2.out 16 (.bool on))
  generalize (w2.setCell ⟨g, 16, none⟩ (.bool on)) = w3 at HB3 HR3 HW3 HG3 ⊢
  clear k16 z16 HB2 HR2 HW2 HG2
  go_wp2_with (refine wpList_load_scr HB3.out rfl _ rfl rfl ?_)
  refine (AT.out _ _ ⟨_, rfl, HG3.out⟩).mono ?_
  rintro e w7 ⟨v7, rfl, ⟨x7, rfl, hg7⟩, hb7⟩
  obtain ⟨A7, c7, rfl⟩ := gv_slice hg7
  have HR7 := hide (HR3.out.below hb7 HR3.out.lt)
  have HW7 := hide (HW3.out.trans (hb7.mono HW3.out.size))
  have HG7 := hide hg7
  clear hb7 hg7 HB3 HR3 HW3 HG3
  go_wp2_with (refine wpList_store_scr HR7.out hsR rfl _ _ rfl rfl rfl rfl ?_; intro w8 hB8 hk8 hs8)
  exact bodyPost_ret (results_scr rfl rfl hB8) rfl ⟨_, rfl, ⟨_, rfl, HG7.out.kept HR7.out (by decide) hk8⟩, HW7.out.trans (hk8.toBelow HW7.out.size (fun k hh => by simp at hh; omega))⟩
set_option maxHeartbeats 4000000 in
theorem mset_7 (s : SN.Sc) (v : Value) (on : Bool) (w : World) (hs : SN.RightS s) (h : IsS w s v) : Calls Tryd.prog 7 #[v, .int .i64 7, .bool on] w (GotS w (SN.modeS s 7 on)) := by
  have RT := SN.right_mode hs 7 on
  obtain ⟨x, rfl, hg⟩ := h
  obtain ⟨A, cp, rfl⟩ := gv_slice hg
  have hgr := hs.g.2.1
  have hgc := hs.g.2.2.2.1
  have hR1 := hs.g.1
  have hK1 := hs.g.2.2.1
  have HG := hide hg
  cases hb : s.pend with
  | true =>
    have AT := hide (fun w' v' h => (show Calls Tryd.prog 20 #[v'] w' (GotS w' ((s.u15 on).u5 on)) from scopy_got _ v' (by have := RT; rw [SN.mode_7, hb] at this; exact this) w' h))
    rw [SN.mode_7, hb]
    rw [show (true && on) = on from Bool.true_and on]
    clear RT hg hs
    go_enter Tryd.func7, Tryd.ntmps7
    go_upto_region 1 with (first | (refine wpList_box_scr rfl _ rfl rfl ?_; intro g w1 hB hb1 hg1) | (refine wpList_alloc_scr rfl rfl ?_; intro gR w2 csR hR hsR hb2 hgR))
    have HB2 := hide (hB.below hb2 hB.lt)
    have HW2 := hide (hb1.trans (hb2.mono hb1.size))
    have HR2 := hide hR
    have HG2 := hide (HG.out.low HW2.out)
    have hb1s := hb1.size
    have hne : gR ≠ g := by have := hB.lt; omega
    have hgR' : w.heap.size ≤ gR := by omega
    clear hB hb1 hb2 hR HG
    have k15 := HB2.out.c15
    have z15 := HB2.out.fz 15
    go_upto_region 9 with fail
    have HB3 := hide (HB2.out.set15 on)
    have HR3 := hide (HR2.out.far (p := ⟨g, 15, none⟩) hne (.bool on))
    have HW3 := hide (HW2.out.setCell (p := ⟨g, 15, none⟩) hg1 (.bool on))
    have HG3 := hide (IsG.puts HG2.out HB2.out 15 (.bool on))
    generalize (w2.setCell ⟨g, 15, none⟩ (.bool on)) = w3 at HB3 HR3 HW3 HG3 ⊢
    clear k15 z15 HB2 HR2 HW2 HG2
    have k5 : w3.cell? ⟨g, 5, none⟩ = some (.bool true) := HB3.out.c5.trans (by rw [show (s.u15 on).pend = true from hb])
    have z5 := HB3.out.fz 5
    go_upto_region 12 with fail
    have HB4 := hide (HB3.out.set5 on)
    have HR4 := hide (HR3.out.far (p := ⟨g, 5, none⟩) hne (.bool on))
    have HW4 := hide (HW3.out.setCell (p := ⟨g, 5, none⟩) hg1 (.bool on))
    have HG4 := hide (IsG.puts HG3.out HB3.out 5 (.bool on))
    generalize (w3.setCell ⟨g, 5, none⟩ (.bool on)) = w4 at HB4 HR4 HW4 HG4 ⊢
    clear k5 z5 HB3 HR3 HW3 HG3
    go_wp2_with (refine wpList_load_scr HB4.out rfl _ rfl rfl ?_)
    refine (AT.out _ _ ⟨_, rfl, HG4.out⟩).mono ?_
    rintro e w7 ⟨v7, rfl, ⟨x7, rfl, hg7⟩, hb7⟩
    obtain ⟨A7, c7, rfl⟩ := gv_slice hg7
    have HR7 := hide (HR4.out.below hb7 HR4.out.lt)
    have HW7 := hide (HW4.out.trans (hb7.mono HW4.out.size))
    have HG7 := hide hg7
    clear hb7 hg7 HB4 HR4 HW4 HG4
    go_wp2_with (refine wpList_store_scr HR7.out hsR rfl _ _ rfl rfl rfl rfl ?_; intro w8 hB8 hk8 hs8)
    exact bodyPost_ret (results_scr rfl rfl hB8) rfl ⟨_, rfl, ⟨_, rfl, HG7.out.kept HR7.out (by decide) hk8⟩, HW7.out.trans (hk8.toBelow HW7.out.size (fun k hh => by simp at hh; omega))⟩
  | false =>
    have AT := hide (fun w' v' h => (show Calls Tryd.prog 20 #[v'] w' (GotS w' ((s.u15 on).u5 false)) from scopy_got _ v' (by have := RT; rw [SN.mode_7, hb] at this; exact this) w' h))
    rw [SN.mode_7, hb]
    rw [show (false && on) = false from Bool.false_and on]
    clear RT hg hs
    go_enter Tryd.func7, Tryd.ntmps7
    go_upto_region 1 with (first | (refine wpList_box_scr rfl _ rfl rfl ?_; intro g w1 hB hb1 hg1) | (refine wpList_alloc_scr rfl rfl ?_; intro gR w2 csR hR hsR hb2 hgR))
    have HB2 := hide (hB.below hb2 hB.lt)
    have HW2 := hide (hb1.trans (hb2.mono hb1.size))
    have HR2 := hide hR
    have HG2 := hide (HG.out.low HW2.out)
    have hb1s := hb1.size
    have hne : gR ≠ g := by have := hB.lt; omega
    have hgR' : w.heap.size ≤ gR := by omega
    clear hB hb1 hb2 hR HG
    have k15 := HB2.out.c15
    have z15 := HB2.out.fz 15
    go_upto_region 9 with fail
    have HB3 := hide (HB2.out.set15 on)
    have HR3 := hide (HR2.out.far (p := ⟨g, 15, none⟩) hne (.bool on))
    have HW3 := hide (HW2.out.setCell (p := ⟨g, 15, none⟩) hg1 (.bool on))
    have HG3 := hide (IsG.puts HG2.out HB2.out 15 (.bool on))
    generalize (w2.setCell ⟨g, 15, none⟩ (.bool on)) = w3 at HB3 HR3 HW3 HG3 ⊢
    clear k15 z15 HB2 HR2 HW2 HG2
    have k5 : w3.cell? ⟨g, 5, none⟩ = some (.bool false) := HB3.out.c5.trans (by rw [show (s.u15 on).pend = false from hb])
    have z5 := HB3.out.fz 5
    go_upto_region 12 with fail
    have HB4 := hide (HB3.out.set5 false)
    have HR4 := hide (HR3.out.far (p := ⟨g, 5, none⟩) hne (.bool false))
    have HW4 := hide (HW3.out.setCell (p := ⟨g, 5, none⟩) hg1 (.bool false))
    have HG4 := hide (IsG.puts HG3.out HB3.out 5 (.bool false))
    generalize (w3.setCell ⟨g, 5, none⟩ (.bool false)) = w4 at HB4 HR4 HW4 HG4 ⊢
    clear k5 z5 HB3 HR3 HW3 HG3
    go_wp2_with (refine wpList_load_scr HB4.out rfl _ rfl rfl ?_)
    refine (AT.out _ _ ⟨_, rfl, HG4.out⟩).mono ?_
    rintro e w7 ⟨v7, rfl, ⟨x7, rfl, hg7⟩, hb7⟩
    obtain ⟨A7, c7, rfl⟩ := gv_slice hg7
    have HR7 := hide (HR4.out.below hb7 HR4.out.lt)
    have HW7 := hide (HW4.out.trans (hb7.mono HW4.out.size))
    have HG7 := hide hg7
    clear hb7 hg7 HB4 HR4 HW4 HG4
    go_wp2_with (refine wpList_store_scr HR7.out hsR rfl _ _ rfl rfl rfl rfl ?_; intro w8 hB8 hk8 hs8)
    exact bodyPost_ret (results_scr rfl rfl hB8) rfl ⟨_, rfl, ⟨_, rfl, HG7.out.kept HR7.out (by decide) hk8⟩, HW7.out.trans (hk8.toBelow HW7.out.size (fun k hh => by simp at hh; omega))⟩
set_option maxHeartbeats 4000000 in
theorem mset_no (s : SN.Sc) (v : Value) (n : Int) (on : Bool) (w : World) (hn : ¬ SN.IsMode n) (hs : SN.RightS s) (h : IsS w s v) : Calls Tryd.prog 7 #[v, .int .i64 n, .bool on] w (GotS w (SN.modeS s n on)) := by
  rw [SN.mode_no s on hn]
  unfold SN.IsMode at hn
  have e1 : (n == 1) = false := by simp; omega
  have e2 : (n == 6) = false := by simp; omega
  have e3 : (n == 7) = false := by simp; omega
  have e4 : (n == 25) = false := by simp; omega
  obtain ⟨x, rfl, hg⟩ := h
  obtain ⟨A, cp, rfl⟩ := gv_slice hg
  have hgr := hs.g.2.1
  have hgc := hs.g.2.2.2.1
  have hR1 := hs.g.1
  have hK1 := hs.g.2.2.1
  have HG := hide hg
  have AT := hide (fun w' v' h => scopy_got s v' hs w' h)
  clear hg hs hn
  go_enter Tryd.func7, Tryd.ntmps7
  go_upto_region 1 with (first | (refine wpList_box_scr rfl _ rfl rfl ?_; intro g w1 hB hb1 hg1) | (refine wpList_alloc_scr rfl rfl ?_; intro gR w2 csR hR hsR hb2 hgR))
  have HB2 := hide (hB.below hb2 hB.lt)
  have HW2 := hide (hb1.trans (hb2.mono hb1.size))
  have HR2 := hide hR
  have HG2 := hide (HG.out.low HW2.out)
  have hb1s := hb1.size
  have hne : gR ≠ g := by have := hB.lt; omega
  have hgR' : w.heap.size ≤ gR := by omega
  clear hB hb1 hb2 hR HG
  go_wp2_with (refine wpList_load_scr HB2.out rfl _ rfl rfl ?_)
  refine (AT.out _ _ ⟨_, rfl, HG2.out⟩).mono ?_
  rintro e w7 ⟨v7, rfl, ⟨x7, rfl, hg7⟩, hb7⟩
  obtain ⟨A7, c7, rfl⟩ := gv_slice hg7
  have HR7 := hide (HR2.out.below hb7 HR2.out.lt)
  have HW7 := hide (HW2.out.trans (hb7.mono HW2.out.size))
  have HG7 := hide hg7
  clear hb7 hg7 HB2 HR2 HW2 HG2
  go_wp2_with (refine wpList_store_scr HR7.out hsR rfl _ _ rfl rfl rfl rfl ?_; intro w8 hB8 hk8 hs8)
  exact bodyPost_ret (results_scr rfl rfl hB8) rfl ⟨_, rfl, ⟨_, rfl, HG7.out.kept HR7.out (by decide) hk8⟩, HW7.out.trans (hk8.toBelow HW7.out.size (fun k hh => by simp at hh; omega))⟩
theorem mset_is (s : SN.Sc) (v : Value) (n : Int) (on : Bool) (w : World) (hs : SN.RightS s) (h : IsS w s v) : Calls Tryd.prog 7 #[v, .int .i64 n, .bool on] w (GotS w (SN.modeS s n on)) := by
  by_cases hn : SN.IsMode n
  · rcases hn with rfl | rfl | rfl | rfl
    · exact mset_1 s v on w hs h
    · exact mset_6 s v on w hs h
    · exact mset_7 s v on w hs h
    · exact mset_25 s v on w hs h
  · exact mset_no s v n on w hn hs h
set_option maxHeartbeats 4000000 in
theorem mholds_is (s : SN.Sc) (v : Value) (n : Int) (w : World) (h : IsS w s v) : Calls Tryd.prog 24 #[v, .int .i64 n] w fun e w' => e = .returned (.bool (SN.modeV s n)) ∧ Below w.heap.size w w' := by
  obtain ⟨x, rfl, hg⟩ := h
  obtain ⟨A, cp, rfl⟩ := gv_slice hg
  clear hg
  unfold SN.modeV
  by_cases h1 : n = 1
  · rw [if_pos h1]
    subst h1
    go_enter Tryd.func24, Tryd.ntmps24
    go_upto_region 1 with (first | (refine wpList_box_scr rfl _ rfl rfl ?_; intro g w1 hB hb1 hg1))
    have k18 := hB.c18
    go_wp2_with fail
    go_ret
    exact ⟨rfl, hb1⟩
  rw [if_neg h1]
  by_cases h2 : n = 6
  · rw [if_pos h2]
    subst h2
    go_enter Tryd.func24, Tryd.ntmps24
    go_upto_region 1 with (first | (refine wpList_box_scr rfl _ rfl rfl ?_; intro g w1 hB hb1 hg1))
    have k16 := hB.c16
    go_wp2_with fail
    go_ret
    exact ⟨rfl, hb1⟩
  rw [if_neg h2]
  by_cases h3 : n = 7
  · rw [if_pos h3]
    subst h3
    go_enter Tryd.func24, Tryd.ntmps24
    go_upto_region 1 with (first | (refine wpList_box_scr rfl _ rfl rfl ?_; intro g w1 hB hb1 hg1))
    have k15 := hB.c15
    go_wp2_with fail
    go_ret
    exact ⟨rfl, hb1⟩
  rw [if_neg h3]
  have e1 : (n == 1) = false := by simp; omega
  have e2 : (n == 6) = false := by simp; omega
  have e3 : (n == 7) = false := by simp; omega
  clear h1 h2 h3
  go_enter Tryd.func24, Tryd.ntmps24
  go_upto_region 1 with (first | (refine wpList_box_scr rfl _ rfl rfl ?_; intro g w1 hB hb1 hg1))
  have k17 := hB.c17
  go_wp2_with fail
  go_ret
  exact ⟨rfl, hb1⟩
set_option maxHeartbeats 4000000 in
theorem mreport_is (s : SN.Sc) (v : Value) (n : Int) (w : World) (hT : MTab w) (h : IsS w s v) : Calls Tryd.prog 9 #[v, .int .i64 n] w fun e w' => e = .returned (.int .i64 (SN.reportS s n)) ∧ Below w.heap.size w w' := by
  have KN := hide (fun w' (hb : Below w.heap.size w w') => mknown_is n w' (hT.keep hb))
  obtain ⟨x, rfl, hg⟩ := h
  obtain ⟨A, cp, rfl⟩ := gv_slice hg
  have HG := hide hg
  obtain ⟨b, hb⟩ : ∃ b, decide (SN.IsMode n) = b := ⟨_, rfl⟩
  rw [hb] at KN
  have HV := hide (fun w' v' h => mholds_is s v' n w' h)
  obtain ⟨q, hq⟩ : ∃ q, SN.modeV s n = q := ⟨_, rfl⟩
  rw [hq] at HV
  obtain ⟨r, hr⟩ : ∃ r, SN.reportS s n = r := ⟨_, rfl⟩
  have ER := hide (show r = if b = true then (if q = true then 1 else 2) else 0 by
    subst hr hb hq
    unfold SN.reportS
    simp only [decide_eq_true_eq])
  rw [hr]
  clear hg hb hq hr hT
  go_enter Tryd.func9, Tryd.ntmps9
  go_upto_region 1 with (first | (refine wpList_box_scr rfl _ rfl rfl ?_; intro g w1 hB hb1 hg1))
  have HB1 := hide hB
  have HW1 := hide hb1
  have HG1 := hide (HG.out.low HW1.out)
  clear hB hb1 HG
  go_wp2_with fail
  refine (KN.out _ HW1.out).mono ?_
  rintro e w2 ⟨rfl, hb2⟩
  have HB2 := hide (HB1.out.below hb2 HB1.out.lt)
  have HW2 := hide (HW1.out.trans (hb2.mono HW1.out.size))
  have HG2 := hide (HG1.out.low hb2)
  clear hb2 HB1 HW1 HG1
  cases b with
  | false =>
    obtain rfl : r = 0 := ER.out
    go_wp2_with fail
    go_ret
    exact ⟨rfl, HW2.out⟩
  | true =>
    go_wp2_with (refine wpList_load_scr HB2.out rfl _ rfl rfl ?_)
    refine (HV.out _ _ ⟨_, rfl, HG2.out⟩).mono ?_
    rintro e w3 ⟨rfl, hb3⟩
    have HW3 := hide (HW2.out.trans (hb3.mono HW2.out.size))
    clear hb3 HB2 HW2 HG2
    cases q with
    | false =>
      obtain rfl : r = 2 := ER.out
      go_wp2_with fail
      go_ret
      exact ⟨rfl, HW3.out⟩
    | true =>
      obtain rfl : r = 1 := ER.out
      go_wp2_with fail
      go_ret
      exact ⟨rfl, HW3.out⟩
end Go.Proofs.YtdcdinlppjlmfaaDoor
