/- CellTells: any rune, any pen: how wide; may it be. -/
import Derived.Test.YtcadaeidcdnldaaDoorCellRuns
import Derived.Test.YtcadaeidcdnldaaDoorRefWidth
import Derived.Test.YtcadaeidcdnldaaDoorRefPen
import Derived.Test.YtcadaeidcdnldaaDoorPenEq
import Derived.Test.YtcadaeidcdnldaaDoorArgs
import Derived.Deep.RegionHeld3
import Derived.OpenShut
namespace Go.Proofs.YtcadaeidcdnldaaDoor
open Go.RowKit
set_option linter.unusedVariables false
theorem cell_later {w wx : World} {a : Addr} {v : Value} (hb : Below w.heap.size w wx) (h : w.cell? a = some v) : wx.cell? a = some v := (hb.cell (World.block_lt_of_cell? _ _ h)).trans h
theorem refWidth_is (r v : Int) (hv : C.width r = v) (w : World) (hr0 : -2147483648 ≤ r) (hr1 : r ≤ 2147483647) :
    Calls Tryd.prog 13 #[.int .i32 r] w fun e w' => e = .returned (.int .i64 v) ∧ Below w.heap.size w w' := by
  subst hv
  exact refWidth_any r w hr0 hr1
theorem refRight_is (f b g : Int) (r : Bool) (h : C.right f b g = r) (w : World) : Calls Tryd.prog 14 #[.agg #[.int .i64 f, .int .i64 b, .int .i64 g]] w fun e w' => e = .returned (.bool r) ∧ Below w.heap.size w w' := by
  subst h
  refine (refRight_any f b g w).mono ?_
  rintro e w' ⟨he, rfl⟩
  exact ⟨he, (Below.refl _ _).alloc (Nat.le_refl _) _⟩
theorem with_is (f b g z : Int) (A : Option Addr) (n c B : Nat) (l : List Int) (w : World) (hz : C.ors g l = z) (hB : B ≤ w.heap.size) (hA : Seen w B A n (l.map (Value.int .i64))) (hn : n ≤ 1099511627776) :
    Calls Tryd.prog 15 #[.agg #[.int .i64 f, .int .i64 b, .int .i64 g], .slice A n c] w fun e w' => e = .returned (.agg #[.int .i64 f, .int .i64 b, .int .i64 z]) ∧ Below w.heap.size w w' := by
  subst hz
  exact with_any f b g A n c l w (hA.more hB) hn
set_option maxHeartbeats 4000000 in
theorem cellTells_short (r f b g : Int) (A : Option Addr) (n c : Nat) (l : List Int) (w : World) (hr0 : -2147483648 ≤ r) (hr1 : r ≤ 2147483647) (hA : Arg .i64 w A n c l) (hs : Spans w)
    (hm5 : n ≤ 5) :
    Calls Tryd.prog 4 #[.int .i32 r, .agg #[.int .i64 f, .int .i64 b, .int .i64 g], .slice A n c] w fun e w' => e = .returned (.bool true) ∧ Below w.heap.size w w' := by
  have hc := hA.cap
  unfold maxLen at hc
  have hle := hA.le
  have hlen := hA.len
  have hS := hA.seen
  have hm1 : (n : Int) ≤ 5 := by omega
  generalize hown : l = own at hlen hS
  clear hown
  have HS := hide hS
  have HL := hide hlen
  have HSP := hide hs
  have ep := eql_pen
  have ec := eql_cell
  generalize hv : C.width r = v
  have HV := hide hv
  generalize hq : C.right f b g = q
  have HQ := hide hq
  clear hA hS hlen hs hv hq
  go_enter Tryd.func4, Tryd.ntmps4
  go_wp2_with fail
  go_loopw [20] (fun i wr => ∃ k : Nat, k ≤ n ∧ i = .int .i64 k ∧ Box wr w.heap.size 26 #[.int .i64 f, .int .i64 b, .int .i64 g] ∧ Box wr (w.heap.size + 1) 26 #[.int .i64 f, .int .i64 b, .int .i64 (C.ors g (own.take k))] ∧ Below w.heap.size w wr)
    (fun i _ => n - (intOf i).toNat)
  case atStart => exact ⟨0, Nat.zero_le _, rfl, (Box.new w _ _).alloc _, by have h := Box.new (w.alloc (.cells #[.int .i64 f, .int .i64 b, .int .i64 g] 26)) 26 #[.int .i64 f, .int .i64 b, .int .i64 g]; rw [World.size_alloc] at h; exact h, ((Below.refl _ _).alloc (Nat.le_refl _) _).alloc (by simp) _⟩
  case round =>
    obtain ⟨k, hk, rfl, hb, hr, hbel⟩ := hrel
    by_cases hlt : k < n
    · obtain ⟨ad, u, rfl, _, hu, hc⟩ := (HS.out.below hbel).at_ hlt
      rw [List.getElem?_map] at hu
      obtain ⟨x, hx, rfl⟩ := Option.map_eq_some_iff.1 hu
      have ho := C.ors_snoc g (own.take k) x
      rw [show own.take k ++ [x] = own.take (k + 1) from by rw [List.take_add_one, hx]; rfl] at ho
      have HO := hide ho
      clear hu hx ho
      generalize C.ors g (own.take k) = z at hr HO
      obtain ⟨k0, k1, k2, k3, k4, k5⟩ := hr.three
      go_wp2_with fail
      go_roundw
      case rel =>
        refine ⟨k + 1, by omega, by go_num, Box.far hb (by simp) _, ?_, hbel.setCell (by simp) _⟩
        rw [HO.out]
        exact hr.set 2 _
      case measure => simp [intOf]; omega
    · obtain rfl : k = n := by omega
      rw [List.take_of_length_le (by rw [HL.out]; omega)] at hr
      generalize hz : C.ors g own = z at hr
      have HZ := hide hz
      clear hz
      obtain ⟨k0, k1, k2, k3, k4, k5⟩ := hb.three
      go_wp2_with fail
      refine (blank_any _ _ _ _).mono ?_
      rintro e w3 ⟨rfl, bb⟩
      have hb3 := hb.below bb hb.lt
      have hr3 := hr.below bb hr.lt
      have bel3 := hbel.trans (bb.mono hbel.size)
      clear hb hr hbel bb k0 k1 k2 k3 k4 k5
      go_wp2_with fail
      have hx4 := Box.new w3 30 #[.int .i32 32, .int .i64 0, .int .i64 f, .int .i64 b, .int .i64 g]
      have hb4 := hb3.alloc (.cells #[.int .i32 32, .int .i64 0, .int .i64 f, .int .i64 b, .int .i64 g] 30)
      have hr4 := hr3.alloc (.cells #[.int .i32 32, .int .i64 0, .int .i64 f, .int .i64 b, .int .i64 g] 30)
      have bel4 := bel3.alloc bel3.size (.cells #[.int .i32 32, .int .i64 0, .int .i64 f, .int .i64 b, .int .i64 g] 30)
      obtain ⟨k0, k1, k2, _, _, _⟩ := hb4.three
      obtain ⟨j0, j1, j2, _, _, _⟩ := hr4.three
      have x0 := hx4.cell 0
      have x1 := hx4.cell 1
      have x2 := hx4.cell 2
      have x3 := hx4.cell 3
      have x4 := hx4.cell 4
      simp only [List.getElem?_toArray, List.getElem?_cons_zero, List.getElem?_cons_succ] at x0 x1 x2 x3 x4
      clear hb3 hr3 bel3 hx4 hb4 hr4
      have KEEP : ∀ wa wb : World, (Below w.heap.size w wa ∧ wa.cell? ⟨w.heap.size, 0, none⟩ = some (.int .i64 f) ∧ wa.cell? ⟨w.heap.size, 1, none⟩ = some (.int .i64 b) ∧ wa.cell? ⟨w.heap.size, 2, none⟩ = some (.int .i64 g)
          ∧ wa.cell? ⟨w.heap.size + 1, 0, none⟩ = some (.int .i64 f) ∧ wa.cell? ⟨w.heap.size + 1, 1, none⟩ = some (.int .i64 b) ∧ wa.cell? ⟨w.heap.size + 1, 2, none⟩ = some (.int .i64 z)
          ∧ wa.cell? ⟨w3.heap.size, 0, none⟩ = some (.int .i32 32) ∧ wa.cell? ⟨w3.heap.size, 1, none⟩ = some (.int .i64 0) ∧ wa.cell? ⟨w3.heap.size, 2, none⟩ = some (.int .i64 f) ∧ wa.cell? ⟨w3.heap.size, 3, none⟩ = some (.int .i64 b) ∧ wa.cell? ⟨w3.heap.size, 4, none⟩ = some (.int .i64 g)) → Below wa.heap.size wa wb → (Below w.heap.size w wb ∧ wb.cell? ⟨w.heap.size, 0, none⟩ = some (.int .i64 f) ∧ wb.cell? ⟨w.heap.size, 1, none⟩ = some (.int .i64 b) ∧ wb.cell? ⟨w.heap.size, 2, none⟩ = some (.int .i64 g)
          ∧ wb.cell? ⟨w.heap.size + 1, 0, none⟩ = some (.int .i64 f) ∧ wb.cell? ⟨w.heap.size + 1, 1, none⟩ = some (.int .i64 b) ∧ wb.cell? ⟨w.heap.size + 1, 2, none⟩ = some (.int .i64 z)
          ∧ wb.cell? ⟨w3.heap.size, 0, none⟩ = some (.int .i32 32) ∧ wb.cell? ⟨w3.heap.size, 1, none⟩ = some (.int .i64 0) ∧ wb.cell? ⟨w3.heap.size, 2, none⟩ = some (.int .i64 f) ∧ wb.cell? ⟨w3.heap.size, 3, none⟩ = some (.int .i64 b) ∧ wb.cell? ⟨w3.heap.size, 4, none⟩ = some (.int .i64 g)) := fun wa wb hh bb => ⟨hh.1.trans (bb.mono hh.1.size), cell_later bb hh.2.1, cell_later bb hh.2.2.1, cell_later bb hh.2.2.2.1, cell_later bb hh.2.2.2.2.1, cell_later bb hh.2.2.2.2.2.1, cell_later bb hh.2.2.2.2.2.2.1, cell_later bb hh.2.2.2.2.2.2.2.1, cell_later bb hh.2.2.2.2.2.2.2.2.1, cell_later bb hh.2.2.2.2.2.2.2.2.2.1, cell_later bb hh.2.2.2.2.2.2.2.2.2.2.1, cell_later bb hh.2.2.2.2.2.2.2.2.2.2.2⟩
      have HK := Lib.hid KEEP
      have B1 : ∀ wa : World, (Below w.heap.size w wa ∧ wa.cell? ⟨w.heap.size, 0, none⟩ = some (.int .i64 f) ∧ wa.cell? ⟨w.heap.size, 1, none⟩ = some (.int .i64 b) ∧ wa.cell? ⟨w.heap.size, 2, none⟩ = some (.int .i64 g)
          ∧ wa.cell? ⟨w.heap.size + 1, 0, none⟩ = some (.int .i64 f) ∧ wa.cell? ⟨w.heap.size + 1, 1, none⟩ = some (.int .i64 b) ∧ wa.cell? ⟨w.heap.size + 1, 2, none⟩ = some (.int .i64 z)
          ∧ wa.cell? ⟨w3.heap.size, 0, none⟩ = some (.int .i32 32) ∧ wa.cell? ⟨w3.heap.size, 1, none⟩ = some (.int .i64 0) ∧ wa.cell? ⟨w3.heap.size, 2, none⟩ = some (.int .i64 f) ∧ wa.cell? ⟨w3.heap.size, 3, none⟩ = some (.int .i64 b) ∧ wa.cell? ⟨w3.heap.size, 4, none⟩ = some (.int .i64 g)) → Below w.heap.size w wa := fun wa hh => hh.1
      have HB := Lib.hid B1
      clear KEEP B1
      go_region_held3 (fun w' => Below w.heap.size w w' ∧ w'.cell? ⟨w.heap.size, 0, none⟩ = some (.int .i64 f) ∧ w'.cell? ⟨w.heap.size, 1, none⟩ = some (.int .i64 b) ∧ w'.cell? ⟨w.heap.size, 2, none⟩ = some (.int .i64 g)
          ∧ w'.cell? ⟨w.heap.size + 1, 0, none⟩ = some (.int .i64 f) ∧ w'.cell? ⟨w.heap.size + 1, 1, none⟩ = some (.int .i64 b) ∧ w'.cell? ⟨w.heap.size + 1, 2, none⟩ = some (.int .i64 z)
          ∧ w'.cell? ⟨w3.heap.size, 0, none⟩ = some (.int .i32 32) ∧ w'.cell? ⟨w3.heap.size, 1, none⟩ = some (.int .i64 0) ∧ w'.cell? ⟨w3.heap.size, 2, none⟩ = some (.int .i64 f) ∧ w'.cell? ⟨w3.heap.size, 3, none⟩ = some (.int .i64 b) ∧ w'.cell? ⟨w3.heap.size, 4, none⟩ = some (.int .i64 g))
        (first | exact ⟨bel4.drew, k0, k1, k2, j0, j1, j2, x0, x1, x2, x3, x4⟩ | exact HK.out _ _ (by assumption) bb)
        (first | (go_at_call 8; refine (width_is r v HV.out _ hr0 hr1 (HSP.out.below (HB.out _ (by assumption)) HSP.out.lt)).mono ?_; rintro e w' ⟨rfl, bb⟩) | (go_at_call 13; refine (refWidth_is r v HV.out _ hr0 hr1).mono ?_; rintro e w' ⟨rfl, bb⟩) | (go_at_call 11; refine (right_be f b g q HQ.out _).mono ?_; rintro e w' ⟨rfl, bb⟩) | (go_at_call 14; refine (refRight_is f b g q HQ.out _).mono ?_; rintro e w' ⟨rfl, bb⟩) | (go_at_call 15; refine (with_is f b g z A _ c w.heap.size own _ HZ.out (HB.out _ (by assumption)).size (HS.out.below (HB.out _ (by assumption))) ?_).mono ?_; omega; rintro e w' ⟨rfl, bb⟩) | (go_at_call 3; refine (cellRuns_any _ (HSP.out.below (HB.out _ (by assumption)) HSP.out.lt)).mono ?_; rintro e w' ⟨rfl, bb⟩))
      all_goals
        go_wp2_with fail
        go_ret
        exact ⟨rfl, by first | assumption | exact HB.out _ (by assumption) | exact (HB.out _ (by assumption)).trans (bb.mono (HB.out _ (by assumption)).size)⟩
set_option maxHeartbeats 4000000 in
theorem cellTells_long (r f b g : Int) (A : Option Addr) (n c : Nat) (l : List Int) (w : World) (hr0 : -2147483648 ≤ r) (hr1 : r ≤ 2147483647) (hA : Arg .i64 w A n c l) (hs : Spans w)
    (hm5 : 5 < n) :
    Calls Tryd.prog 4 #[.int .i32 r, .agg #[.int .i64 f, .int .i64 b, .int .i64 g], .slice A n c] w fun e w' => e = .returned (.bool true) ∧ Below w.heap.size w w' := by
  have hc := hA.cap
  unfold maxLen at hc
  have hle := hA.le
  have hlen : (l.take 5).length = 5 := by rw [List.length_take, hA.len]; omega
  have hS : Seen w w.heap.size A 5 ((l.take 5).map (Value.int .i64)) := by rw [List.map_take]; exact hA.seen.take (by omega)
  have hm1 : (5 : Int) < n := by omega
  generalize l.take 5 = own at hlen hS
  have HS := hide hS
  have HL := hide hlen
  have HSP := hide hs
  have ep := eql_pen
  have ec := eql_cell
  generalize hv : C.width r = v
  have HV := hide hv
  generalize hq : C.right f b g = q
  have HQ := hide hq
  clear hA hS hlen hs hv hq
  go_enter Tryd.func4, Tryd.ntmps4
  go_wp2_with fail
  go_loopw [20] (fun i wr => ∃ k : Nat, k ≤ 5 ∧ i = .int .i64 k ∧ Box wr w.heap.size 26 #[.int .i64 f, .int .i64 b, .int .i64 g] ∧ Box wr (w.heap.size + 1) 26 #[.int .i64 f, .int .i64 b, .int .i64 (C.ors g (own.take k))] ∧ Below w.heap.size w wr)
    (fun i _ => 5 - (intOf i).toNat)
  case atStart => exact ⟨0, Nat.zero_le _, rfl, (Box.new w _ _).alloc _, by have h := Box.new (w.alloc (.cells #[.int .i64 f, .int .i64 b, .int .i64 g] 26)) 26 #[.int .i64 f, .int .i64 b, .int .i64 g]; rw [World.size_alloc] at h; exact h, ((Below.refl _ _).alloc (Nat.le_refl _) _).alloc (by simp) _⟩
  case round =>
    obtain ⟨k, hk, rfl, hb, hr, hbel⟩ := hrel
    by_cases hlt : k < 5
    · obtain ⟨ad, u, rfl, _, hu, hc⟩ := (HS.out.below hbel).at_ hlt
      rw [List.getElem?_map] at hu
      obtain ⟨x, hx, rfl⟩ := Option.map_eq_some_iff.1 hu
      have ho := C.ors_snoc g (own.take k) x
      rw [show own.take k ++ [x] = own.take (k + 1) from by rw [List.take_add_one, hx]; rfl] at ho
      have HO := hide ho
      clear hu hx ho
      generalize C.ors g (own.take k) = z at hr HO
      obtain ⟨k0, k1, k2, k3, k4, k5⟩ := hr.three
      go_wp2_with fail
      go_roundw
      case rel =>
        refine ⟨k + 1, by omega, by go_num, Box.far hb (by simp) _, ?_, hbel.setCell (by simp) _⟩
        rw [HO.out]
        exact hr.set 2 _
      case measure => simp [intOf]; omega
    · obtain rfl : k = 5 := by omega
      rw [List.take_of_length_le (by rw [HL.out]; omega)] at hr
      generalize hz : C.ors g own = z at hr
      have HZ := hide hz
      clear hz
      obtain ⟨k0, k1, k2, k3, k4, k5⟩ := hb.three
      go_wp2_with fail
      refine (blank_any _ _ _ _).mono ?_
      rintro e w3 ⟨rfl, bb⟩
      have hb3 := hb.below bb hb.lt
      have hr3 := hr.below bb hr.lt
      have bel3 := hbel.trans (bb.mono hbel.size)
      clear hb hr hbel bb k0 k1 k2 k3 k4 k5
      go_wp2_with fail
      have hx4 := Box.new w3 30 #[.int .i32 32, .int .i64 0, .int .i64 f, .int .i64 b, .int .i64 g]
      have hb4 := hb3.alloc (.cells #[.int .i32 32, .int .i64 0, .int .i64 f, .int .i64 b, .int .i64 g] 30)
      have hr4 := hr3.alloc (.cells #[.int .i32 32, .int .i64 0, .int .i64 f, .int .i64 b, .int .i64 g] 30)
      have bel4 := bel3.alloc bel3.size (.cells #[.int .i32 32, .int .i64 0, .int .i64 f, .int .i64 b, .int .i64 g] 30)
      obtain ⟨k0, k1, k2, _, _, _⟩ := hb4.three
      obtain ⟨j0, j1, j2, _, _, _⟩ := hr4.three
      have x0 := hx4.cell 0
      have x1 := hx4.cell 1
      have x2 := hx4.cell 2
      have x3 := hx4.cell 3
      have x4 := hx4.cell 4
      simp only [List.getElem?_toArray, List.getElem?_cons_zero, List.getElem?_cons_succ] at x0 x1 x2 x3 x4
      clear hb3 hr3 bel3 hx4 hb4 hr4
      have KEEP : ∀ wa wb : World, (Below w.heap.size w wa ∧ wa.cell? ⟨w.heap.size, 0, none⟩ = some (.int .i64 f) ∧ wa.cell? ⟨w.heap.size, 1, none⟩ = some (.int .i64 b) ∧ wa.cell? ⟨w.heap.size, 2, none⟩ = some (.int .i64 g)
          ∧ wa.cell? ⟨w.heap.size + 1, 0, none⟩ = some (.int .i64 f) ∧ wa.cell? ⟨w.heap.size + 1, 1, none⟩ = some (.int .i64 b) ∧ wa.cell? ⟨w.heap.size + 1, 2, none⟩ = some (.int .i64 z)
          ∧ wa.cell? ⟨w3.heap.size, 0, none⟩ = some (.int .i32 32) ∧ wa.cell? ⟨w3.heap.size, 1, none⟩ = some (.int .i64 0) ∧ wa.cell? ⟨w3.heap.size, 2, none⟩ = some (.int .i64 f) ∧ wa.cell? ⟨w3.heap.size, 3, none⟩ = some (.int .i64 b) ∧ wa.cell? ⟨w3.heap.size, 4, none⟩ = some (.int .i64 g)) → Below wa.heap.size wa wb → (Below w.heap.size w wb ∧ wb.cell? ⟨w.heap.size, 0, none⟩ = some (.int .i64 f) ∧ wb.cell? ⟨w.heap.size, 1, none⟩ = some (.int .i64 b) ∧ wb.cell? ⟨w.heap.size, 2, none⟩ = some (.int .i64 g)
          ∧ wb.cell? ⟨w.heap.size + 1, 0, none⟩ = some (.int .i64 f) ∧ wb.cell? ⟨w.heap.size + 1, 1, none⟩ = some (.int .i64 b) ∧ wb.cell? ⟨w.heap.size + 1, 2, none⟩ = some (.int .i64 z)
          ∧ wb.cell? ⟨w3.heap.size, 0, none⟩ = some (.int .i32 32) ∧ wb.cell? ⟨w3.heap.size, 1, none⟩ = some (.int .i64 0) ∧ wb.cell? ⟨w3.heap.size, 2, none⟩ = some (.int .i64 f) ∧ wb.cell? ⟨w3.heap.size, 3, none⟩ = some (.int .i64 b) ∧ wb.cell? ⟨w3.heap.size, 4, none⟩ = some (.int .i64 g)) := fun wa wb hh bb => ⟨hh.1.trans (bb.mono hh.1.size), cell_later bb hh.2.1, cell_later bb hh.2.2.1, cell_later bb hh.2.2.2.1, cell_later bb hh.2.2.2.2.1, cell_later bb hh.2.2.2.2.2.1, cell_later bb hh.2.2.2.2.2.2.1, cell_later bb hh.2.2.2.2.2.2.2.1, cell_later bb hh.2.2.2.2.2.2.2.2.1, cell_later bb hh.2.2.2.2.2.2.2.2.2.1, cell_later bb hh.2.2.2.2.2.2.2.2.2.2.1, cell_later bb hh.2.2.2.2.2.2.2.2.2.2.2⟩
      have HK := Lib.hid KEEP
      have B1 : ∀ wa : World, (Below w.heap.size w wa ∧ wa.cell? ⟨w.heap.size, 0, none⟩ = some (.int .i64 f) ∧ wa.cell? ⟨w.heap.size, 1, none⟩ = some (.int .i64 b) ∧ wa.cell? ⟨w.heap.size, 2, none⟩ = some (.int .i64 g)
          ∧ wa.cell? ⟨w.heap.size + 1, 0, none⟩ = some (.int .i64 f) ∧ wa.cell? ⟨w.heap.size + 1, 1, none⟩ = some (.int .i64 b) ∧ wa.cell? ⟨w.heap.size + 1, 2, none⟩ = some (.int .i64 z)
          ∧ wa.cell? ⟨w3.heap.size, 0, none⟩ = some (.int .i32 32) ∧ wa.cell? ⟨w3.heap.size, 1, none⟩ = some (.int .i64 0) ∧ wa.cell? ⟨w3.heap.size, 2, none⟩ = some (.int .i64 f) ∧ wa.cell? ⟨w3.heap.size, 3, none⟩ = some (.int .i64 b) ∧ wa.cell? ⟨w3.heap.size, 4, none⟩ = some (.int .i64 g)) → Below w.heap.size w wa := fun wa hh => hh.1
      have HB := Lib.hid B1
      clear KEEP B1
      go_region_held3 (fun w' => Below w.heap.size w w' ∧ w'.cell? ⟨w.heap.size, 0, none⟩ = some (.int .i64 f) ∧ w'.cell? ⟨w.heap.size, 1, none⟩ = some (.int .i64 b) ∧ w'.cell? ⟨w.heap.size, 2, none⟩ = some (.int .i64 g)
          ∧ w'.cell? ⟨w.heap.size + 1, 0, none⟩ = some (.int .i64 f) ∧ w'.cell? ⟨w.heap.size + 1, 1, none⟩ = some (.int .i64 b) ∧ w'.cell? ⟨w.heap.size + 1, 2, none⟩ = some (.int .i64 z)
          ∧ w'.cell? ⟨w3.heap.size, 0, none⟩ = some (.int .i32 32) ∧ w'.cell? ⟨w3.heap.size, 1, none⟩ = some (.int .i64 0) ∧ w'.cell? ⟨w3.heap.size, 2, none⟩ = some (.int .i64 f) ∧ w'.cell? ⟨w3.heap.size, 3, none⟩ = some (.int .i64 b) ∧ w'.cell? ⟨w3.heap.size, 4, none⟩ = some (.int .i64 g))
        (first | exact ⟨bel4.drew, k0, k1, k2, j0, j1, j2, x0, x1, x2, x3, x4⟩ | exact HK.out _ _ (by assumption) bb)
        (first | (go_at_call 8; refine (width_is r v HV.out _ hr0 hr1 (HSP.out.below (HB.out _ (by assumption)) HSP.out.lt)).mono ?_; rintro e w' ⟨rfl, bb⟩) | (go_at_call 13; refine (refWidth_is r v HV.out _ hr0 hr1).mono ?_; rintro e w' ⟨rfl, bb⟩) | (go_at_call 11; refine (right_be f b g q HQ.out _).mono ?_; rintro e w' ⟨rfl, bb⟩) | (go_at_call 14; refine (refRight_is f b g q HQ.out _).mono ?_; rintro e w' ⟨rfl, bb⟩) | (go_at_call 15; refine (with_is f b g z A _ c w.heap.size own _ HZ.out (HB.out _ (by assumption)).size (HS.out.below (HB.out _ (by assumption))) ?_).mono ?_; omega; rintro e w' ⟨rfl, bb⟩) | (go_at_call 3; refine (cellRuns_any _ (HSP.out.below (HB.out _ (by assumption)) HSP.out.lt)).mono ?_; rintro e w' ⟨rfl, bb⟩))
      all_goals
        go_wp2_with fail
        go_ret
        exact ⟨rfl, by first | assumption | exact HB.out _ (by assumption) | exact (HB.out _ (by assumption)).trans (bb.mono (HB.out _ (by assumption)).size)⟩
theorem cellTells_any (r f b g : Int) (A : Option Addr) (n c : Nat) (l : List Int) (w : World) (hr : (Lit.int .i32 r).wf = true) (hf : (Lit.int .i64 f).wf = true) (hb : (Lit.int .i64 b).wf = true) (hg : (Lit.int .i64 g).wf = true) (hA : Arg .i64 w A n c l) (hs : Spans w) :
    Calls Tryd.prog 4 #[.int .i32 r, .agg #[.int .i64 f, .int .i64 b, .int .i64 g], .slice A n c] w fun e w' => e = .returned (.bool true) ∧ Below w.heap.size w w' := by
  obtain ⟨h0, h1⟩ := bounds_i32 hr
  by_cases h : n ≤ 5
  · exact cellTells_short r f b g A n c l w h0 h1 hA hs h
  · exact cellTells_long r f b g A n c l w h0 h1 hA hs (by omega)
end Go.Proofs.YtcadaeidcdnldaaDoor
