/- The document's own home, mode, told plainly. (written by tools/genrefmode.py) -/
import Derived.Test.YtdcdinlppjlmfaaDoorModesSpec
import Derived.Test.YtdcdinlppjlmfaaDoorCursorRef
set_option maxRecDepth 100000
namespace Go.Proofs.YtdcdinlppjlmfaaDoor
open Go.RowKit
set_option linter.unusedVariables false
set_option maxHeartbeats 4000000 in
theorem rhome_is (x : Value) (s t : SN.Sc) (w : World) (hx : x.oneCell' = true) (hs : SN.RightS s) (ht : SN.homeS s = t) :
    Calls Tryd.prog 61 #[.agg (scA x s)] w fun e w' => e = .returned (.agg (scA x t)) ∧ Below w.heap.size w w' := by
  have hgr := hs.g.2.1
  have hgc := hs.g.2.2.2.1
  have htop := SN.top_bot hs
  have hbot := hs.bot
  unfold SN.homeS SN.goS at ht
  obtain ⟨z, hz⟩ : ∃ z, SN.goR s 0 = z := ⟨_, rfl⟩
  rw [hz] at ht
  unfold SN.goR at hz
  have hzb : -1099511627776 ≤ z ∧ z ≤ 1099511627776 := by
    rw [← hz]
    split <;> omega
  have AT := hide (fun w' => rat_is x s t z 0 w' hx hs.g.1 (by omega) hs.g.2.2.1 (by omega) hzb (by omega) ht)
  cases hO : s.org with
  | false =>
    rw [hO, if_neg (by decide)] at hz
    subst hz
    clear ht hs

    go_enter Tryd.func61, Tryd.ntmps61
    go_upto_region 1 with (first | (refine wpList_box_scr rfl _ rfl rfl ?_; intro g w1 hB hb1 hg1) | (refine wpList_alloc_scr rfl rfl ?_; intro gR w2 csR hR hsR hb2 hgR))
    have HB2 := hide (hB.below hb2 hB.lt)
    have HW2 := hide (hb1.trans (hb2.mono hb1.size))
    have HR2 := hide hR
    have hb1s := hb1.size
    have hne : gR ≠ g := by have := hB.lt; omega
    have hgR' : w.heap.size ≤ gR := by omega
    clear hB hb1 hb2 hR
    have k16 : w2.cell? ⟨g, 16, none⟩ = some (.bool false) := HB2.out.c16.trans (by rw [hO])
    go_wp2_with (refine wpList_load_scr HB2.out rfl _ rfl rfl ?_)
    refine (AT.out _).mono ?_
    rintro e w7 ⟨rfl, hb7⟩
    have HR7 := hide (HR2.out.below hb7 HR2.out.lt)
    have HW7 := hide (HW2.out.trans (hb7.mono HW2.out.size))
    clear hb7 HB2 HR2 HW2
    go_wp2_with (refine wpList_store_scr HR7.out hsR rfl _ _ rfl rfl rfl hx ?_; intro w8 hB8 hk8 hs8)
    exact bodyPost_ret (results_scr rfl rfl hB8) rfl ⟨rfl, HW7.out.trans (hk8.toBelow HW7.out.size (fun k hk => by simp at hk; omega))⟩
  | true =>
    rw [hO, if_pos rfl] at hz
    obtain rfl : (s.top : Int) = z := by omega
    clear ht hs hz

    go_enter Tryd.func61, Tryd.ntmps61
    go_upto_region 1 with (first | (refine wpList_box_scr rfl _ rfl rfl ?_; intro g w1 hB hb1 hg1) | (refine wpList_alloc_scr rfl rfl ?_; intro gR w2 csR hR hsR hb2 hgR))
    have HB2 := hide (hB.below hb2 hB.lt)
    have HW2 := hide (hb1.trans (hb2.mono hb1.size))
    have HR2 := hide hR
    have hb1s := hb1.size
    have hne : gR ≠ g := by have := hB.lt; omega
    have hgR' : w.heap.size ≤ gR := by omega
    clear hB hb1 hb2 hR
    have k16 : w2.cell? ⟨g, 16, none⟩ = some (.bool true) := HB2.out.c16.trans (by rw [hO])
    have k6 := HB2.out.c6
    go_wp2_with (refine wpList_load_scr HB2.out rfl _ rfl rfl ?_)
    refine (AT.out _).mono ?_
    rintro e w7 ⟨rfl, hb7⟩
    have HR7 := hide (HR2.out.below hb7 HR2.out.lt)
    have HW7 := hide (HW2.out.trans (hb7.mono HW2.out.size))
    clear hb7 HB2 HR2 HW2
    go_wp2_with (refine wpList_store_scr HR7.out hsR rfl _ _ rfl rfl rfl hx ?_; intro w8 hB8 hk8 hs8)
    exact bodyPost_ret (results_scr rfl rfl hB8) rfl ⟨rfl, HW7.out.trans (hk8.toBelow HW7.out.size (fun k hk => by simp at hk; omega))⟩
set_option maxHeartbeats 4000000 in
theorem rmode_1 (x : Value) (s t : SN.Sc) (on : Bool) (w : World) (hx : x.oneCell' = true) (hs : SN.RightS s) (ht : SN.modeS s 1 on = t) :
    Calls Tryd.prog 52 #[.agg (scA x s), .int .i64 1, .bool on] w fun e w' => e = .returned (.agg (scA x t)) ∧ Below w.heap.size w w' := by
  rw [SN.mode_1] at ht
  subst ht
  clear hs
  go_enter Tryd.func52, Tryd.ntmps52
  go_upto_region 1 with (first | (refine wpList_box_scr rfl _ rfl rfl ?_; intro g w1 hB hb1 hg1) | (refine wpList_alloc_scr rfl rfl ?_; intro gR w2 csR hR hsR hb2 hgR))
  have HB2 := hide (hB.below hb2 hB.lt)
  have HW2 := hide (hb1.trans (hb2.mono hb1.size))
  have HR2 := hide hR
  have hb1s := hb1.size
  have hne : gR ≠ g := by have := hB.lt; omega
  have hgR' : w.heap.size ≤ gR := by omega
  clear hB hb1 hb2 hR
  have k18 := HB2.out.c18
  have z18 := HB2.out.fz 18
  go_upto_region 12 with fail
  have HB3 := hide (HB2.out.set18 on)
  have HR3 := hide (HR2.out.far (p := ⟨g, 18, none⟩) hne (.bool on))
  have HW3 := hide (HW2.out.setCell (p := ⟨g, 18, none⟩) hg1 (.bool on))
  generalize (w2.setCell ⟨g, 18, none⟩ (.bool on)) = w3 at HB3 HR3 HW3 ⊢
  clear k18 z18 HB2 HR2 HW2
  go_wp2_with (first | (refine wpList_load_scr HB3.out rfl _ rfl rfl ?_) | (refine wpList_store_scr HR3.out hsR rfl _ _ rfl rfl rfl hx ?_; intro w8 hB8 hk8 hs8))
  exact bodyPost_ret (results_scr rfl rfl hB8) rfl ⟨rfl, HW3.out.trans (hk8.toBelow HW3.out.size (fun k hk => by simp at hk; omega))⟩
set_option maxHeartbeats 4000000 in
theorem rmode_25 (x : Value) (s t : SN.Sc) (on : Bool) (w : World) (hx : x.oneCell' = true) (hs : SN.RightS s) (ht : SN.modeS s 25 on = t) :
    Calls Tryd.prog 52 #[.agg (scA x s), .int .i64 25, .bool on] w fun e w' => e = .returned (.agg (scA x t)) ∧ Below w.heap.size w w' := by
  rw [SN.mode_25] at ht
  subst ht
  clear hs
  go_enter Tryd.func52, Tryd.ntmps52
  go_upto_region 1 with (first | (refine wpList_box_scr rfl _ rfl rfl ?_; intro g w1 hB hb1 hg1) | (refine wpList_alloc_scr rfl rfl ?_; intro gR w2 csR hR hsR hb2 hgR))
  have HB2 := hide (hB.below hb2 hB.lt)
  have HW2 := hide (hb1.trans (hb2.mono hb1.size))
  have HR2 := hide hR
  have hb1s := hb1.size
  have hne : gR ≠ g := by have := hB.lt; omega
  have hgR' : w.heap.size ≤ gR := by omega
  clear hB hb1 hb2 hR
  have k17 := HB2.out.c17
  have z17 := HB2.out.fz 17
  go_upto_region 12 with fail
  have HB3 := hide (HB2.out.set17 on)
  have HR3 := hide (HR2.out.far (p := ⟨g, 17, none⟩) hne (.bool on))
  have HW3 := hide (HW2.out.setCell (p := ⟨g, 17, none⟩) hg1 (.bool on))
  generalize (w2.setCell ⟨g, 17, none⟩ (.bool on)) = w3 at HB3 HR3 HW3 ⊢
  clear k17 z17 HB2 HR2 HW2
  go_wp2_with (first | (refine wpList_load_scr HB3.out rfl _ rfl rfl ?_) | (refine wpList_store_scr HR3.out hsR rfl _ _ rfl rfl rfl hx ?_; intro w8 hB8 hk8 hs8))
  exact bodyPost_ret (results_scr rfl rfl hB8) rfl ⟨rfl, HW3.out.trans (hk8.toBelow HW3.out.size (fun k hk => by simp at hk; omega))⟩
set_option maxHeartbeats 4000000 in
theorem rmode_6 (x : Value) (s t : SN.Sc) (on : Bool) (w : World) (hx : x.oneCell' = true) (hs : SN.RightS s) (ht : SN.modeS s 6 on = t) :
    Calls Tryd.prog 52 #[.agg (scA x s), .int .i64 6, .bool on] w fun e w' => e = .returned (.agg (scA x t)) ∧ Below w.heap.size w w' := by
  rw [SN.mode_6] at ht
  have AT := hide (fun w' => rhome_is x (s.u16 on) t w' hx (SN.right_u16 hs on) ht)
  clear ht hs
  go_enter Tryd.func52, Tryd.ntmps52
  go_upto_region 1 with (first | (refine wpList_box_scr rfl _ rfl rfl ?_; intro g w1 hB hb1 hg1) | (refine wpList_alloc_scr rfl rfl ?_; intro gR w2 csR hR hsR hb2 hgR))
  have HB2 := hide (hB.below hb2 hB.lt)
  have HW2 := hide (hb1.trans (hb2.mono hb1.size))
  have HR2 := hide hR
  have hb1s := hb1.size
  have hne : gR ≠ g := by have := hB.lt; omega
  have hgR' : w.heap.size ≤ gR := by omega
  clear hB hb1 hb2 hR
  have k16 := HB2.out.c16
  have z16 := HB2.out.fz 16
  go_upto_region 6 with fail
  have HB3 := hide (HB2.out.set16 on)
  have HR3 := hide (HR2.out.far (p := ⟨g, 16, none⟩) hne (.bool on))
  have HW3 := hide (HW2.out.setCell (p := ⟨g, 16, none⟩) hg1 (.bool on))
  generalize (w2.setCell ⟨g, 16, none⟩ (.bool on)) = w3 at HB3 HR3 HW3 ⊢
  clear k16 z16 HB2 HR2 HW2
  go_wp2_with (refine wpList_load_scr HB3.out rfl _ rfl rfl ?_)
  refine (AT.out _).mono ?_
  rintro e w7 ⟨rfl, hb7⟩
  have HR7 := hide (HR3.out.below hb7 HR3.out.lt)
  have HW7 := hide (HW3.out.trans (hb7.mono HW3.out.size))
  clear hb7 HB3 HR3 HW3
  go_wp2_with (refine wpList_store_scr HR7.out hsR rfl _ _ rfl rfl rfl hx ?_; intro w8 hB8 hk8 hs8)
  exact bodyPost_ret (results_scr rfl rfl hB8) rfl ⟨rfl, HW7.out.trans (hk8.toBelow HW7.out.size (fun k hk => by simp at hk; omega))⟩
set_option maxHeartbeats 4000000 in
theorem rmode_7 (x : Value) (s t : SN.Sc) (on : Bool) (w : World) (hx : x.oneCell' = true) (hs : SN.RightS s) (ht : SN.modeS s 7 on = t) :
    Calls Tryd.prog 52 #[.agg (scA x s), .int .i64 7, .bool on] w fun e w' => e = .returned (.agg (scA x t)) ∧ Below w.heap.size w w' := by
  rw [SN.mode_7] at ht
  clear hs
  cases hb : s.pend with
  | true =>
    rw [hb, Bool.true_and] at ht
    subst ht
    go_enter Tryd.func52, Tryd.ntmps52
    go_upto_region 1 with (first | (refine wpList_box_scr rfl _ rfl rfl ?_; intro g w1 hB hb1 hg1) | (refine wpList_alloc_scr rfl rfl ?_; intro gR w2 csR hR hsR hb2 hgR))
    have HB2 := hide (hB.below hb2 hB.lt)
    have HW2 := hide (hb1.trans (hb2.mono hb1.size))
    have HR2 := hide hR
    have hb1s := hb1.size
    have hne : gR ≠ g := by have := hB.lt; omega
    have hgR' : w.heap.size ≤ gR := by omega
    clear hB hb1 hb2 hR
    have k15 := HB2.out.c15
    have z15 := HB2.out.fz 15
    go_upto_region 9 with fail
    have HB3 := hide (HB2.out.set15 on)
    have HR3 := hide (HR2.out.far (p := ⟨g, 15, none⟩) hne (.bool on))
    have HW3 := hide (HW2.out.setCell (p := ⟨g, 15, none⟩) hg1 (.bool on))
    generalize (w2.setCell ⟨g, 15, none⟩ (.bool on)) = w3 at HB3 HR3 HW3 ⊢
    clear k15 z15 HB2 HR2 HW2
    have k5 : w3.cell? ⟨g, 5, none⟩ = some (.bool true) := HB3.out.c5.trans (by rw [show (s.u15 on).pend = true from hb])
    have z5 := HB3.out.fz 5
    go_upto_region 12 with fail
    have HB4 := hide (HB3.out.set5 on)
    have HR4 := hide (HR3.out.far (p := ⟨g, 5, none⟩) hne (.bool on))
    have HW4 := hide (HW3.out.setCell (p := ⟨g, 5, none⟩) hg1 (.bool on))
    generalize (w3.setCell ⟨g, 5, none⟩ (.bool on)) = w4 at HB4 HR4 HW4 ⊢
    clear k5 z5 HB3 HR3 HW3
    go_wp2_with (first | (refine wpList_load_scr HB4.out rfl _ rfl rfl ?_) | (refine wpList_store_scr HR4.out hsR rfl _ _ rfl rfl rfl hx ?_; intro w8 hB8 hk8 hs8))
    exact bodyPost_ret (results_scr rfl rfl hB8) rfl ⟨rfl, HW4.out.trans (hk8.toBelow HW4.out.size (fun k hk => by simp at hk; omega))⟩
  | false =>
    rw [hb, Bool.false_and] at ht
    subst ht
    go_enter Tryd.func52, Tryd.ntmps52
    go_upto_region 1 with (first | (refine wpList_box_scr rfl _ rfl rfl ?_; intro g w1 hB hb1 hg1) | (refine wpList_alloc_scr rfl rfl ?_; intro gR w2 csR hR hsR hb2 hgR))
    have HB2 := hide (hB.below hb2 hB.lt)
    have HW2 := hide (hb1.trans (hb2.mono hb1.size))
    have HR2 := hide hR
    have hb1s := hb1.size
    have hne : gR ≠ g := by have := hB.lt; omega
    have hgR' : w.heap.size ≤ gR := by omega
    clear hB hb1 hb2 hR
    have k15 := HB2.out.c15
    have z15 := HB2.out.fz 15
    go_upto_region 9 with fail
    have HB3 := hide (HB2.out.set15 on)
    have HR3 := hide (HR2.out.far (p := ⟨g, 15, none⟩) hne (.bool on))
    have HW3 := hide (HW2.out.setCell (p := ⟨g, 15, none⟩) hg1 (.bool on))
    generalize (w2.setCell ⟨g, 15, none⟩ (.bool on)) = w3 at HB3 HR3 HW3 ⊢
    clear k15 z15 HB2 HR2 HW2
    have k5 : w3.cell? ⟨g, 5, none⟩ = some (.bool false) := HB3.out.c5.trans (by rw [show (s.u15 on).pend = false from hb])
    have z5 := HB3.out.fz 5
    go_upto_region 12 with fail
    have HB4 := hide (HB3.out.set5 false)
    have HR4 := hide (HR3.out.far (p := ⟨g, 5, none⟩) hne (.bool false))
    have HW4 := hide (HW3.out.setCell (p := ⟨g, 5, none⟩) hg1 (.bool false))
    generalize (w3.setCell ⟨g, 5, none⟩ (.bool false)) = w4 at HB4 HR4 HW4 ⊢
    clear k5 z5 HB3 HR3 HW3
    go_wp2_with (first | (refine wpList_load_scr HB4.out rfl _ rfl rfl ?_) | (refine wpList_store_scr HR4.out hsR rfl _ _ rfl rfl rfl hx ?_; intro w8 hB8 hk8 hs8))
    exact bodyPost_ret (results_scr rfl rfl hB8) rfl ⟨rfl, HW4.out.trans (hk8.toBelow HW4.out.size (fun k hk => by simp at hk; omega))⟩
set_option maxHeartbeats 4000000 in
theorem rmode_no (x : Value) (s t : SN.Sc) (n : Int) (on : Bool) (w : World) (hx : x.oneCell' = true) (hs : SN.RightS s) (hn : ¬ SN.IsMode n) (ht : SN.modeS s n on = t) :
    Calls Tryd.prog 52 #[.agg (scA x s), .int .i64 n, .bool on] w fun e w' => e = .returned (.agg (scA x t)) ∧ Below w.heap.size w w' := by
  rw [SN.mode_no s on hn] at ht
  subst ht
  unfold SN.IsMode at hn
  have e1 : (n == 1) = false := by simp; omega
  have e2 : (n == 6) = false := by simp; omega
  have e3 : (n == 7) = false := by simp; omega
  have e4 : (n == 25) = false := by simp; omega
  clear hs hn
  go_enter Tryd.func52, Tryd.ntmps52
  go_upto_region 1 with (first | (refine wpList_box_scr rfl _ rfl rfl ?_; intro g w1 hB hb1 hg1) | (refine wpList_alloc_scr rfl rfl ?_; intro gR w2 csR hR hsR hb2 hgR))
  have HB2 := hide (hB.below hb2 hB.lt)
  have HW2 := hide (hb1.trans (hb2.mono hb1.size))
  have HR2 := hide hR
  have hb1s := hb1.size
  have hne : gR ≠ g := by have := hB.lt; omega
  have hgR' : w.heap.size ≤ gR := by omega
  clear hB hb1 hb2 hR
  go_wp2_with (first | (refine wpList_load_scr HB2.out rfl _ rfl rfl ?_) | (refine wpList_store_scr HR2.out hsR rfl _ _ rfl rfl rfl hx ?_; intro w8 hB8 hk8 hs8))
  exact bodyPost_ret (results_scr rfl rfl hB8) rfl ⟨rfl, HW2.out.trans (hk8.toBelow HW2.out.size (fun k hk => by simp at hk; omega))⟩
theorem rmode_is (x : Value) (s t : SN.Sc) (n : Int) (on : Bool) (w : World) (hx : x.oneCell' = true) (hs : SN.RightS s) (ht : SN.modeS s n on = t) :
    Calls Tryd.prog 52 #[.agg (scA x s), .int .i64 n, .bool on] w fun e w' => e = .returned (.agg (scA x t)) ∧ Below w.heap.size w w' := by
  by_cases h : SN.IsMode n
  · rcases h with rfl | rfl | rfl | rfl
    · exact rmode_1 x s t on w hx hs ht
    · exact rmode_6 x s t on w hx hs ht
    · exact rmode_7 x s t on w hx hs ht
    · exact rmode_25 x s t on w hx hs ht
  · exact rmode_no x s t n on w hx hs h ht
end Go.Proofs.YtdcdinlppjlmfaaDoor
