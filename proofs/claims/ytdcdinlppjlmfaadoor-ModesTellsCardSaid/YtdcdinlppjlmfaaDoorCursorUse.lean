/- The landed package cursor, told plainly: nearest, At, Feed, Back, Up, Down, Go, Home, Save, Restore. (written by tools/gencursoruse.py) -/
import Derived.Test.YtdcdinlppjlmfaaDoorCursorRef
import Derived.Test.YtdcdinlppjlmfaaDoorGridEdit
import Derived.Test.YtdcdinlppjlmfaaDoorScreenFit
import Derived.Test.YtdcdinlppjlmfaaDoorScreenYes
import Derived.Deep.DeepCutAuto
set_option maxRecDepth 100000
namespace Go.Proofs.YtdcdinlppjlmfaaDoor
open Go Go.RowKit
set_option linter.unusedVariables false
theorem pin_if2 (z : Int) {R : Nat} (h : 1 ≤ R) : (if (if (R : Int) - 1 < z then (R : Int) - 1 else z) < 0 then 0 else if (R : Int) - 1 < z then (R : Int) - 1 else z) = (SN.pin z R : Int) := by
  unfold SN.pin
  split <;> split <;> omega
theorem SN.pin_up (z : Int) {R : Nat} (h : 1 ≤ R) : SN.pin (max z 0) R = SN.pin z R := by
  unfold SN.pin
  omega
theorem SN.pin_down (z : Int) {R : Nat} (h : 1 ≤ R) : SN.pin (min z ((R : Int) - 1)) R = SN.pin z R := by
  unfold SN.pin
  omega
set_option maxHeartbeats 2000000 in
theorem cnear_is (z : Int) (R p : Nat) (h : 1 ≤ R) (hR : R ≤ 1000) (hz : -1099511627776 ≤ z ∧ z ≤ 1099511627776) (hp : SN.pin z R = p) (w : World) :
    Calls Tryd.prog 84 #[.int .i64 z, .int .i64 R] w fun e w' => e = .returned (.int .i64 p) ∧ w' = w := by
  have EP := hide (show (p : Int) = min (max z 0) ((R : Int) - 1) by unfold SN.pin at hp; omega)
  clear hp
  go_enter Tryd.func84, Tryd.ntmps84
  go_wp2_with fail
  all_goals
    have ep := EP.out
    go_ret
    refine ⟨congrArg Ending.returned (congrArg (Value.int .i64) ?_), rfl⟩
    omega
theorem scopy_got (s : SN.Sc) (v : Value) (hs : SN.RightS s) (w : World) (h : IsS w s v) : Calls Tryd.prog 20 #[v] w (GotS w s) :=
  (scopy_is s v hs w h).mono fun e w' ⟨x, e1, ho, hb⟩ => ⟨_, e1, ⟨x, rfl, ⟨x, rfl, own_base' ho (Nat.zero_le _)⟩⟩, hb⟩
set_option maxHeartbeats 4000000 in
theorem cat_is (s : SN.Sc) (v : Value) (r c : Int) (w : World) (hs : SN.RightS s) (hr : -1099511627776 ≤ r ∧ r ≤ 1099511627776) (hc : -1099511627776 ≤ c ∧ c ≤ 1099511627776) (h : IsS w s v) : Calls Tryd.prog 68 #[v, .int .i64 r, .int .i64 c] w (GotS w (SN.atS s r c)) := by
  obtain ⟨x, rfl, hg⟩ := h
  obtain ⟨A, cp, rfl⟩ := gv_slice hg
  have hgr := hs.g.2.1
  have hgc := hs.g.2.2.2.1
  have hR1 := hs.g.1
  have hK1 := hs.g.2.2.1
  have HG := hide hg
  obtain ⟨p, hp⟩ : ∃ p, SN.pin r s.g.rows = p := ⟨_, rfl⟩
  obtain ⟨q, hq⟩ : ∃ q, SN.pin c s.g.cols = q := ⟨_, rfl⟩
  have NR := hide (fun w' => cnear_is r s.g.rows p hR1 (by omega) hr hp w')
  have NC := hide (fun w' => cnear_is c s.g.cols q hK1 (by omega) hc hq w')
  have SC := hide (fun w' v' h => scopy_got s v' hs w' h)
  have HS := hide (show ((s.u3 p).u4 q).u5 false = SN.atS s r c by unfold SN.atS; rw [hp, hq])
  have HGE := hide (show (SN.atS s r c).g = s.g from rfl)
  generalize SN.atS s r c = U at HS HGE ⊢
  clear hp hq hg
  go_enter Tryd.func68, Tryd.ntmps68
  go_upto_region 1 with (first | (refine wpList_box_scr rfl _ rfl rfl ?_; intro g w1 hB hb1 hg1) | (refine wpList_alloc_scr rfl rfl ?_; intro gR w2 csR hR hsR hb2 hgR))
  have HB2 := hide (hB.below hb2 hB.lt)
  have HW2 := hide (hb1.trans (hb2.mono hb1.size))
  have HR2 := hide hR
  have HG2 := hide (HG.out.low HW2.out)
  have hb1s := hb1.size
  have hne : gR ≠ g := by have := hB.lt; omega
  have hgR' : w.heap.size ≤ gR := by omega
  clear hB hb1 hb2 hR HG
  go_wp2_with (refine wpList_load_scr HB2.out rfl _ rfl rfl ?_)
  refine (SC.out _ _ ⟨_, rfl, HG2.out⟩).mono ?_
  rintro e w3 ⟨v3, rfl, ⟨x3, rfl, hg3⟩, hb3⟩
  obtain ⟨A3, c3, rfl⟩ := gv_slice hg3
  have HB3 := hide (HB2.out.below hb3 HB2.out.lt)
  have HR3 := hide (HR2.out.below hb3 HR2.out.lt)
  have HW3 := hide (HW2.out.trans (hb3.mono HW2.out.size))
  have HG3 := hide hg3
  clear hb3 hg3 HB2 HR2 HW2 HG2
  go_upto_region 2 with (refine wpList_store_scr HB3.out rfl rfl _ _ rfl rfl rfl rfl ?_; intro w4 hB4 hk4 hs4)
  have HB4 := hide hB4
  have HR4 := hide (HR3.out.kept hk4 (by simp; exact hne))
  have HW4 := hide (HW3.out.trans (hk4.toBelow HW3.out.size (fun k hh => by simp at hh; omega)))
  have HG4 := hide (HG3.out.kept HB3.out (by decide) hk4)
  clear hB4 hk4 hs4 HB3 HR3 HW3 HG3
  have k0 : w4.cell? ⟨g, 0, none⟩ = some (.int .i64 (s.g.rows : Nat)) := HB4.out.c0
  have k1 : w4.cell? ⟨g, 1, none⟩ = some (.int .i64 (s.g.cols : Nat)) := HB4.out.c1
  have k3 := HB4.out.c3
  have k4 := HB4.out.c4
  have z3 := HB4.out.fz 3
  have z4 := HB4.out.fz 4
  go_simp
  go_cut [] from 9 to 20 (fun wx => SBox wx g (.slice A3 (s.g.rows * s.g.cols) c3) ((s.u3 p).u4 q) ∧ Box wx gR 32 csR ∧ Below w.heap.size w wx ∧ IsG wx s.g (gv s.g.rows s.g.cols (.slice A3 (s.g.rows * s.g.cols) c3)))
  case first =>
    go_region_with (first | (go_at_call 84; first | (refine (NR.out _).mono ?_; rintro e w' ⟨rfl, rfl⟩) | (refine (NC.out _).mono ?_; rintro e w' ⟨rfl, rfl⟩)))
    all_goals
      have hk5 : Kept [some g] w4 (((w4.setCell ⟨g, 3, none⟩ (.int .i64 (p : Nat))).setCell ⟨g, 4, none⟩ (.int .i64 (q : Nat))).drew) := (((Kept.refl [some g] w4).setCell (p := ⟨g, 3, none⟩) (From.mem (by simp)) (.int .i64 (p : Nat))).setCell (p := ⟨g, 4, none⟩) (From.mem (by simp)) (.int .i64 (q : Nat))).drew
      have hB5 : SBox (((w4.setCell ⟨g, 3, none⟩ (.int .i64 (p : Nat))).setCell ⟨g, 4, none⟩ (.int .i64 (q : Nat))).drew) g (.slice A3 (s.g.rows * s.g.cols) c3) ((s.u3 p).u4 q) := Box.drew ((HB4.out.set3 p).set4 q)
      go_wp2_with fail
      go_meet
      exact ⟨hB5, HR4.out.kept hk5 (by simp; exact hne), HW4.out.trans (hk5.toBelow HW4.out.size (fun k hh => by simp at hh; omega)), HG4.out.kept HB4.out (by decide) hk5⟩
  case rest =>
    obtain ⟨hB5, hR5, hW5, hG5⟩ := hcut
    rename World => w5
    have k5 := hB5.c5
    have z5 := hB5.fz 5
    go_upto_region 4 with fail
    have HB6 := hide (hB5.set5 false)
    have HR6 := hide (hR5.far (p := ⟨g, 5, none⟩) hne (.bool false))
    have HW6 := hide (hW5.setCell (p := ⟨g, 5, none⟩) hg1 (.bool false))
    have HG6 := hide (IsG.puts hG5 hB5 5 (.bool false))
    generalize (w5.setCell ⟨g, 5, none⟩ (.bool false)) = w6 at HB6 HR6 HW6 HG6 ⊢
    clear k5 z5 hB5 hR5 hW5 hG5
    go_wp2_with (first | (refine wpList_load_scr HB6.out rfl _ rfl rfl ?_) | (refine wpList_store_scr HR6.out hsR rfl _ _ rfl rfl rfl rfl ?_; intro w8 hB8 hk8 hs8))
    refine bodyPost_ret (results_scr rfl rfl hB8) rfl ⟨_, rfl, ⟨_, by rw [← HS.out], ?_⟩, HW6.out.trans (hk8.toBelow HW6.out.size (fun k hh => by simp at hh; omega))⟩
    rw [HGE.out]
    exact HG6.out.kept HR6.out (by decide) hk8
theorem SN.up_is {s : SN.Sc} (h : SN.RightS s) (n : Nat) : SN.atS s (max ((s.row : Int) - n) (if s.top ≤ s.row then (s.top : Int) else 0)) s.col = SN.upS s n := by
  unfold SN.upS SN.upR
  split
  · rfl
  · unfold SN.atS
    rw [SN.pin_up _ h.g.1]
theorem SN.down_is {s : SN.Sc} (h : SN.RightS s) (n : Nat) : SN.atS s (min ((s.row : Int) + n) (if s.row ≤ s.bot then (s.bot : Int) else (s.g.rows : Int) - 1)) s.col = SN.downS s n := by
  unfold SN.downS SN.downR
  split
  · rfl
  · unfold SN.atS
    rw [SN.pin_down _ h.g.1]
set_option maxHeartbeats 8000000 in
theorem cgo_is (s : SN.Sc) (v : Value) (r c : Int) (w : World) (hs : SN.RightS s) (hr : -1073741824 ≤ r ∧ r ≤ 1073741824) (hc : -1073741824 ≤ c ∧ c ≤ 1073741824) (h : IsS w s v) : Calls Tryd.prog 36 #[v, .int .i64 r, .int .i64 c] w (GotS w (SN.goS s r c)) := by
  obtain ⟨x, rfl, hg⟩ := h
  obtain ⟨A, cp, rfl⟩ := gv_slice hg
  have hgr := hs.g.2.1
  have hgc := hs.g.2.2.2.1
  have hR1 := hs.g.1
  have hK1 := hs.g.2.2.1
  have HG := hide hg
  have hrow := hs.row
  have hcol := hs.col
  have htop := SN.top_bot hs
  have hbot := hs.bot
  have hU : SN.atS s (SN.goR s r) c = SN.goS s r c := rfl
  obtain ⟨z, hz⟩ : ∃ z, SN.goR s r = z := ⟨_, rfl⟩
  rw [hz] at hU
  unfold SN.goR at hz
  have hzb : -1099511627776 ≤ z ∧ z ≤ 1099511627776 := by
    rw [← hz]
    split <;> omega
  have AT := hide (fun w' v' h => cat_is s v' z c w' hs hzb (by omega) h)
  rw [hU] at AT
  generalize SN.goS s r c = U at AT ⊢
  clear hU hg hzb hs
  cases hO : s.org with
  | false =>
    rw [hO, if_neg (by decide)] at hz
    subst hz
    go_enter Tryd.func36, Tryd.ntmps36
    go_upto_region 1 with (first | (refine wpList_box_scr rfl _ rfl rfl ?_; intro g w1 hB hb1 hg1) | (refine wpList_alloc_scr rfl rfl ?_; intro gR w2 csR hR hsR hb2 hgR))
    have HB2 := hide (hB.below hb2 hB.lt)
    have HW2 := hide (hb1.trans (hb2.mono hb1.size))
    have HR2 := hide hR
    have HG2 := hide (HG.out.low HW2.out)
    have hb1s := hb1.size
    have hne : gR ≠ g := by have := hB.lt; omega
    have hgR' : w.heap.size ≤ gR := by omega
    clear hB hb1 hb2 hR HG
    have k16 : w2.cell? ⟨g, 16, none⟩ = some (.bool false) := HB2.out.c16.trans (by rw [hO])
    go_wp2_with (refine wpList_load_scr HB2.out rfl _ rfl rfl ?_)
    refine (AT.out _ _ ⟨_, rfl, HG2.out⟩).mono ?_
    rintro e w7 ⟨v7, rfl, ⟨x7, rfl, hg7⟩, hb7⟩
    obtain ⟨A7, c7, rfl⟩ := gv_slice hg7
    have HR7 := hide (HR2.out.below hb7 HR2.out.lt)
    have HW7 := hide (HW2.out.trans (hb7.mono HW2.out.size))
    have HG7 := hide hg7
    clear hb7 hg7 HB2 HR2 HW2 HG2
    go_wp2_with (refine wpList_store_scr HR7.out hsR rfl _ _ rfl rfl rfl rfl ?_; intro w8 hB8 hk8 hs8)
    exact bodyPost_ret (results_scr rfl rfl hB8) rfl ⟨_, rfl, ⟨_, rfl, HG7.out.kept HR7.out (by decide) hk8⟩, HW7.out.trans (hk8.toBelow HW7.out.size (fun k hh => by simp at hh; omega))⟩
  | true =>
    rw [hO, if_pos rfl] at hz
    by_cases hm : (s.bot : Int) < (s.top : Int) + r
    · obtain rfl : (s.bot : Int) = z := by omega
      clear hz
      go_enter Tryd.func36, Tryd.ntmps36
      go_upto_region 1 with (first | (refine wpList_box_scr rfl _ rfl rfl ?_; intro g w1 hB hb1 hg1) | (refine wpList_alloc_scr rfl rfl ?_; intro gR w2 csR hR hsR hb2 hgR))
      have HB2 := hide (hB.below hb2 hB.lt)
      have HW2 := hide (hb1.trans (hb2.mono hb1.size))
      have HR2 := hide hR
      have HG2 := hide (HG.out.low HW2.out)
      have hb1s := hb1.size
      have hne : gR ≠ g := by have := hB.lt; omega
      have hgR' : w.heap.size ≤ gR := by omega
      clear hB hb1 hb2 hR HG
      have k16 : w2.cell? ⟨g, 16, none⟩ = some (.bool true) := HB2.out.c16.trans (by rw [hO])
      have k6 : w2.cell? ⟨g, 6, none⟩ = some (.int .i64 (s.top : Nat)) := HB2.out.c6
      have k7 : w2.cell? ⟨g, 7, none⟩ = some (.int .i64 (s.bot : Nat)) := HB2.out.c7
      go_upto_region 3 with fail
      go_wp2_with (refine wpList_load_scr HB2.out rfl _ rfl rfl ?_)
      refine (AT.out _ _ ⟨_, rfl, HG2.out⟩).mono ?_
      rintro e w7 ⟨v7, rfl, ⟨x7, rfl, hg7⟩, hb7⟩
      obtain ⟨A7, c7, rfl⟩ := gv_slice hg7
      have HR7 := hide (HR2.out.below hb7 HR2.out.lt)
      have HW7 := hide (HW2.out.trans (hb7.mono HW2.out.size))
      have HG7 := hide hg7
      clear hb7 hg7 HB2 HR2 HW2 HG2
      go_wp2_with (refine wpList_store_scr HR7.out hsR rfl _ _ rfl rfl rfl rfl ?_; intro w8 hB8 hk8 hs8)
      exact bodyPost_ret (results_scr rfl rfl hB8) rfl ⟨_, rfl, ⟨_, rfl, HG7.out.kept HR7.out (by decide) hk8⟩, HW7.out.trans (hk8.toBelow HW7.out.size (fun k hh => by simp at hh; omega))⟩
    · obtain rfl : (s.top : Int) + r = z := by omega
      clear hz
      go_enter Tryd.func36, Tryd.ntmps36
      go_upto_region 1 with (first | (refine wpList_box_scr rfl _ rfl rfl ?_; intro g w1 hB hb1 hg1) | (refine wpList_alloc_scr rfl rfl ?_; intro gR w2 csR hR hsR hb2 hgR))
      have HB2 := hide (hB.below hb2 hB.lt)
      have HW2 := hide (hb1.trans (hb2.mono hb1.size))
      have HR2 := hide hR
      have HG2 := hide (HG.out.low HW2.out)
      have hb1s := hb1.size
      have hne : gR ≠ g := by have := hB.lt; omega
      have hgR' : w.heap.size ≤ gR := by omega
      clear hB hb1 hb2 hR HG
      have k16 : w2.cell? ⟨g, 16, none⟩ = some (.bool true) := HB2.out.c16.trans (by rw [hO])
      have k6 : w2.cell? ⟨g, 6, none⟩ = some (.int .i64 (s.top : Nat)) := HB2.out.c6
      have k7 : w2.cell? ⟨g, 7, none⟩ = some (.int .i64 (s.bot : Nat)) := HB2.out.c7
      go_upto_region 3 with fail
      go_wp2_with (refine wpList_load_scr HB2.out rfl _ rfl rfl ?_)
      refine (AT.out _ _ ⟨_, rfl, HG2.out⟩).mono ?_
      rintro e w7 ⟨v7, rfl, ⟨x7, rfl, hg7⟩, hb7⟩
      obtain ⟨A7, c7, rfl⟩ := gv_slice hg7
      have HR7 := hide (HR2.out.below hb7 HR2.out.lt)
      have HW7 := hide (HW2.out.trans (hb7.mono HW2.out.size))
      have HG7 := hide hg7
      clear hb7 hg7 HB2 HR2 HW2 HG2
      go_wp2_with (refine wpList_store_scr HR7.out hsR rfl _ _ rfl rfl rfl rfl ?_; intro w8 hB8 hk8 hs8)
      exact bodyPost_ret (results_scr rfl rfl hB8) rfl ⟨_, rfl, ⟨_, rfl, HG7.out.kept HR7.out (by decide) hk8⟩, HW7.out.trans (hk8.toBelow HW7.out.size (fun k hh => by simp at hh; omega))⟩
set_option maxHeartbeats 4000000 in
theorem chome_is (s : SN.Sc) (v : Value) (w : World) (hs : SN.RightS s) (h : IsS w s v) : Calls Tryd.prog 19 #[v] w (GotS w (SN.homeS s)) := by
  obtain ⟨x, rfl, hg⟩ := h
  obtain ⟨A, cp, rfl⟩ := gv_slice hg
  have hgr := hs.g.2.1
  have hgc := hs.g.2.2.2.1
  have hR1 := hs.g.1
  have hK1 := hs.g.2.2.1
  have HG := hide hg
  have hrow := hs.row
  have hcol := hs.col
  have htop := SN.top_bot hs
  have hbot := hs.bot
  have AT := hide (fun w' v' h => (show Calls Tryd.prog 36 #[v', .int .i64 0, .int .i64 0] w' (GotS w' (SN.homeS s)) from cgo_is s v' 0 0 w' hs (by omega) (by omega) h))
  generalize SN.homeS s = U at AT ⊢
  clear hg hs
  go_enter Tryd.func19, Tryd.ntmps19
  go_upto_region 1 with (first | (refine wpList_box_scr rfl _ rfl rfl ?_; intro g w1 hB hb1 hg1) | (refine wpList_alloc_scr rfl rfl ?_; intro gR w2 csR hR hsR hb2 hgR))
  have HB2 := hide (hB.below hb2 hB.lt)
  have HW2 := hide (hb1.trans (hb2.mono hb1.size))
  have HR2 := hide hR
  have HG2 := hide (HG.out.low HW2.out)
  have hb1s := hb1.size
  have hne : gR ≠ g := by have := hB.lt; omega
  have hgR' : w.heap.size ≤ gR := by omega
  clear hB hb1 hb2 hR HG
  go_wp2_with (refine wpList_load_scr HB2.out rfl _ rfl rfl ?_)
  refine (AT.out _ _ ⟨_, rfl, HG2.out⟩).mono ?_
  rintro e w7 ⟨v7, rfl, ⟨x7, rfl, hg7⟩, hb7⟩
  obtain ⟨A7, c7, rfl⟩ := gv_slice hg7
  have HR7 := hide (HR2.out.below hb7 HR2.out.lt)
  have HW7 := hide (HW2.out.trans (hb7.mono HW2.out.size))
  have HG7 := hide hg7
  clear hb7 hg7 HB2 HR2 HW2 HG2
  go_wp2_with (refine wpList_store_scr HR7.out hsR rfl _ _ rfl rfl rfl rfl ?_; intro w8 hB8 hk8 hs8)
  exact bodyPost_ret (results_scr rfl rfl hB8) rfl ⟨_, rfl, ⟨_, rfl, HG7.out.kept HR7.out (by decide) hk8⟩, HW7.out.trans (hk8.toBelow HW7.out.size (fun k hh => by simp at hh; omega))⟩
theorem SN.right_mid {s : SN.Sc} (h : SN.RightS s) : SN.RightS ((((s.uP s.sv.pen).uS s.sv.s0 s.sv.s1).u14 s.sv.sh).u16 s.sv.org) where
  g := h.g
  row := h.row
  col := h.col
  bot := h.bot
  top := h.top
  pen := h.sv.pen
  tabs := h.tabs
  set := h.sv.set
  pend := h.pend
  sv := h.sv
end Go.Proofs.YtdcdinlppjlmfaaDoor
