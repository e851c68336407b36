/- Which screens are right: the landed rightMargins, rightPending, cursor, isSet, rightCursor, of any numbers. Where a cursor may be: the landed rightCursor, of any numbers. Which screens are right: the landed cursor, Right, of any numbers. (written by tools/genscreenright.py) -/
import Derived.Test.YtdcdinlppjlmfaaDoorScreenVal
import Derived.Test.YtdcdinlppjlmfaaDoorCellSmall
import Derived.Test.YtdcdinlppjlmfaaDoorGridUse
import Derived.Test.YtdcdinlppjlmfaaDoorScreenEq
import Derived.Test.YtdcdinlppjlmfaaDoorGridPut
import Derived.Test.YtdcdinlppjlmfaaDoorKept
set_option maxRecDepth 100000
namespace Go.Proofs.YtdcdinlppjlmfaaDoor
open Go.RowKit
set_option linter.unusedVariables false
namespace SN
def margB (q : Rw) : Bool := if q.g.rows = 1 then decide (q.top = 0) && decide (q.bot = 0) else decide (0 ≤ q.top) && (decide (q.top < q.bot) && decide (q.bot < q.g.rows))
def pendB (q : Rw) : Bool := !q.pend || (q.wrap && decide (q.col = q.g.cols - 1))
def isB (b : Int) : Bool := b == 66 || b == 48
def curB (g : PG.Gr) (r c : Int) (p : PG.Pn) (a b h : Int) : Bool := placeB g r c && ((h == 0 || h == 1) && (C.right p.1 p.2.1 p.2.2 && (isB a && isB b)))
theorem right_parts (q : Rw) : (margB q && (pendB q && (curB q.g q.row q.col q.pen q.s0 q.s1 q.sh && curB q.g q.svrow q.svcol q.svpen q.t0 q.t1 q.th))) = q.right := by
  have e1 : margB q = (decide (0 ≤ q.top ∧ q.top < q.bot ∧ q.bot < q.g.rows) || decide (q.g.rows = 1 ∧ q.top = 0 ∧ q.bot = 0)) := by
    unfold margB
    rw [Bool.eq_iff_iff]
    split <;> simp only [Bool.and_eq_true, Bool.or_eq_true, decide_eq_true_eq] <;> omega
  have e2 : pendB q = (!q.pend || (q.wrap && decide (q.col + 1 = q.g.cols))) := by
    unfold pendB
    congr 2
    simp only [decide_eq_decide]
    omega
  have e3 : ∀ g r c p a b h, curB g r c p a b h = (placeB g r c && C.right p.1 p.2.1 p.2.2 && setT a b h) := fun g r c p a b h => by
    unfold curB setT isB
    cases placeB g r c <;> cases C.right p.1 p.2.1 p.2.2 <;> cases (h == 0 || h == 1) <;> simp
  rw [e1, e2, e3, e3]
  unfold Rw.right
  generalize placeB q.g q.row q.col = a1
  generalize placeB q.g q.svrow q.svcol = a2
  generalize C.right q.pen.1 q.pen.2.1 q.pen.2.2 = a3
  generalize C.right q.svpen.1 q.svpen.2.1 q.svpen.2.2 = a4
  generalize setT q.s0 q.s1 q.sh = a5
  generalize setT q.t0 q.t1 q.th = a6
  generalize (decide (0 ≤ q.top ∧ q.top < q.bot ∧ q.bot < q.g.rows) || decide (q.g.rows = 1 ∧ q.top = 0 ∧ q.bot = 0)) = a7
  generalize (!q.pend || (q.wrap && decide (q.col + 1 = q.g.cols))) = a8
  cases a1 <;> cases a2 <;> cases a3 <;> cases a4 <;> cases a5 <;> cases a6 <;> cases a7 <;> cases a8 <;> rfl
end SN
theorem isSet_is (b : Int) (w : World) : Calls Tryd.prog 67 #[.int .u8 b] w fun e w' => e = .returned (.bool (SN.isB b)) ∧ w = w' := by
  have HR : ∀ r : Bool, r = SN.isB b → Ending.returned (.bool r) = .returned (.bool (SN.isB b)) := fun r h => c_bool h
  unfold SN.isB at HR ⊢
  rcases h1 : (b == 66) with _ | _
  · go_enter Tryd.func67, Tryd.ntmps67
    go_wp2_with fail
    go_ret
    exact ⟨rfl, rfl⟩
  · go_enter Tryd.func67, Tryd.ntmps67
    go_wp2_with fail
    go_ret
    exact ⟨rfl, rfl⟩
set_option maxHeartbeats 2000000 in
theorem margins_is (q : SN.Rw) (x : Value) (b : Bool) (hb : SN.margB q = b) (hR : (q.g.rows : Int) ≤ 1000) (w : World) : Calls Tryd.prog 32 #[.agg (rwA x q)] w fun e w' => e = .returned (.bool b) ∧ Below w.heap.size w w' := by
  unfold SN.margB at hb
  subst hb
  by_cases h1 : q.g.rows = 1
  · have e1 : ((q.g.rows : Int) == 1) = true := by simp; omega
    rw [if_pos h1]
    clear h1
    rcases h2 : (q.top == 0) with _ | _
    · rw [show decide (q.top = 0) = false from h2]
      go_enter Tryd.func32, Tryd.ntmps32
      go_upto_region 1 with (refine wpList_box_raw rfl _ rfl rfl ?_; intro g w1 hB hb1 hg1)
      have k0 := hB.c0
      have k6 := hB.c6
      have k7 := hB.c7
      go_wp2_with fail
      go_ret
      exact ⟨rfl, hb1⟩
    · rw [show decide (q.top = 0) = true from h2]
      rcases h3 : (q.bot == 0) with _ | _
      · rw [show decide (q.bot = 0) = false from h3]
        go_enter Tryd.func32, Tryd.ntmps32
        go_upto_region 1 with (refine wpList_box_raw rfl _ rfl rfl ?_; intro g w1 hB hb1 hg1)
        have k0 := hB.c0
        have k6 := hB.c6
        have k7 := hB.c7
        go_wp2_with fail
        go_ret
        exact ⟨rfl, hb1⟩
      · rw [show decide (q.bot = 0) = true from h3]
        go_enter Tryd.func32, Tryd.ntmps32
        go_upto_region 1 with (refine wpList_box_raw rfl _ rfl rfl ?_; intro g w1 hB hb1 hg1)
        have k0 := hB.c0
        have k6 := hB.c6
        have k7 := hB.c7
        go_wp2_with fail
        go_ret
        exact ⟨rfl, hb1⟩
  · have e1 : ((q.g.rows : Int) == 1) = false := by simp; omega
    rw [if_neg h1]
    clear h1
    rcases h2 : decide (0 ≤ q.top) with _ | _
    · go_enter Tryd.func32, Tryd.ntmps32
      go_upto_region 1 with (refine wpList_box_raw rfl _ rfl rfl ?_; intro g w1 hB hb1 hg1)
      have k0 := hB.c0
      have k6 := hB.c6
      have k7 := hB.c7
      go_wp2_with fail
      go_ret
      exact ⟨rfl, hb1⟩
    · rcases h3 : decide (q.top < q.bot) with _ | _
      · go_enter Tryd.func32, Tryd.ntmps32
        go_upto_region 1 with (refine wpList_box_raw rfl _ rfl rfl ?_; intro g w1 hB hb1 hg1)
        have k0 := hB.c0
        have k6 := hB.c6
        have k7 := hB.c7
        go_wp2_with fail
        go_ret
        exact ⟨rfl, hb1⟩
      · rcases h4 : decide (q.bot < (q.g.rows : Int)) with _ | _
        · go_enter Tryd.func32, Tryd.ntmps32
          go_upto_region 1 with (refine wpList_box_raw rfl _ rfl rfl ?_; intro g w1 hB hb1 hg1)
          have k0 := hB.c0
          have k6 := hB.c6
          have k7 := hB.c7
          go_wp2_with fail
          go_ret
          exact ⟨rfl, hb1⟩
        · go_enter Tryd.func32, Tryd.ntmps32
          go_upto_region 1 with (refine wpList_box_raw rfl _ rfl rfl ?_; intro g w1 hB hb1 hg1)
          have k0 := hB.c0
          have k6 := hB.c6
          have k7 := hB.c7
          go_wp2_with fail
          go_ret
          exact ⟨rfl, hb1⟩
set_option maxHeartbeats 2000000 in
theorem pend_is (q : SN.Rw) (x : Value) (b : Bool) (hb : SN.pendB q = b) (hK : (q.g.cols : Int) ≤ 1000) (w : World) : Calls Tryd.prog 33 #[.agg (rwA x q)] w fun e w' => e = .returned (.bool b) ∧ Below w.heap.size w w' := by
  unfold SN.pendB at hb
  subst hb
  rcases h1 : q.pend with _ | _
  · go_enter Tryd.func33, Tryd.ntmps33
    go_upto_region 1 with (refine wpList_box_raw rfl _ rfl rfl ?_; intro g w1 hB hb1 hg1)
    have k5 : w1.cell? ⟨g, 5, none⟩ = some (.bool false) := h1 ▸ hB.c5
    go_wp2_with fail
    go_ret
    exact ⟨rfl, hb1⟩
  · rcases h2 : q.wrap with _ | _
    · go_enter Tryd.func33, Tryd.ntmps33
      go_upto_region 1 with (refine wpList_box_raw rfl _ rfl rfl ?_; intro g w1 hB hb1 hg1)
      have k5 : w1.cell? ⟨g, 5, none⟩ = some (.bool true) := h1 ▸ hB.c5
      have k15 : w1.cell? ⟨g, 15, none⟩ = some (.bool false) := h2 ▸ hB.c15
      go_wp2_with fail
      go_ret
      exact ⟨rfl, hb1⟩
    · go_enter Tryd.func33, Tryd.ntmps33
      go_upto_region 1 with (refine wpList_box_raw rfl _ rfl rfl ?_; intro g w1 hB hb1 hg1)
      have k1 := hB.c1
      have k4 := hB.c4
      have k5 : w1.cell? ⟨g, 5, none⟩ = some (.bool true) := h1 ▸ hB.c5
      have k15 : w1.cell? ⟨g, 15, none⟩ = some (.bool true) := h2 ▸ hB.c15
      go_wp2_with fail
      go_ret
      exact ⟨rfl, hb1⟩
end Go.Proofs.YtdcdinlppjlmfaaDoor
set_option maxRecDepth 100000
namespace Go.Proofs.YtdcdinlppjlmfaaDoor
open Go.RowKit
set_option linter.unusedVariables false
theorem atI_place (G : PG.Gr) (r c : Int) : ∃ F b, atI G r c = atv F b ∧ SN.placeB G r c = b := by
  unfold SN.placeB
  by_cases h : 0 ≤ r ∧ r < G.rows ∧ 0 ≤ c ∧ c < G.cols
  · exact ⟨_, true, if_pos h, by simp; omega⟩
  · exact ⟨_, false, if_neg h, by simp; omega⟩
set_option maxHeartbeats 4000000 in
theorem cur_is (G : PG.Gr) (hG : PG.RightG G) (x : Value) (r c : Int) (p : PG.Pn) (a b h : Int) (o : Bool) (v : Bool) (hv : SN.curB G r c p a b h = v) (w : World) (hx : IsG w G (gv G.rows G.cols x)) :
    Calls Tryd.prog 34 #[gv G.rows G.cols x, .agg #[.int .i64 r, .int .i64 c, .int .i64 p.1, .int .i64 p.2.1, .int .i64 p.2.2, .int .u8 a, .int .u8 b, .int .i64 h, .bool o]] w fun e w' => e = .returned (.bool v) ∧ Below w.heap.size w w' := by
  obtain ⟨A, cp, rfl⟩ := gv_slice hx
  obtain ⟨F, P, hF, hP⟩ := atI_place G r c
  have AT := hide (fun w' (hb : Below w.heap.size w w') => hF ▸ u_at hG (hx.low hb) r c)
  obtain ⟨vp, hvp⟩ : ∃ vp, C.right p.1 p.2.1 p.2.2 = vp := ⟨_, rfl⟩
  obtain ⟨va, hva⟩ : ∃ va, SN.isB a = va := ⟨_, rfl⟩
  obtain ⟨vb, hvb⟩ : ∃ vb, SN.isB b = vb := ⟨_, rfl⟩
  have PR := hide (fun w' => (right_any p.1 p.2.1 p.2.2 w').mono fun e w'' (h : _ ∧ _) => (⟨hvp ▸ h.1, h.2 ▸ (Below.refl w'.heap.size w').alloc (Nat.le_refl _) _⟩ : e = .returned (.bool vp) ∧ Below w'.heap.size w' w''))
  have IA := hide (fun w' => hva ▸ isSet_is a w')
  have IB := hide (fun w' => hvb ▸ isSet_is b w')
  subst hv
  unfold SN.curB
  rw [hP, hvp, hva, hvb]
  clear hF hP hvp hva hvb hx
  obtain ⟨b1, b2⟩ : Below w.heap.size w (w.alloc (.cells #[.int .i64 G.rows, .int .i64 G.cols, .slice A (G.rows * G.cols) cp] 24)) ∧ True := ⟨(Below.refl _ _).alloc (Nat.le_refl _) _, trivial⟩
  have b2 := b1.alloc b1.size (.cells #[.int .i64 r, .int .i64 c, .int .i64 p.1, .int .i64 p.2.1, .int .i64 p.2.2, .int .u8 a, .int .u8 b, .int .i64 h, .bool o] 30)
  have X := Box.new (w.alloc (.cells #[.int .i64 G.rows, .int .i64 G.cols, .slice A (G.rows * G.cols) cp] 24)) 30 #[.int .i64 r, .int .i64 c, .int .i64 p.1, .int .i64 p.2.1, .int .i64 p.2.2, .int .u8 a, .int .u8 b, .int .i64 h, .bool o]
  have HB := hide b2
  have HX := hide X
  clear b1 b2 X
  unfold gv
  unfold gv at AT
  go_enter Tryd.func34, Tryd.ntmps34
  go_wp2_with fail
  refine (AT.out _ HB.out).mono ?_
  rintro e w1 ⟨rfl, bb⟩
  simp only [atv, cv]
  go_upto_region 2 with fail
  have hlt : w.heap.size + 1 < w1.heap.size := by have := bb.size; simp at this; omega
  have b3 := HB.out.trans (bb.mono HB.out.size)
  have X3 : Box w1 (w.heap.size + 1) 30 #[.int .i64 r, .int .i64 c, .int .i64 p.1, .int .i64 p.2.1, .int .i64 p.2.2, .int .u8 a, .int .u8 b, .int .i64 h, .bool o] := by
    have := HX.out.below bb (by simp)
    simpa using this
  have X4 := X3.alloc (.cells #[.int .i32 (PG.rn F), .int .i64 (PG.kd F), .int .i64 (PG.pn F).1, .int .i64 (PG.pn F).2.1, .int .i64 (PG.pn F).2.2] 58)
  have b4 := b3.alloc b3.size (.cells #[.int .i32 (PG.rn F), .int .i64 (PG.kd F), .int .i64 (PG.pn F).1, .int .i64 (PG.pn F).2.1, .int .i64 (PG.pn F).2.2] 58)
  clear X3 b3 bb HX HB AT
  generalize w1.alloc (.cells #[.int .i32 (PG.rn F), .int .i64 (PG.kd F), .int .i64 (PG.pn F).1, .int .i64 (PG.pn F).2.1, .int .i64 (PG.pn F).2.2] 58) = w4 at X4 b4 ⊢
  have k2 : w4.cell? ⟨w.heap.size + 1, 2, none⟩ = some (.int .i64 p.1) := X4.cell 2
  have k3 : w4.cell? ⟨w.heap.size + 1, 3, none⟩ = some (.int .i64 p.2.1) := X4.cell 3
  have k4 : w4.cell? ⟨w.heap.size + 1, 4, none⟩ = some (.int .i64 p.2.2) := X4.cell 4
  have k7 : w4.cell? ⟨w.heap.size + 1, 7, none⟩ = some (.int .i64 h) := X4.cell 7
  rcases h0 : (h == 0) with _ | _
  · rcases h1 : (h == 1) with _ | _
    · skip
      rcases P with _ | _
      · go_wp2_with fail
        go_ret
        refine ⟨?_, b4⟩
        first | rfl | (rw [h0]; rfl) | (rw [h0, h1]; rfl)
      · go_wp2_with fail
        go_ret
        refine ⟨?_, b4⟩
        first | rfl | (rw [h0]; rfl) | (rw [h0, h1]; rfl)
    · skip
      rcases P with _ | _
      · go_wp2_with fail
        go_ret
        refine ⟨?_, b4⟩
        first | rfl | (rw [h0]; rfl) | (rw [h0, h1]; rfl)
      · rcases vp with _ | _
        · skip
          go_wp2_with fail
          refine (PR.out _).mono ?_
          rintro e w5 ⟨rfl, b5⟩
          have X5 := X4.below b5 X4.lt
          have b6 := b4.trans (b5.mono b4.size)
          have k5 : w5.cell? ⟨w.heap.size + 1, 5, none⟩ = some (.int .u8 a) := X5.cell 5
          have k6 : w5.cell? ⟨w.heap.size + 1, 6, none⟩ = some (.int .u8 b) := X5.cell 6
          clear b5
          go_wp2_with fail
          go_ret
          refine ⟨?_, b6⟩
          first | rfl | (rw [h0]; rfl) | (rw [h0, h1]; rfl)
        · rcases va with _ | _
          · skip
            go_wp2_with fail
            refine (PR.out _).mono ?_
            rintro e w5 ⟨rfl, b5⟩
            have X5 := X4.below b5 X4.lt
            have b6 := b4.trans (b5.mono b4.size)
            have k5 : w5.cell? ⟨w.heap.size + 1, 5, none⟩ = some (.int .u8 a) := X5.cell 5
            have k6 : w5.cell? ⟨w.heap.size + 1, 6, none⟩ = some (.int .u8 b) := X5.cell 6
            clear b5
            go_wp2_with fail
            refine (IA.out _).mono ?_
            rintro e w' ⟨rfl, rfl⟩
            go_wp2_with fail
            go_ret
            refine ⟨?_, b6⟩
            first | rfl | (rw [h0]; rfl) | (rw [h0, h1]; rfl)
          · skip
            go_wp2_with fail
            refine (PR.out _).mono ?_
            rintro e w5 ⟨rfl, b5⟩
            have X5 := X4.below b5 X4.lt
            have b6 := b4.trans (b5.mono b4.size)
            have k5 : w5.cell? ⟨w.heap.size + 1, 5, none⟩ = some (.int .u8 a) := X5.cell 5
            have k6 : w5.cell? ⟨w.heap.size + 1, 6, none⟩ = some (.int .u8 b) := X5.cell 6
            clear b5
            go_wp2_with fail
            refine (IA.out _).mono ?_
            rintro e w' ⟨rfl, rfl⟩
            go_wp2_with fail
            refine (IB.out _).mono ?_
            rintro e w' ⟨rfl, rfl⟩
            go_wp2_with fail
            go_ret
            refine ⟨?_, b6⟩
            first | rfl | (rw [h0]; rfl) | (rw [h0, h1]; rfl)
  · skip
    rcases P with _ | _
    · go_wp2_with fail
      go_ret
      refine ⟨?_, b4⟩
      first | rfl | (rw [h0]; rfl) | (rw [h0, h1]; rfl)
    · rcases vp with _ | _
      · skip
        go_wp2_with fail
        refine (PR.out _).mono ?_
        rintro e w5 ⟨rfl, b5⟩
        have X5 := X4.below b5 X4.lt
        have b6 := b4.trans (b5.mono b4.size)
        have k5 : w5.cell? ⟨w.heap.size + 1, 5, none⟩ = some (.int .u8 a) := X5.cell 5
        have k6 : w5.cell? ⟨w.heap.size + 1, 6, none⟩ = some (.int .u8 b) := X5.cell 6
        clear b5
        go_wp2_with fail
        go_ret
        refine ⟨?_, b6⟩
        first | rfl | (rw [h0]; rfl) | (rw [h0, h1]; rfl)
      · rcases va with _ | _
        · skip
          go_wp2_with fail
          refine (PR.out _).mono ?_
          rintro e w5 ⟨rfl, b5⟩
          have X5 := X4.below b5 X4.lt
          have b6 := b4.trans (b5.mono b4.size)
          have k5 : w5.cell? ⟨w.heap.size + 1, 5, none⟩ = some (.int .u8 a) := X5.cell 5
          have k6 : w5.cell? ⟨w.heap.size + 1, 6, none⟩ = some (.int .u8 b) := X5.cell 6
          clear b5
          go_wp2_with fail
          refine (IA.out _).mono ?_
          rintro e w' ⟨rfl, rfl⟩
          go_wp2_with fail
          go_ret
          refine ⟨?_, b6⟩
          first | rfl | (rw [h0]; rfl) | (rw [h0, h1]; rfl)
        · skip
          go_wp2_with fail
          refine (PR.out _).mono ?_
          rintro e w5 ⟨rfl, b5⟩
          have X5 := X4.below b5 X4.lt
          have b6 := b4.trans (b5.mono b4.size)
          have k5 : w5.cell? ⟨w.heap.size + 1, 5, none⟩ = some (.int .u8 a) := X5.cell 5
          have k6 : w5.cell? ⟨w.heap.size + 1, 6, none⟩ = some (.int .u8 b) := X5.cell 6
          clear b5
          go_wp2_with fail
          refine (IA.out _).mono ?_
          rintro e w' ⟨rfl, rfl⟩
          go_wp2_with fail
          refine (IB.out _).mono ?_
          rintro e w' ⟨rfl, rfl⟩
          go_wp2_with fail
          go_ret
          refine ⟨?_, b6⟩
          first | rfl | (rw [h0]; rfl) | (rw [h0, h1]; rfl)
end Go.Proofs.YtdcdinlppjlmfaaDoor
set_option maxRecDepth 100000
namespace Go.Proofs.YtdcdinlppjlmfaaDoor
open Go.RowKit
set_option linter.unusedVariables false
set_option maxHeartbeats 2000000 in
theorem cursor_is (q : SN.Rw) (x : Value) (w : World) : Calls Tryd.prog 35 #[.agg (rwA x q)] w fun e w' => e = .returned (.agg #[.int .i64 q.row, .int .i64 q.col, .int .i64 q.pen.1, .int .i64 q.pen.2.1, .int .i64 q.pen.2.2, .int .u8 q.s0, .int .u8 q.s1, .int .i64 q.sh, .bool q.org]) ∧ Below w.heap.size w w' := by
  go_enter Tryd.func35, Tryd.ntmps35
  go_upto_region 1 with (first | (refine wpList_box_raw rfl _ rfl rfl ?_; intro g w1 hB hb1 hg1))
  have k3 := fun o => (hB.alloc o).c3
  have k4 := fun o => (hB.alloc o).c4
  have k8 := fun o => (hB.alloc o).c8
  have k9 := fun o => (hB.alloc o).c9
  have k10 := fun o => (hB.alloc o).c10
  have k12 := fun o => (hB.alloc o).c12
  have k13 := fun o => (hB.alloc o).c13
  have k14 := fun o => (hB.alloc o).c14
  have k16 := fun o => (hB.alloc o).c16
  go_wp2_with fail
  refine bodyPost_ret (v := .agg #[.int .i64 q.row, .int .i64 q.col, .int .i64 q.pen.1, .int .i64 q.pen.2.1, .int .i64 q.pen.2.2, .int .u8 q.s0, .int .u8 q.s1, .int .i64 q.sh, .bool q.org]) (by simp [results, Tryd.results35, go_sem]) rfl ⟨rfl, hb1.alloc hb1.size _⟩
set_option maxHeartbeats 8000000 in
theorem sright_raw (q : SN.Rw) (x : Value) (b : Bool) (hb : q.right = b) (hg : PG.RightG q.g) (w : World) (h : IsG w q.g (gv q.g.rows q.g.cols x)) (hs : Spans w) :
    Calls Tryd.prog 16 #[.agg (rwA x q)] w fun e w' => e = .returned (.bool b) ∧ Below w.heap.size w w' := by
  obtain ⟨A, cp, rfl⟩ := gv_slice h
  have hgr := hg.2.1
  have hgc := hg.2.2.2.1
  rw [← SN.right_parts] at hb
  obtain ⟨vm, hvm⟩ : ∃ v, SN.margB q = v := ⟨_, rfl⟩
  obtain ⟨vn, hvn⟩ : ∃ v, SN.pendB q = v := ⟨_, rfl⟩
  obtain ⟨vc, hvc⟩ : ∃ v, SN.curB q.g q.row q.col q.pen q.s0 q.s1 q.sh = v := ⟨_, rfl⟩
  obtain ⟨vv, hvv⟩ : ∃ v, SN.curB q.g q.svrow q.svcol q.svpen q.t0 q.t1 q.th = v := ⟨_, rfl⟩
  rw [hvm, hvn, hvc, hvv] at hb
  have MG := hide (fun w' => margins_is q (.slice A (q.g.rows * q.g.cols) cp) vm hvm (by omega) w')
  have PN := hide (fun w' => pend_is q (.slice A (q.g.rows * q.g.cols) cp) vn hvn (by omega) w')
  have CU := hide (fun w' => cursor_is q (.slice A (q.g.rows * q.g.cols) cp) w')
  go_enter Tryd.func16, Tryd.ntmps16
  go_upto_region 1 with (first | (refine wpList_box_raw rfl _ rfl rfl ?_; intro g w1 hB hb1 hg1))
  have HB := hide hB
  have HW := hide hb1
  have hg1' := h.low hb1
  have hs1 := hs.keep hb1
  have GR := hide (fun w' (hb : Below w1.heap.size w1 w') => (show Calls Tryd.prog 31 #[.agg #[.int .i64 q.g.rows, .int .i64 q.g.cols, .slice A (q.g.rows * q.g.cols) cp]] w' _ from u_right hg (hg1'.low hb) (hs1.keep hb)))
  have C1 := hide (fun w' (hb : Below w1.heap.size w1 w') => (show Calls Tryd.prog 34 #[.agg #[.int .i64 q.g.rows, .int .i64 q.g.cols, .slice A (q.g.rows * q.g.cols) cp], .agg #[.int .i64 q.row, .int .i64 q.col, .int .i64 q.pen.1, .int .i64 q.pen.2.1, .int .i64 q.pen.2.2, .int .u8 q.s0, .int .u8 q.s1, .int .i64 q.sh, .bool q.org]] w' _ from cur_is q.g hg _ q.row q.col q.pen q.s0 q.s1 q.sh q.org vc hvc w' (hg1'.low hb)))
  have C2 := hide (fun w' (hb : Below w1.heap.size w1 w') => (show Calls Tryd.prog 34 #[.agg #[.int .i64 q.g.rows, .int .i64 q.g.cols, .slice A (q.g.rows * q.g.cols) cp], .agg #[.int .i64 q.svrow, .int .i64 q.svcol, .int .i64 q.svpen.1, .int .i64 q.svpen.2.1, .int .i64 q.svpen.2.2, .int .u8 q.t0, .int .u8 q.t1, .int .i64 q.th, .bool q.so]] w' _ from cur_is q.g hg _ q.svrow q.svcol q.svpen q.t0 q.t1 q.th q.so vv hvv w' (hg1'.low hb)))
  clear hB hb1 hg1' hs1 hvm hvn hvc hvv hg h hs
  subst hb
  obtain ⟨g2, hg2⟩ : ∃ g, (vm && vn) = g := ⟨_, rfl⟩
  obtain ⟨g3, hg3⟩ : ∃ g, (g2 && vc) = g := ⟨_, rfl⟩
  obtain ⟨g4, hg4⟩ : ∃ g, (g3 && vv) = g := ⟨_, rfl⟩
  refine wp_region_gj (n := 28) [] (fun _ => #[]) [(0, 0, 0, 0, 0), (0, 0, 0, 0, 0), (0, 0, 0, 0, 0), (0, 0, 0, 0, 0), (0, 0, 0, 0, 0), (0, 0, 0, 0, 0), (0, 0, 0, 0, 0), (0, 0, 0, 0, 0), (0, 0, 0, 0, 0), (0, 0, 0, 0, 0), (0, 0, 0, 0, 0), (0, 0, 0, 0, 0), (0, 0, 0, 0, 0), (0, 0, 0, 0, 0), (0, 0, 0, 0, 0), (0, 0, 0, 0, 0), (0, 0, 0, 0, 0), (0, 0, 0, 0, 0), (0, 0, 0, 0, 0), (0, 0, 0, 0, 0), (0, 0, 0, 0, 0), (0, 0, 0, 0, 0), (0, 0, 0, 0, 0), (0, 0, 0, 0, 0), (0, 0, 0, 0, 0), (0, 0, 0, 0, 0)] (fun j => [(.pointer (some ⟨g, 0, none⟩)), (.agg #[.int .i64 q.g.rows, .int .i64 q.g.cols, .slice A (q.g.rows * q.g.cols) cp]), (.bool true), (.bool true), (.agg (rwA (.slice A (q.g.rows * q.g.cols) cp) q)), (.bool vm), (.bool vm), (.bool vm), cond vm (.agg (rwA (.slice A (q.g.rows * q.g.cols) cp) q)) undef, cond vm (.bool vn) undef, (.bool g2), (.bool g2), cond g2 (.pointer (some ⟨g, 0, none⟩)) undef, cond g2 (.agg #[.int .i64 q.g.rows, .int .i64 q.g.cols, .slice A (q.g.rows * q.g.cols) cp]) undef, cond g2 (.agg (rwA (.slice A (q.g.rows * q.g.cols) cp) q)) undef, cond g2 (.agg #[.int .i64 q.row, .int .i64 q.col, .int .i64 q.pen.1, .int .i64 q.pen.2.1, .int .i64 q.pen.2.2, .int .u8 q.s0, .int .u8 q.s1, .int .i64 q.sh, .bool q.org]) undef, cond g2 (.bool vc) undef, (.bool g3), (.bool g3), cond g3 (.pointer (some ⟨g, 0, none⟩)) undef, cond g3 (.agg #[.int .i64 q.g.rows, .int .i64 q.g.cols, .slice A (q.g.rows * q.g.cols) cp]) undef, cond g3 (.pointer (some ⟨g, 20, none⟩)) undef, cond g3 (.agg #[.int .i64 q.svrow, .int .i64 q.svcol, .int .i64 q.svpen.1, .int .i64 q.svpen.2.1, .int .i64 q.svpen.2.2, .int .u8 q.t0, .int .u8 q.t1, .int .i64 q.th, .bool q.so]) undef, cond g3 (.bool vv) undef, (.bool g4), (.bool g4)].getD j undef) [] (fun _ => 0) (by kernel_rfl) (by kernel_rfl) (by kernel_rfl) rfl (by kernel_rfl) (gno4 rfl) (fun i j h => by revert h; exact gno4 (p := fun _ => _) rfl i) (AllG.nil _) (fun hGS => cases26 ⟨?_, ?_, ?_, ?_, ?_, ?_, ?_, ?_, ?_, ?_, ?_, ?_, ?_, ?_, ?_, ?_, ?_, ?_, ?_, ?_, ?_, ?_, ?_, ?_, ?_, ?_⟩) ?_
  · intro L a w' hL hsame hsz hJ hdep hcl
    have hb := hJ.kept.toBelow (Nat.le_refl _) (by simp)
    have e0 : a.eval (.tmp 1) = (.pointer (some ⟨g, 0, none⟩)) := eval_base hsame (by kernel_rfl)
    refine Step.val _ rfl rfl (wanted_none rfl) (.pointer (some ⟨g, 0, none⟩)) w' (fun ρ hρ => ?_) (hJ.val hGS hcl hL rfl (Below.refl _ _) _ rfl)
    rw [hρ] at e0
    clear hJ hsame hdep hcl hρ hsz hb
    go_simp
  · intro L a w' hL hsame hsz hJ hdep hcl
    have hb := hJ.kept.toBelow (Nat.le_refl _) (by simp)
    have e0 : a.eval (.tmp 3) = (.pointer (some ⟨g, 0, none⟩)) := eval_slot (j := 0) (by kernel_rfl) (hJ.valOf (by decide) (dep_of hdep 0 (by kernel_rfl)) rfl rfl)
    have hx := hJ.keptBox (HB.out) (by simp)
    have q0 : w'.cell? ⟨g, 0, none⟩ = some (.int .i64 q.g.rows) := hx.cell 0
    have q1 : w'.cell? ⟨g, 1, none⟩ = some (.int .i64 q.g.cols) := hx.cell 1
    have q2 : w'.cell? ⟨g, 2, none⟩ = some (.slice A (q.g.rows * q.g.cols) cp) := hx.cell 2
    refine Step.val _ rfl rfl (wanted_none rfl) (.agg #[.int .i64 q.g.rows, .int .i64 q.g.cols, .slice A (q.g.rows * q.g.cols) cp]) w' (fun ρ hρ => ?_) (hJ.val hGS hcl hL rfl (Below.refl _ _) _ rfl)
    clear hx
    rw [hρ] at e0
    clear hJ hsame hdep hcl hρ hsz hb
    go_simp
  · intro L a w' hL hsame hsz hJ hdep hcl
    have hb := hJ.kept.toBelow (Nat.le_refl _) (by simp)
    have e0 : a.eval (.tmp 4) = (.agg #[.int .i64 q.g.rows, .int .i64 q.g.cols, .slice A (q.g.rows * q.g.cols) cp]) := eval_slot (j := 1) (by kernel_rfl) (hJ.valOf (by decide) (dep_of hdep 1 (by kernel_rfl)) rfl rfl)
    refine Step.call _ rfl rfl (wanted_none rfl) 31 #[.agg #[.int .i64 q.g.rows, .int .i64 q.g.cols, .slice A (q.g.rows * q.g.cols) cp]] (fun ρ hρ => ?_) ?_
    · skip
      rw [hρ] at e0
      have ef : ρ (.func 31) = .func (.func 31) #[] #[] := (hρ _).symm
      clear hJ hsame hdep hcl hρ hsz hb
      go_simp
    · refine (GR.out _ hb).mono ?_
      rintro e w2 ⟨rfl, bb⟩
      exact ⟨_, rfl, hJ.val hGS hcl hL rfl bb _ rfl⟩
  · intro L a w' hL hsame hsz hJ hdep hcl
    have hb := hJ.kept.toBelow (Nat.le_refl _) (by simp)
    have e0 : a.eval (.tmp 5) = (.bool true) := eval_slot (j := 2) (by kernel_rfl) (hJ.valOf (by decide) (dep_of hdep 2 (by kernel_rfl)) rfl rfl)
    refine Step.val _ rfl rfl (wanted_none rfl) (.bool true) w' (fun ρ hρ => ?_) (hJ.val hGS hcl hL rfl (Below.refl _ _) _ rfl)
    rw [hρ] at e0
    clear hJ hsame hdep hcl hρ hsz hb
    go_simp
  · intro L a w' hL hsame hsz hJ hdep hcl
    have gd : valOf _ 3 a = .bool true := hJ.valOf (by decide) (dep_of hdep 3 (by kernel_rfl)) rfl rfl
    have hb := hJ.kept.toBelow (Nat.le_refl _) (by simp)
    have e0 : a.eval (.tmp 1) = (.pointer (some ⟨g, 0, none⟩)) := eval_base hsame (by kernel_rfl)
    have hx := hJ.keptBox (HB.out) (by simp)
    exact Step.val _ rfl rfl (wanted_some (g := 3) (b := true) rfl gd) (.agg (rwA (.slice A (q.g.rows * q.g.cols) cp) q)) w' (fun ρ hρ => exec_load_any hx rfl ρ _ rfl ((hρ _).symm.trans e0)) (hJ.val hGS hcl hL rfl (Below.refl _ _) _ rfl)
  · intro L a w' hL hsame hsz hJ hdep hcl
    have gd : valOf _ 3 a = .bool true := hJ.valOf (by decide) (dep_of hdep 3 (by kernel_rfl)) rfl rfl
    have hb := hJ.kept.toBelow (Nat.le_refl _) (by simp)
    have e0 : a.eval (.tmp 7) = (.agg (rwA (.slice A (q.g.rows * q.g.cols) cp) q)) := eval_slot (j := 4) (by kernel_rfl) (hJ.valOf (by decide) (dep_of hdep 4 (by kernel_rfl)) rfl rfl)
    refine Step.call _ rfl rfl (wanted_some (g := 3) (b := true) rfl gd) 32 #[.agg (rwA (.slice A (q.g.rows * q.g.cols) cp) q)] (fun ρ hρ => ?_) ?_
    · skip
      rw [hρ] at e0
      have ef : ρ (.func 32) = .func (.func 32) #[] #[] := (hρ _).symm
      clear hJ hsame hdep hcl hρ hsz hb gd
      go_simp
    · refine (MG.out _).mono ?_
      rintro e w2 ⟨rfl, bb⟩
      exact ⟨_, rfl, hJ.val hGS hcl hL rfl bb _ rfl⟩
  · intro L a w' hL hsame hsz hJ hdep hcl
    have hb := hJ.kept.toBelow (Nat.le_refl _) (by simp)
    have e0 : a.eval (.tmp 6) = (.bool true) := eval_slot (j := 3) (by kernel_rfl) (hJ.valOf (by decide) (dep_of hdep 3 (by kernel_rfl)) rfl rfl)
    have e1 : a.eval (.tmp 8) = (.bool vm) := eval_slot (j := 5) (by kernel_rfl) (hJ.valOf (by decide) (dep_of hdep 5 (by kernel_rfl)) rfl rfl)
    refine Step.val _ rfl rfl (wanted_none rfl) (.bool vm) w' (fun ρ hρ => ?_) (hJ.val hGS hcl hL rfl (Below.refl _ _) _ rfl)
    rw [hρ] at e0 e1
    have ec0 : ρ (.const (.bool false)) = (.bool false) := (hρ _).symm
    clear hJ hsame hdep hcl hρ hsz hb
    go_simp
  · intro L a w' hL hsame hsz hJ hdep hcl
    have hb := hJ.kept.toBelow (Nat.le_refl _) (by simp)
    have e0 : a.eval (.tmp 9) = (.bool vm) := eval_slot (j := 6) (by kernel_rfl) (hJ.valOf (by decide) (dep_of hdep 6 (by kernel_rfl)) rfl rfl)
    refine Step.val _ rfl rfl (wanted_none rfl) (.bool vm) w' (fun ρ hρ => ?_) (hJ.val hGS hcl hL rfl (Below.refl _ _) _ rfl)
    rw [hρ] at e0
    clear hJ hsame hdep hcl hρ hsz hb
    go_simp
  · intro L a w' hL hsame hsz hJ hdep hcl
    cases vm
    · skip
      have gd : valOf _ 7 a = .bool false := hJ.valOf (by decide) (dep_of hdep 7 (by kernel_rfl)) rfl rfl
      exact GStep.pass _ rfl (gwanted_not (g := 7) (b := true) (c := false) rfl gd (by decide)) (hJ.val hGS hcl hL rfl (Below.refl _ _) _ rfl)
    · skip
      have gd : valOf _ 7 a = .bool true := hJ.valOf (by decide) (dep_of hdep 7 (by kernel_rfl)) rfl rfl
      have hb := hJ.kept.toBelow (Nat.le_refl _) (by simp)
      have e0 : a.eval (.tmp 1) = (.pointer (some ⟨g, 0, none⟩)) := eval_base hsame (by kernel_rfl)
      have hx := hJ.keptBox (HB.out) (by simp)
      exact Step.val _ rfl rfl (wanted_some (g := 7) (b := true) rfl gd) (.agg (rwA (.slice A (q.g.rows * q.g.cols) cp) q)) w' (fun ρ hρ => exec_load_any hx rfl ρ _ rfl ((hρ _).symm.trans e0)) (hJ.val hGS hcl hL rfl (Below.refl _ _) _ rfl)
  · intro L a w' hL hsame hsz hJ hdep hcl
    cases vm
    · skip
      have gd : valOf _ 7 a = .bool false := hJ.valOf (by decide) (dep_of hdep 7 (by kernel_rfl)) rfl rfl
      exact GStep.pass _ rfl (gwanted_not (g := 7) (b := true) (c := false) rfl gd (by decide)) (hJ.val hGS hcl hL rfl (Below.refl _ _) _ rfl)
    · skip
      have gd : valOf _ 7 a = .bool true := hJ.valOf (by decide) (dep_of hdep 7 (by kernel_rfl)) rfl rfl
      have hb := hJ.kept.toBelow (Nat.le_refl _) (by simp)
      have e0 : a.eval (.tmp 11) = (.agg (rwA (.slice A (q.g.rows * q.g.cols) cp) q)) := eval_slot (j := 8) (by kernel_rfl) (hJ.valOf (by decide) (dep_of hdep 8 (by kernel_rfl)) rfl rfl)
      refine Step.call _ rfl rfl (wanted_some (g := 7) (b := true) rfl gd) 33 #[.agg (rwA (.slice A (q.g.rows * q.g.cols) cp) q)] (fun ρ hρ => ?_) ?_
      · skip
        rw [hρ] at e0
        have ef : ρ (.func 33) = .func (.func 33) #[] #[] := (hρ _).symm
        clear hJ hsame hdep hcl hρ hsz hb gd
        go_simp
      · refine (PN.out _).mono ?_
        rintro e w2 ⟨rfl, bb⟩
        exact ⟨_, rfl, hJ.val hGS hcl hL rfl bb _ rfl⟩
  · intro L a w' hL hsame hsz hJ hdep hcl
    cases vm
    · skip
      have hb := hJ.kept.toBelow (Nat.le_refl _) (by simp)
      have e0 : a.eval (.tmp 10) = (.bool false) := eval_slot (j := 7) (by kernel_rfl) (hJ.valOf (by decide) (dep_of hdep 7 (by kernel_rfl)) rfl rfl)
      have e1 : a.eval (.tmp 12) = undef := eval_slot (j := 9) (by kernel_rfl) (hJ.valOf (by decide) (dep_of hdep 9 (by kernel_rfl)) rfl rfl)
      refine Step.val _ rfl rfl (wanted_none rfl) (.bool g2) w' (fun ρ hρ => ?_) (hJ.val hGS hcl hL rfl (Below.refl _ _) _ rfl)
      rw [hρ] at e0 e1
      have ec0 : ρ (.const (.bool false)) = (.bool false) := (hρ _).symm
      subst hg2
      clear hJ hsame hdep hcl hρ hsz hb
      go_simp
    · skip
      have hb := hJ.kept.toBelow (Nat.le_refl _) (by simp)
      have e0 : a.eval (.tmp 10) = (.bool true) := eval_slot (j := 7) (by kernel_rfl) (hJ.valOf (by decide) (dep_of hdep 7 (by kernel_rfl)) rfl rfl)
      have e1 : a.eval (.tmp 12) = (.bool vn) := eval_slot (j := 9) (by kernel_rfl) (hJ.valOf (by decide) (dep_of hdep 9 (by kernel_rfl)) rfl rfl)
      refine Step.val _ rfl rfl (wanted_none rfl) (.bool g2) w' (fun ρ hρ => ?_) (hJ.val hGS hcl hL rfl (Below.refl _ _) _ rfl)
      rw [hρ] at e0 e1
      have ec0 : ρ (.const (.bool false)) = (.bool false) := (hρ _).symm
      subst hg2
      clear hJ hsame hdep hcl hρ hsz hb
      go_simp
  · intro L a w' hL hsame hsz hJ hdep hcl
    have hb := hJ.kept.toBelow (Nat.le_refl _) (by simp)
    have e0 : a.eval (.tmp 13) = (.bool g2) := eval_slot (j := 10) (by kernel_rfl) (hJ.valOf (by decide) (dep_of hdep 10 (by kernel_rfl)) rfl rfl)
    refine Step.val _ rfl rfl (wanted_none rfl) (.bool g2) w' (fun ρ hρ => ?_) (hJ.val hGS hcl hL rfl (Below.refl _ _) _ rfl)
    rw [hρ] at e0
    clear hJ hsame hdep hcl hρ hsz hb
    go_simp
  · intro L a w' hL hsame hsz hJ hdep hcl
    cases g2
    · skip
      have gd : valOf _ 11 a = .bool false := hJ.valOf (by decide) (dep_of hdep 11 (by kernel_rfl)) rfl rfl
      exact GStep.pass _ rfl (gwanted_not (g := 11) (b := true) (c := false) rfl gd (by decide)) (hJ.val hGS hcl hL rfl (Below.refl _ _) _ rfl)
    · skip
      have gd : valOf _ 11 a = .bool true := hJ.valOf (by decide) (dep_of hdep 11 (by kernel_rfl)) rfl rfl
      have hb := hJ.kept.toBelow (Nat.le_refl _) (by simp)
      have e0 : a.eval (.tmp 1) = (.pointer (some ⟨g, 0, none⟩)) := eval_base hsame (by kernel_rfl)
      refine Step.val _ rfl rfl (wanted_some (g := 11) (b := true) rfl gd) (.pointer (some ⟨g, 0, none⟩)) w' (fun ρ hρ => ?_) (hJ.val hGS hcl hL rfl (Below.refl _ _) _ rfl)
      rw [hρ] at e0
      clear hJ hsame hdep hcl hρ hsz hb gd
      go_simp
  · intro L a w' hL hsame hsz hJ hdep hcl
    cases g2
    · skip
      have gd : valOf _ 11 a = .bool false := hJ.valOf (by decide) (dep_of hdep 11 (by kernel_rfl)) rfl rfl
      exact GStep.pass _ rfl (gwanted_not (g := 11) (b := true) (c := false) rfl gd (by decide)) (hJ.val hGS hcl hL rfl (Below.refl _ _) _ rfl)
    · skip
      have gd : valOf _ 11 a = .bool true := hJ.valOf (by decide) (dep_of hdep 11 (by kernel_rfl)) rfl rfl
      have hb := hJ.kept.toBelow (Nat.le_refl _) (by simp)
      have e0 : a.eval (.tmp 15) = (.pointer (some ⟨g, 0, none⟩)) := eval_slot (j := 12) (by kernel_rfl) (hJ.valOf (by decide) (dep_of hdep 12 (by kernel_rfl)) rfl rfl)
      have hx := hJ.keptBox (HB.out) (by simp)
      have q0 : w'.cell? ⟨g, 0, none⟩ = some (.int .i64 q.g.rows) := hx.cell 0
      have q1 : w'.cell? ⟨g, 1, none⟩ = some (.int .i64 q.g.cols) := hx.cell 1
      have q2 : w'.cell? ⟨g, 2, none⟩ = some (.slice A (q.g.rows * q.g.cols) cp) := hx.cell 2
      refine Step.val _ rfl rfl (wanted_some (g := 11) (b := true) rfl gd) (.agg #[.int .i64 q.g.rows, .int .i64 q.g.cols, .slice A (q.g.rows * q.g.cols) cp]) w' (fun ρ hρ => ?_) (hJ.val hGS hcl hL rfl (Below.refl _ _) _ rfl)
      clear hx
      rw [hρ] at e0
      clear hJ hsame hdep hcl hρ hsz hb gd
      go_simp
  · intro L a w' hL hsame hsz hJ hdep hcl
    cases g2
    · skip
      have gd : valOf _ 11 a = .bool false := hJ.valOf (by decide) (dep_of hdep 11 (by kernel_rfl)) rfl rfl
      exact GStep.pass _ rfl (gwanted_not (g := 11) (b := true) (c := false) rfl gd (by decide)) (hJ.val hGS hcl hL rfl (Below.refl _ _) _ rfl)
    · skip
      have gd : valOf _ 11 a = .bool true := hJ.valOf (by decide) (dep_of hdep 11 (by kernel_rfl)) rfl rfl
      have hb := hJ.kept.toBelow (Nat.le_refl _) (by simp)
      have e0 : a.eval (.tmp 1) = (.pointer (some ⟨g, 0, none⟩)) := eval_base hsame (by kernel_rfl)
      have hx := hJ.keptBox (HB.out) (by simp)
      exact Step.val _ rfl rfl (wanted_some (g := 11) (b := true) rfl gd) (.agg (rwA (.slice A (q.g.rows * q.g.cols) cp) q)) w' (fun ρ hρ => exec_load_any hx rfl ρ _ rfl ((hρ _).symm.trans e0)) (hJ.val hGS hcl hL rfl (Below.refl _ _) _ rfl)
  · intro L a w' hL hsame hsz hJ hdep hcl
    cases g2
    · skip
      have gd : valOf _ 11 a = .bool false := hJ.valOf (by decide) (dep_of hdep 11 (by kernel_rfl)) rfl rfl
      exact GStep.pass _ rfl (gwanted_not (g := 11) (b := true) (c := false) rfl gd (by decide)) (hJ.val hGS hcl hL rfl (Below.refl _ _) _ rfl)
    · skip
      have gd : valOf _ 11 a = .bool true := hJ.valOf (by decide) (dep_of hdep 11 (by kernel_rfl)) rfl rfl
      have hb := hJ.kept.toBelow (Nat.le_refl _) (by simp)
      have e0 : a.eval (.tmp 17) = (.agg (rwA (.slice A (q.g.rows * q.g.cols) cp) q)) := eval_slot (j := 14) (by kernel_rfl) (hJ.valOf (by decide) (dep_of hdep 14 (by kernel_rfl)) rfl rfl)
      refine Step.call _ rfl rfl (wanted_some (g := 11) (b := true) rfl gd) 35 #[.agg (rwA (.slice A (q.g.rows * q.g.cols) cp) q)] (fun ρ hρ => ?_) ?_
      · skip
        rw [hρ] at e0
        have ef : ρ (.func 35) = .func (.func 35) #[] #[] := (hρ _).symm
        clear hJ hsame hdep hcl hρ hsz hb gd
        go_simp
      · refine (CU.out _).mono ?_
        rintro e w2 ⟨rfl, bb⟩
        exact ⟨_, rfl, hJ.val hGS hcl hL rfl bb _ rfl⟩
  · intro L a w' hL hsame hsz hJ hdep hcl
    cases g2
    · skip
      have gd : valOf _ 11 a = .bool false := hJ.valOf (by decide) (dep_of hdep 11 (by kernel_rfl)) rfl rfl
      exact GStep.pass _ rfl (gwanted_not (g := 11) (b := true) (c := false) rfl gd (by decide)) (hJ.val hGS hcl hL rfl (Below.refl _ _) _ rfl)
    · skip
      have gd : valOf _ 11 a = .bool true := hJ.valOf (by decide) (dep_of hdep 11 (by kernel_rfl)) rfl rfl
      have hb := hJ.kept.toBelow (Nat.le_refl _) (by simp)
      have e0 : a.eval (.tmp 16) = (.agg #[.int .i64 q.g.rows, .int .i64 q.g.cols, .slice A (q.g.rows * q.g.cols) cp]) := eval_slot (j := 13) (by kernel_rfl) (hJ.valOf (by decide) (dep_of hdep 13 (by kernel_rfl)) rfl rfl)
      have e1 : a.eval (.tmp 18) = (.agg #[.int .i64 q.row, .int .i64 q.col, .int .i64 q.pen.1, .int .i64 q.pen.2.1, .int .i64 q.pen.2.2, .int .u8 q.s0, .int .u8 q.s1, .int .i64 q.sh, .bool q.org]) := eval_slot (j := 15) (by kernel_rfl) (hJ.valOf (by decide) (dep_of hdep 15 (by kernel_rfl)) rfl rfl)
      refine Step.call _ rfl rfl (wanted_some (g := 11) (b := true) rfl gd) 34 #[.agg #[.int .i64 q.g.rows, .int .i64 q.g.cols, .slice A (q.g.rows * q.g.cols) cp], .agg #[.int .i64 q.row, .int .i64 q.col, .int .i64 q.pen.1, .int .i64 q.pen.2.1, .int .i64 q.pen.2.2, .int .u8 q.s0, .int .u8 q.s1, .int .i64 q.sh, .bool q.org]] (fun ρ hρ => ?_) ?_
      · skip
        rw [hρ] at e0 e1
        have ef : ρ (.func 34) = .func (.func 34) #[] #[] := (hρ _).symm
        clear hJ hsame hdep hcl hρ hsz hb gd
        go_simp
      · refine (C1.out _ hb).mono ?_
        rintro e w2 ⟨rfl, bb⟩
        exact ⟨_, rfl, hJ.val hGS hcl hL rfl bb _ rfl⟩
  · intro L a w' hL hsame hsz hJ hdep hcl
    cases g2
    · skip
      have hb := hJ.kept.toBelow (Nat.le_refl _) (by simp)
      have e0 : a.eval (.tmp 14) = (.bool false) := eval_slot (j := 11) (by kernel_rfl) (hJ.valOf (by decide) (dep_of hdep 11 (by kernel_rfl)) rfl rfl)
      have e1 : a.eval (.tmp 19) = undef := eval_slot (j := 16) (by kernel_rfl) (hJ.valOf (by decide) (dep_of hdep 16 (by kernel_rfl)) rfl rfl)
      refine Step.val _ rfl rfl (wanted_none rfl) (.bool g3) w' (fun ρ hρ => ?_) (hJ.val hGS hcl hL rfl (Below.refl _ _) _ rfl)
      rw [hρ] at e0 e1
      have ec0 : ρ (.const (.bool false)) = (.bool false) := (hρ _).symm
      subst hg3
      clear hJ hsame hdep hcl hρ hsz hb
      go_simp
    · skip
      have hb := hJ.kept.toBelow (Nat.le_refl _) (by simp)
      have e0 : a.eval (.tmp 14) = (.bool true) := eval_slot (j := 11) (by kernel_rfl) (hJ.valOf (by decide) (dep_of hdep 11 (by kernel_rfl)) rfl rfl)
      have e1 : a.eval (.tmp 19) = (.bool vc) := eval_slot (j := 16) (by kernel_rfl) (hJ.valOf (by decide) (dep_of hdep 16 (by kernel_rfl)) rfl rfl)
      refine Step.val _ rfl rfl (wanted_none rfl) (.bool g3) w' (fun ρ hρ => ?_) (hJ.val hGS hcl hL rfl (Below.refl _ _) _ rfl)
      rw [hρ] at e0 e1
      have ec0 : ρ (.const (.bool false)) = (.bool false) := (hρ _).symm
      subst hg3
      clear hJ hsame hdep hcl hρ hsz hb
      go_simp
  · intro L a w' hL hsame hsz hJ hdep hcl
    have hb := hJ.kept.toBelow (Nat.le_refl _) (by simp)
    have e0 : a.eval (.tmp 20) = (.bool g3) := eval_slot (j := 17) (by kernel_rfl) (hJ.valOf (by decide) (dep_of hdep 17 (by kernel_rfl)) rfl rfl)
    refine Step.val _ rfl rfl (wanted_none rfl) (.bool g3) w' (fun ρ hρ => ?_) (hJ.val hGS hcl hL rfl (Below.refl _ _) _ rfl)
    rw [hρ] at e0
    clear hJ hsame hdep hcl hρ hsz hb
    go_simp
  · intro L a w' hL hsame hsz hJ hdep hcl
    cases g3
    · skip
      have gd : valOf _ 18 a = .bool false := hJ.valOf (by decide) (dep_of hdep 18 (by kernel_rfl)) rfl rfl
      exact GStep.pass _ rfl (gwanted_not (g := 18) (b := true) (c := false) rfl gd (by decide)) (hJ.val hGS hcl hL rfl (Below.refl _ _) _ rfl)
    · skip
      have gd : valOf _ 18 a = .bool true := hJ.valOf (by decide) (dep_of hdep 18 (by kernel_rfl)) rfl rfl
      have hb := hJ.kept.toBelow (Nat.le_refl _) (by simp)
      have e0 : a.eval (.tmp 1) = (.pointer (some ⟨g, 0, none⟩)) := eval_base hsame (by kernel_rfl)
      refine Step.val _ rfl rfl (wanted_some (g := 18) (b := true) rfl gd) (.pointer (some ⟨g, 0, none⟩)) w' (fun ρ hρ => ?_) (hJ.val hGS hcl hL rfl (Below.refl _ _) _ rfl)
      rw [hρ] at e0
      clear hJ hsame hdep hcl hρ hsz hb gd
      go_simp
  · intro L a w' hL hsame hsz hJ hdep hcl
    cases g3
    · skip
      have gd : valOf _ 18 a = .bool false := hJ.valOf (by decide) (dep_of hdep 18 (by kernel_rfl)) rfl rfl
      exact GStep.pass _ rfl (gwanted_not (g := 18) (b := true) (c := false) rfl gd (by decide)) (hJ.val hGS hcl hL rfl (Below.refl _ _) _ rfl)
    · skip
      have gd : valOf _ 18 a = .bool true := hJ.valOf (by decide) (dep_of hdep 18 (by kernel_rfl)) rfl rfl
      have hb := hJ.kept.toBelow (Nat.le_refl _) (by simp)
      have e0 : a.eval (.tmp 22) = (.pointer (some ⟨g, 0, none⟩)) := eval_slot (j := 19) (by kernel_rfl) (hJ.valOf (by decide) (dep_of hdep 19 (by kernel_rfl)) rfl rfl)
      have hx := hJ.keptBox (HB.out) (by simp)
      have q0 : w'.cell? ⟨g, 0, none⟩ = some (.int .i64 q.g.rows) := hx.cell 0
      have q1 : w'.cell? ⟨g, 1, none⟩ = some (.int .i64 q.g.cols) := hx.cell 1
      have q2 : w'.cell? ⟨g, 2, none⟩ = some (.slice A (q.g.rows * q.g.cols) cp) := hx.cell 2
      refine Step.val _ rfl rfl (wanted_some (g := 18) (b := true) rfl gd) (.agg #[.int .i64 q.g.rows, .int .i64 q.g.cols, .slice A (q.g.rows * q.g.cols) cp]) w' (fun ρ hρ => ?_) (hJ.val hGS hcl hL rfl (Below.refl _ _) _ rfl)
      clear hx
      rw [hρ] at e0
      clear hJ hsame hdep hcl hρ hsz hb gd
      go_simp
  · intro L a w' hL hsame hsz hJ hdep hcl
    cases g3
    · skip
      have gd : valOf _ 18 a = .bool false := hJ.valOf (by decide) (dep_of hdep 18 (by kernel_rfl)) rfl rfl
      exact GStep.pass _ rfl (gwanted_not (g := 18) (b := true) (c := false) rfl gd (by decide)) (hJ.val hGS hcl hL rfl (Below.refl _ _) _ rfl)
    · skip
      have gd : valOf _ 18 a = .bool true := hJ.valOf (by decide) (dep_of hdep 18 (by kernel_rfl)) rfl rfl
      have hb := hJ.kept.toBelow (Nat.le_refl _) (by simp)
      have e0 : a.eval (.tmp 1) = (.pointer (some ⟨g, 0, none⟩)) := eval_base hsame (by kernel_rfl)
      refine Step.val _ rfl rfl (wanted_some (g := 18) (b := true) rfl gd) (.pointer (some ⟨g, 20, none⟩)) w' (fun ρ hρ => ?_) (hJ.val hGS hcl hL rfl (Below.refl _ _) _ rfl)
      rw [hρ] at e0
      clear hJ hsame hdep hcl hρ hsz hb gd
      go_simp
  · intro L a w' hL hsame hsz hJ hdep hcl
    cases g3
    · skip
      have gd : valOf _ 18 a = .bool false := hJ.valOf (by decide) (dep_of hdep 18 (by kernel_rfl)) rfl rfl
      exact GStep.pass _ rfl (gwanted_not (g := 18) (b := true) (c := false) rfl gd (by decide)) (hJ.val hGS hcl hL rfl (Below.refl _ _) _ rfl)
    · skip
      have gd : valOf _ 18 a = .bool true := hJ.valOf (by decide) (dep_of hdep 18 (by kernel_rfl)) rfl rfl
      have hb := hJ.kept.toBelow (Nat.le_refl _) (by simp)
      have e0 : a.eval (.tmp 24) = (.pointer (some ⟨g, 20, none⟩)) := eval_slot (j := 21) (by kernel_rfl) (hJ.valOf (by decide) (dep_of hdep 21 (by kernel_rfl)) rfl rfl)
      have hx := hJ.keptBox (HB.out) (by simp)
      have q0 : w'.cell? ⟨g, 20, none⟩ = some (.int .i64 q.svrow) := hx.cell 20
      have q1 : w'.cell? ⟨g, 21, none⟩ = some (.int .i64 q.svcol) := hx.cell 21
      have q2 : w'.cell? ⟨g, 22, none⟩ = some (.int .i64 q.svpen.1) := hx.cell 22
      have q3 : w'.cell? ⟨g, 23, none⟩ = some (.int .i64 q.svpen.2.1) := hx.cell 23
      have q4 : w'.cell? ⟨g, 24, none⟩ = some (.int .i64 q.svpen.2.2) := hx.cell 24
      have q5 : w'.cell? ⟨g, 25, none⟩ = some (.int .u8 q.t0) := hx.cell 25
      have q6 : w'.cell? ⟨g, 26, none⟩ = some (.int .u8 q.t1) := hx.cell 26
      have q7 : w'.cell? ⟨g, 27, none⟩ = some (.int .i64 q.th) := hx.cell 27
      have q8 : w'.cell? ⟨g, 28, none⟩ = some (.bool q.so) := hx.cell 28
      refine Step.val _ rfl rfl (wanted_some (g := 18) (b := true) rfl gd) (.agg #[.int .i64 q.svrow, .int .i64 q.svcol, .int .i64 q.svpen.1, .int .i64 q.svpen.2.1, .int .i64 q.svpen.2.2, .int .u8 q.t0, .int .u8 q.t1, .int .i64 q.th, .bool q.so]) w' (fun ρ hρ => ?_) (hJ.val hGS hcl hL rfl (Below.refl _ _) _ rfl)
      clear hx
      rw [hρ] at e0
      clear hJ hsame hdep hcl hρ hsz hb gd
      go_simp
  · intro L a w' hL hsame hsz hJ hdep hcl
    cases g3
    · skip
      have gd : valOf _ 18 a = .bool false := hJ.valOf (by decide) (dep_of hdep 18 (by kernel_rfl)) rfl rfl
      exact GStep.pass _ rfl (gwanted_not (g := 18) (b := true) (c := false) rfl gd (by decide)) (hJ.val hGS hcl hL rfl (Below.refl _ _) _ rfl)
    · skip
      have gd : valOf _ 18 a = .bool true := hJ.valOf (by decide) (dep_of hdep 18 (by kernel_rfl)) rfl rfl
      have hb := hJ.kept.toBelow (Nat.le_refl _) (by simp)
      have e0 : a.eval (.tmp 23) = (.agg #[.int .i64 q.g.rows, .int .i64 q.g.cols, .slice A (q.g.rows * q.g.cols) cp]) := eval_slot (j := 20) (by kernel_rfl) (hJ.valOf (by decide) (dep_of hdep 20 (by kernel_rfl)) rfl rfl)
      have e1 : a.eval (.tmp 25) = (.agg #[.int .i64 q.svrow, .int .i64 q.svcol, .int .i64 q.svpen.1, .int .i64 q.svpen.2.1, .int .i64 q.svpen.2.2, .int .u8 q.t0, .int .u8 q.t1, .int .i64 q.th, .bool q.so]) := eval_slot (j := 22) (by kernel_rfl) (hJ.valOf (by decide) (dep_of hdep 22 (by kernel_rfl)) rfl rfl)
      refine Step.call _ rfl rfl (wanted_some (g := 18) (b := true) rfl gd) 34 #[.agg #[.int .i64 q.g.rows, .int .i64 q.g.cols, .slice A (q.g.rows * q.g.cols) cp], .agg #[.int .i64 q.svrow, .int .i64 q.svcol, .int .i64 q.svpen.1, .int .i64 q.svpen.2.1, .int .i64 q.svpen.2.2, .int .u8 q.t0, .int .u8 q.t1, .int .i64 q.th, .bool q.so]] (fun ρ hρ => ?_) ?_
      · skip
        rw [hρ] at e0 e1
        have ef : ρ (.func 34) = .func (.func 34) #[] #[] := (hρ _).symm
        clear hJ hsame hdep hcl hρ hsz hb gd
        go_simp
      · refine (C2.out _ hb).mono ?_
        rintro e w2 ⟨rfl, bb⟩
        exact ⟨_, rfl, hJ.val hGS hcl hL rfl bb _ rfl⟩
  · intro L a w' hL hsame hsz hJ hdep hcl
    cases g3
    · skip
      have hb := hJ.kept.toBelow (Nat.le_refl _) (by simp)
      have e0 : a.eval (.tmp 21) = (.bool false) := eval_slot (j := 18) (by kernel_rfl) (hJ.valOf (by decide) (dep_of hdep 18 (by kernel_rfl)) rfl rfl)
      have e1 : a.eval (.tmp 26) = undef := eval_slot (j := 23) (by kernel_rfl) (hJ.valOf (by decide) (dep_of hdep 23 (by kernel_rfl)) rfl rfl)
      refine Step.val _ rfl rfl (wanted_none rfl) (.bool g4) w' (fun ρ hρ => ?_) (hJ.val hGS hcl hL rfl (Below.refl _ _) _ rfl)
      rw [hρ] at e0 e1
      have ec0 : ρ (.const (.bool false)) = (.bool false) := (hρ _).symm
      subst hg4
      clear hJ hsame hdep hcl hρ hsz hb
      go_simp
    · skip
      have hb := hJ.kept.toBelow (Nat.le_refl _) (by simp)
      have e0 : a.eval (.tmp 21) = (.bool true) := eval_slot (j := 18) (by kernel_rfl) (hJ.valOf (by decide) (dep_of hdep 18 (by kernel_rfl)) rfl rfl)
      have e1 : a.eval (.tmp 26) = (.bool vv) := eval_slot (j := 23) (by kernel_rfl) (hJ.valOf (by decide) (dep_of hdep 23 (by kernel_rfl)) rfl rfl)
      refine Step.val _ rfl rfl (wanted_none rfl) (.bool g4) w' (fun ρ hρ => ?_) (hJ.val hGS hcl hL rfl (Below.refl _ _) _ rfl)
      rw [hρ] at e0 e1
      have ec0 : ρ (.const (.bool false)) = (.bool false) := (hρ _).symm
      subst hg4
      clear hJ hsame hdep hcl hρ hsz hb
      go_simp
  · intro L a w' hL hsame hsz hJ hdep hcl
    have hb := hJ.kept.toBelow (Nat.le_refl _) (by simp)
    have e0 : a.eval (.tmp 27) = (.bool g4) := eval_slot (j := 24) (by kernel_rfl) (hJ.valOf (by decide) (dep_of hdep 24 (by kernel_rfl)) rfl rfl)
    refine Step.val _ rfl rfl (wanted_none rfl) (.bool g4) w' (fun ρ hρ => ?_) (hJ.val hGS hcl hL rfl (Below.refl _ _) _ rfl)
    rw [hρ] at e0
    clear hJ hsame hdep hcl hρ hsz hb
    go_simp
  · intro u w' hF
    change Exit.then _ _ Exit.normal (Act.put (Act.put (Act.put (Act.put (Act.put (Act.put (Act.put (Act.put (Act.put (Act.put (Act.put (Act.put (Act.put (Act.put (Act.put (Act.put (Act.put (Act.put (Act.put (Act.put (Act.put (Act.put (Act.put (Act.put (Act.put (Act.put (putAll _ u 0 _) (some 3) (u 0)) (some 4) (u 1)) (some 5) (u 2)) (some 6) (u 3)) (some 7) (u 4)) (some 8) (u 5)) (some 9) (u 6)) (some 10) (u 7)) (some 11) (u 8)) (some 12) (u 9)) (some 13) (u 10)) (some 14) (u 11)) (some 15) (u 12)) (some 16) (u 13)) (some 17) (u 14)) (some 18) (u 15)) (some 19) (u 16)) (some 20) (u 17)) (some 21) (u 18)) (some 22) (u 19)) (some 23) (u 20)) (some 24) (u 21)) (some 25) (u 22)) (some 26) (u 23)) (some 27) (u 24)) (some 2) (u 25)) _
    simp only [putAll]
    have f : u 25 = .bool g4 := hF.fin0 (j := 25) (by decide) rfl rfl
    have hk := hF.kept.toBelow (Nat.le_refl _) (by simp)
    clear hF
    generalize u 0 = z0
    generalize u 1 = z1
    generalize u 2 = z2
    generalize u 3 = z3
    generalize u 4 = z4
    generalize u 5 = z5
    generalize u 6 = z6
    generalize u 7 = z7
    generalize u 8 = z8
    generalize u 9 = z9
    generalize u 10 = z10
    generalize u 11 = z11
    generalize u 12 = z12
    generalize u 13 = z13
    generalize u 14 = z14
    generalize u 15 = z15
    generalize u 16 = z16
    generalize u 17 = z17
    generalize u 18 = z18
    generalize u 19 = z19
    generalize u 20 = z20
    generalize u 21 = z21
    generalize u 22 = z22
    generalize u 23 = z23
    generalize u 24 = z24
    generalize u 25 = z25 at f ⊢
    subst f
    go_simp
    go_step
    refine wp_ret ?_
    (try simp only [Exit.then, Exit.inBlock])
    refine bodyPost_ret (v := .bool g4) (by simp [results, Tryd.results16, go_sem]) rfl ⟨?_, HW.out.trans (hk.mono HW.out.size)⟩
    subst hg2 hg3 hg4
    simp only [Bool.and_assoc]
end Go.Proofs.YtdcdinlppjlmfaaDoor
