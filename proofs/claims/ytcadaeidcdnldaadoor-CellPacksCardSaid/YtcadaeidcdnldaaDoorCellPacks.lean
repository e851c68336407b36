/- CellPacks: a right pen comes back out of its number; two have one number just if they are the same; any number is a pen's only if that pen packs to it. -/
import Derived.Test.YtcadaeidcdnldaaDoorCellTells
import Derived.Test.YtcadaeidcdnldaaDoorKeepPen
import Derived.Deep.RegionHeld3
import Derived.Deep.DeepCutAuto
import Derived.IntWalk
namespace Go.Proofs.YtcadaeidcdnldaaDoor
open Go.RowKit
set_option linter.unusedVariables false
theorem unpack_is (n : Int) (v : Value) (hv : unp n = v) (w : World) (n0 : 0 ≤ n) (n1 : n < 18446744073709551616) : Calls Tryd.prog 17 #[.int .u64 n] w fun e w' => e = .returned v ∧ Below w.heap.size w w' := by
  subst hv
  exact unpack_any n w n0 n1
theorem keepPen_is (a b c x y z : Int) (hx : C.kcol a = x) (hy : C.kcol b = y) (hz : c % 256 = z) (w : World) (a0 : -9223372036854775808 ≤ a) (a1 : a ≤ 9223372036854775807) (b0 : -9223372036854775808 ≤ b) (b1 : b ≤ 9223372036854775807) (c0 : -9223372036854775808 ≤ c) (c1 : c ≤ 9223372036854775807) :
    Calls Tryd.prog 16 #[.agg #[.int .i64 a, .int .i64 b, .int .i64 c]] w fun e w' => e = .returned (.agg #[.int .i64 x, .int .i64 y, .int .i64 z]) ∧ Below w.heap.size w w' := by
  subst hx hy hz
  exact keepPen_any a b c w a0 a1 b0 b1 c0 c1
theorem bcell {W w1 : World} (hb : Below W.heap.size W w1) : (∀ b o, b < W.heap.size → w1.cell? ⟨b, o, none⟩ = W.cell? ⟨b, o, none⟩) ∧ (∀ b o, b < W.heap.size → w1.frozen? ⟨b, o, none⟩ = W.frozen? ⟨b, o, none⟩) :=
  ⟨fun b o h => hb.cell (p := ⟨b, o, none⟩) h, fun b o h => hb.frozen (p := ⟨b, o, none⟩) h⟩
/-- what a region has made of world w0: all that was there stays -/
def InReg (w0 w : World) : Prop := Below w0.heap.size w0 w
theorem InReg.cell {w0 w : World} (h : InReg w0 w) {p : Addr} (hp : p.block < w0.heap.size) : w.cell? p = w0.cell? p := Below.cell h hp
theorem InReg.size {w0 w : World} (h : InReg w0 w) : w0.heap.size ≤ w.heap.size := Below.size h
theorem InReg.alloc {w0 w : World} (h : InReg w0 w) (o : Obj) : InReg w0 (w.alloc o) := Below.alloc h h.size o
theorem InReg.set {w0 w : World} (h : InReg w0 w) {p : Addr} (hp : w0.heap.size ≤ p.block) (u : Value) : InReg w0 (w.setCell p u) := Below.setCell h hp u
theorem InReg.box {w0 w : World} {g : Nat} {t : TypeId} {cs : Array Value} (h : InReg w0 w) (hb : Box w0 g t cs) : Box w g t cs := Box.below hb h hb.lt
theorem InReg.refl (w : World) : InReg w w := Below.refl _ _
theorem InReg.drew {w0 w : World} (h : InReg w0 w) : InReg w0 w.drew := Below.drew h
theorem InReg.call {w0 w w' : World} (h : InReg w0 w) (bb : Below w.heap.size w w') : InReg w0 w' := Below.trans h (bb.mono h.size)
/-- two pens in two boxes, a third one aside -/
def TwoPens (w : World) (r0 r1 r2 pf pb pg qf qb qg : Int) (s9 s10 : Value) (wx : World) : Prop :=
  ∃ g1 g2 : Nat, s9 = .pointer (some ⟨g1, 0, none⟩) ∧ s10 = .pointer (some ⟨g2, 0, none⟩) ∧ Box wx g1 26 #[.int .i64 pf, .int .i64 pb, .int .i64 pg] ∧ Box wx g2 26 #[.int .i64 qf, .int .i64 qb, .int .i64 qg] ∧
    Box wx (w.heap.size + 2) 26 #[.int .i64 r0, .int .i64 r1, .int .i64 r2] ∧ Below w.heap.size w wx
set_option maxHeartbeats 4000000 in
set_option maxRecDepth 100000 in
theorem cellPacks_t (a0 a1 a2 b0 b1 b2 n r0 r1 r2 pf pb pg qf qb qg X Y V u0 u1 u2 : Int) (is rr eq : Bool) (w : World) (hs : Spans w)
    (PC : Hid (∀ w', Calls Tryd.prog 16 #[.agg #[.int .i64 a0, .int .i64 a1, .int .i64 a2]] w' fun e w'' => e = .returned (.agg #[.int .i64 pf, .int .i64 pb, .int .i64 pg]) ∧ Below w'.heap.size w' w''))
    (QC : Hid (∀ w', Calls Tryd.prog 16 #[.agg #[.int .i64 b0, .int .i64 b1, .int .i64 b2]] w' fun e w'' => e = .returned (.agg #[.int .i64 qf, .int .i64 qb, .int .i64 qg]) ∧ Below w'.heap.size w' w''))
    (PP : Hid (∀ w', Calls Tryd.prog 9 #[.agg #[.int .i64 pf, .int .i64 pb, .int .i64 pg]] w' fun e w'' => e = .returned (.int .u64 X) ∧ Below w'.heap.size w' w''))
    (QQ : Hid (∀ w', Calls Tryd.prog 9 #[.agg #[.int .i64 qf, .int .i64 qb, .int .i64 qg]] w' fun e w'' => e = .returned (.int .u64 Y) ∧ Below w'.heap.size w' w''))
    (UX : Hid (∀ w', Calls Tryd.prog 17 #[.int .u64 X] w' fun e w'' => e = .returned (.tuple #[.agg #[.int .i64 pf, .int .i64 pb, .int .i64 pg], .bool true]) ∧ Below w'.heap.size w' w''))
    (UN : Hid (∀ w', Calls Tryd.prog 17 #[.int .u64 n] w' fun e w'' => e = .returned (.tuple #[.agg #[.int .i64 u0, .int .i64 u1, .int .i64 u2], .bool is]) ∧ Below w'.heap.size w' w''))
    (RP : Hid (∀ w', Calls Tryd.prog 11 #[.agg #[.int .i64 pf, .int .i64 pb, .int .i64 pg]] w' fun e w'' => e = .returned (.bool true) ∧ Below w'.heap.size w' w''))
    (RR : Hid (∀ w', Calls Tryd.prog 11 #[.agg #[.int .i64 r0, .int .i64 r1, .int .i64 r2]] w' fun e w'' => e = .returned (.bool rr) ∧ Below w'.heap.size w' w''))
    (PR : Hid (∀ w', Calls Tryd.prog 9 #[.agg #[.int .i64 r0, .int .i64 r1, .int .i64 r2]] w' fun e w'' => e = .returned (.int .u64 V) ∧ Below w'.heap.size w' w''))
    (RU : is = true → Hid (∀ w', Calls Tryd.prog 11 #[.agg #[.int .i64 u0, .int .i64 u1, .int .i64 u2]] w' fun e w'' => e = .returned (.bool true) ∧ Below w'.heap.size w' w''))
    (PU : is = true → Hid (∀ w', Calls Tryd.prog 9 #[.agg #[.int .i64 u0, .int .i64 u1, .int .i64 u2]] w' fun e w'' => e = .returned (.int .u64 n) ∧ Below w'.heap.size w' w''))
    (hu : is = false → u0 = 0 ∧ u1 = 0 ∧ u2 = 0)
    (hv : (V != 18446744073709551615) = rr)
    (hxy : (X == Y) = eq) (hpq : (pf == qf && pb == qb && pg == qg) = eq) (hX0 : 0 ≤ X) (hX1 : X < 1152921504606846976)
    (hpf0 : -1 ≤ pf) (hpf1 : pf < 33554432) (hpb0 : -1 ≤ pb) (hpb1 : pb < 33554432) (hpg0 : 0 ≤ pg) (hpg1 : pg ≤ 255)
    (hor : bits .or .u64 (bits .or .u64 pg ((pf + 1) * 256)) ((pb + 1) * 17179869184) = X) :
    Calls Tryd.prog 5 #[.agg #[.int .i64 a0, .int .i64 a1, .int .i64 a2], .agg #[.int .i64 b0, .int .i64 b1, .int .i64 b2], .int .u64 n, .agg #[.int .i64 r0, .int .i64 r1, .int .i64 r2]] w fun e w' => e = .returned (.bool true) ∧ Below w.heap.size w w' := by
  have HSP := hide hs
  clear hs
  go_enter Tryd.func5, Tryd.ntmps5
  go_upto_region 1 with fail
  go_cut [9, 10] (fun s9 s10 wx => TwoPens w r0 r1 r2 pf pb pg qf qb qg s9 s10 wx)
  case first =>
    have xa : Box (((w.alloc (.cells #[.int .i64 a0, .int .i64 a1, .int .i64 a2] 36)).alloc (.cells #[.int .i64 b0, .int .i64 b1, .int .i64 b2] 36)).alloc (.cells #[.int .i64 r0, .int .i64 r1, .int .i64 r2] 26)) w.heap.size 36 #[.int .i64 a0, .int .i64 a1, .int .i64 a2] := ((Box.new w _ _).alloc _).alloc _
    have xb : Box (((w.alloc (.cells #[.int .i64 a0, .int .i64 a1, .int .i64 a2] 36)).alloc (.cells #[.int .i64 b0, .int .i64 b1, .int .i64 b2] 36)).alloc (.cells #[.int .i64 r0, .int .i64 r1, .int .i64 r2] 26)) (w.heap.size + 1) 36 #[.int .i64 b0, .int .i64 b1, .int .i64 b2] := (Box.fresh (by simp)).alloc _
    have xr : Box (((w.alloc (.cells #[.int .i64 a0, .int .i64 a1, .int .i64 a2] 36)).alloc (.cells #[.int .i64 b0, .int .i64 b1, .int .i64 b2] 36)).alloc (.cells #[.int .i64 r0, .int .i64 r1, .int .i64 r2] 26)) (w.heap.size + 2) 26 #[.int .i64 r0, .int .i64 r1, .int .i64 r2] := Box.fresh (by simp)
    have bw : Below w.heap.size w (((w.alloc (.cells #[.int .i64 a0, .int .i64 a1, .int .i64 a2] 36)).alloc (.cells #[.int .i64 b0, .int .i64 b1, .int .i64 b2] 36)).alloc (.cells #[.int .i64 r0, .int .i64 r1, .int .i64 r2] 26)) := (((Below.refl _ _).alloc (Nat.le_refl _) _).alloc (by simp) _).alloc (by simp; omega) _
    have sz : (((w.alloc (.cells #[.int .i64 a0, .int .i64 a1, .int .i64 a2] 36)).alloc (.cells #[.int .i64 b0, .int .i64 b1, .int .i64 b2] 36)).alloc (.cells #[.int .i64 r0, .int .i64 r1, .int .i64 r2] 26)).heap.size = w.heap.size + 3 := by simp
    generalize ((w.alloc (.cells #[.int .i64 a0, .int .i64 a1, .int .i64 a2] 36)).alloc (.cells #[.int .i64 b0, .int .i64 b1, .int .i64 b2] 36)).alloc (.cells #[.int .i64 r0, .int .i64 r1, .int .i64 r2] 26) = w0 at xa xb xr bw sz ⊢
    have sl : w.heap.size + 3 ≤ w0.heap.size := by omega
    have SZ := hide sz
    clear sz
    have h0 : InReg w0 w0.drew := (Below.refl _ _).drew
    have Ra0 : ∀ w', InReg w0 w' → w'.cell? ⟨w.heap.size, 0, none⟩ = some (.int .i64 a0) := fun w' h => (h.cell (by simp; omega)).trans (xa.cell 0)
    have Ra1 : ∀ w', InReg w0 w' → w'.cell? ⟨w.heap.size, 1, none⟩ = some (.int .i64 a1) := fun w' h => (h.cell (by simp; omega)).trans (xa.cell 1)
    have Ra2 : ∀ w', InReg w0 w' → w'.cell? ⟨w.heap.size, 2, none⟩ = some (.int .i64 a2) := fun w' h => (h.cell (by simp; omega)).trans (xa.cell 2)
    have Rb0 : ∀ w', InReg w0 w' → w'.cell? ⟨w.heap.size + 1, 0, none⟩ = some (.int .i64 b0) := fun w' h => (h.cell (by simp; omega)).trans (xb.cell 0)
    have Rb1 : ∀ w', InReg w0 w' → w'.cell? ⟨w.heap.size + 1, 1, none⟩ = some (.int .i64 b1) := fun w' h => (h.cell (by simp; omega)).trans (xb.cell 1)
    have Rb2 : ∀ w', InReg w0 w' → w'.cell? ⟨w.heap.size + 1, 2, none⟩ = some (.int .i64 b2) := fun w' h => (h.cell (by simp; omega)).trans (xb.cell 2)
    go_region_held3 (fun w' => InReg w0 w')
      (((repeat (first | with_reducible assumption | with_reducible exact h0 | with_reducible exact InReg.refl _ | with_reducible refine InReg.drew ?_ | with_reducible exact hQ.out | with_reducible exact hP.out | with_reducible refine InReg.alloc ?_ _ | (with_reducible refine InReg.set ?_ ?hside _; (case hside => ((try dsimp only); omega))))); done))
      (first | (go_at_call_of 16 (Value.agg #[Value.int IntKind.i64 a0, Value.int IntKind.i64 a1, Value.int IntKind.i64 a2]); refine (PC.out _).mono ?_; rintro e wP ⟨rfl, bb⟩; have hP := Lib.hid (InReg.call (by assumption) bb); have sP := hP.out.size; (try (have yA : Box wP (w0.heap.size) 26 #[.int .i64 0, .int .i64 0, .int .i64 0] := by (first | (with_reducible refine Box.below (Box.fresh ?_) bb ?_ <;> (first | assumption | omega | (simp; done) | (simp; omega))) | (with_reducible refine Box.below (Box.drew (Box.fresh ?_)) bb ?_ <;> (first | assumption | omega | (simp; done) | (simp; omega))) | (with_reducible refine Box.below (Box.alloc (Box.fresh ?_) _) bb ?_ <;> (first | assumption | omega | (simp; done) | (simp; omega))) | (with_reducible refine Box.below (Box.drew (Box.alloc (Box.fresh ?_) _)) bb ?_ <;> (first | assumption | omega | (simp; done) | (simp; omega)))))); (try (have yB : Box wP (w0.heap.size + 1) 26 #[.int .i64 0, .int .i64 0, .int .i64 0] := by (first | (with_reducible refine Box.below (Box.fresh ?_) bb ?_ <;> (first | assumption | omega | (simp; done) | (simp; omega))) | (with_reducible refine Box.below (Box.drew (Box.fresh ?_)) bb ?_ <;> (first | assumption | omega | (simp; done) | (simp; omega)))))); (try (have lt_yA := yA.lt)); (try (obtain ⟨yA0, yA1, yA2, yA3, yA4, yA5⟩ := yA.three)); (try (have lt_yB := yB.lt)); (try (obtain ⟨yB0, yB1, yB2, yB3, yB4, yB5⟩ := yB.three)); skip) | (go_at_call_of 16 (Value.agg #[Value.int IntKind.i64 b0, Value.int IntKind.i64 b1, Value.int IntKind.i64 b2]); refine (QC.out _).mono ?_; rintro e wQ ⟨rfl, bb⟩; have hQ := Lib.hid (InReg.call (by assumption) bb); have sQ := hQ.out.size; (try (have ltA := yA.lt)); (try (have ltB := yB.lt)); (try (have zA : Box wQ (w0.heap.size) 26 #[.int .i64 0, .int .i64 0, .int .i64 0] := by (first | (with_reducible refine Box.below yA bb ?_ <;> (first | assumption | omega | (simp; done) | (simp; omega))) | (with_reducible refine Box.below (Box.alloc yA _) bb ?_ <;> (first | assumption | omega | (simp; done) | (simp; omega))) | (with_reducible refine Box.below (Box.alloc (Box.alloc yA _) _) bb ?_ <;> (first | assumption | omega | (simp; done) | (simp; omega))) | (with_reducible refine Box.below (Box.fresh ?_) bb ?_ <;> (first | assumption | omega | (simp; done) | (simp; omega))) | (with_reducible refine Box.below (Box.alloc (Box.fresh ?_) _) bb ?_ <;> (first | assumption | omega | (simp; done) | (simp; omega)))))); (try (have zB : Box wQ (w0.heap.size + 1) 26 #[.int .i64 0, .int .i64 0, .int .i64 0] := by (first | (with_reducible refine Box.below yB bb ?_ <;> (first | assumption | omega | (simp; done) | (simp; omega))) | (with_reducible refine Box.below (Box.alloc yB _) bb ?_ <;> (first | assumption | omega | (simp; done) | (simp; omega))) | (with_reducible refine Box.below (Box.alloc (Box.alloc yB _) _) bb ?_ <;> (first | assumption | omega | (simp; done) | (simp; omega))) | (with_reducible refine Box.below (Box.fresh ?_) bb ?_ <;> (first | assumption | omega | (simp; done) | (simp; omega)))))); (try (have zC : Box wQ (wP.heap.size) 26 #[.int .i64 0, .int .i64 0, .int .i64 0] := by (first | (with_reducible refine Box.below (Box.fresh ?_) bb ?_ <;> (first | assumption | omega | (simp; done) | (simp; omega))) | (with_reducible refine Box.below (Box.alloc (Box.fresh ?_) _) bb ?_ <;> (first | assumption | omega | (simp; done) | (simp; omega)))))); (try (have zD : Box wQ (wP.heap.size + 1) 26 #[.int .i64 0, .int .i64 0, .int .i64 0] := by (first | (with_reducible refine Box.below (Box.fresh ?_) bb ?_ <;> (first | assumption | omega | (simp; done) | (simp; omega)))))); (try (have lt_zA := zA.lt)); (try (obtain ⟨zA0, zA1, zA2, zA3, zA4, zA5⟩ := zA.three)); (try (have lt_zB := zB.lt)); (try (obtain ⟨zB0, zB1, zB2, zB3, zB4, zB5⟩ := zB.three)); (try (have lt_zC := zC.lt)); (try (obtain ⟨zC0, zC1, zC2, zC3, zC4, zC5⟩ := zC.three)); (try (have lt_zD := zD.lt)); (try (obtain ⟨zD0, zD1, zD2, zD3, zD4, zD5⟩ := zD.three)); skip))
    all_goals
      have hlast := InReg.size (show InReg w0 _ from by assumption)
      go_wp2_with fail
      go_meet
      refine ⟨_, _, rfl, rfl, ?_, ?_, ?_, ?_⟩
      · (repeat (first | with_reducible assumption | (with_reducible refine Box.fresh ?hgg; (case hgg => (first | rfl | (simp; done)))) | with_reducible refine Box.alloc ?_ _ | with_reducible refine Box.set3 (a := .int .i64 0) (b := .int .i64 0) (c := .int .i64 0) ?_ _ _ _ | (with_reducible refine Box.far3 ?_ ?hne _ _ _; (case hne => omega))))
      · (repeat (first | with_reducible assumption | (with_reducible refine Box.fresh ?hgg; (case hgg => (first | rfl | (simp; done)))) | with_reducible refine Box.alloc ?_ _ | with_reducible refine Box.set3 (a := .int .i64 0) (b := .int .i64 0) (c := .int .i64 0) ?_ _ _ _ | (with_reducible refine Box.far3 ?_ ?hne _ _ _; (case hne => omega))))
      · exact Box.below xr (show InReg w0 _ from by with_reducible assumption) xr.lt
      · exact bw.trans (Below.mono (show InReg w0 _ from by with_reducible assumption) bw.size)
  case rest =>
    obtain ⟨g1, g2, rfl, rfl, hp, hq, hr, bel⟩ := hcut
    have h0 : InReg wc wc.drew := (Below.refl _ _).drew
    have lp := hp.lt
    have lq := hq.lt
    have lr := hr.lt
    have Rp0 : ∀ w', InReg wc w' → w'.cell? ⟨g1, 0, none⟩ = some (.int .i64 pf) := fun w' h => (h.cell (by simpa using hp.lt)).trans (hp.cell 0)
    have Rp1 : ∀ w', InReg wc w' → w'.cell? ⟨g1, 1, none⟩ = some (.int .i64 pb) := fun w' h => (h.cell (by simpa using hp.lt)).trans (hp.cell 1)
    have Rp2 : ∀ w', InReg wc w' → w'.cell? ⟨g1, 2, none⟩ = some (.int .i64 pg) := fun w' h => (h.cell (by simpa using hp.lt)).trans (hp.cell 2)
    have Rq0 : ∀ w', InReg wc w' → w'.cell? ⟨g2, 0, none⟩ = some (.int .i64 qf) := fun w' h => (h.cell (by simpa using hq.lt)).trans (hq.cell 0)
    have Rq1 : ∀ w', InReg wc w' → w'.cell? ⟨g2, 1, none⟩ = some (.int .i64 qb) := fun w' h => (h.cell (by simpa using hq.lt)).trans (hq.cell 1)
    have Rq2 : ∀ w', InReg wc w' → w'.cell? ⟨g2, 2, none⟩ = some (.int .i64 qg) := fun w' h => (h.cell (by simpa using hq.lt)).trans (hq.cell 2)
    go_wp2_with fail
    go_region_held3 (fun w' => InReg wc w')
      (first | with_reducible exact h0 | with_reducible exact hP.out | with_reducible exact hQ.out)
      (first | (go_at_call_of 9 (Value.agg #[Value.int IntKind.i64 pf, Value.int IntKind.i64 pb, Value.int IntKind.i64 pg]); refine (PP.out _).mono ?_; rintro e wP ⟨rfl, bb⟩; have hP := Lib.hid (InReg.call (by assumption) bb)) | (go_at_call_of 9 (Value.agg #[Value.int IntKind.i64 qf, Value.int IntKind.i64 qb, Value.int IntKind.i64 qg]); refine (QQ.out _).mono ?_; rintro e wQ ⟨rfl, bb⟩; have hQ := Lib.hid (InReg.call (by assumption) bb)))
    go_wp2_with fail
    have i2 : InReg wc wQ := by assumption
    clear Rp0 Rp1 Rp2 Rq0 Rq1 Rq2 h0
    have np := neq_pen
    have epq : ∀ w', (binOp .eql 26 (.agg #[.int .i64 pf, .int .i64 pb, .int .i64 pg]) (.agg #[.int .i64 qf, .int .i64 qb, .int .i64 qg])).run Tryd.prog w' = .ok (.bool eq) w' := fun w' => by rw [eql_pen, hpq]
    have hX60 : X / 1152921504606846976 = 0 := by omega
    have HPQ := hide hpq
    have HV := hide hv
    have HOR := hide hor
    clear hpq hv hor
    refine (UX.out _).mono ?_
    rintro e w3 ⟨rfl, bb⟩
    have i3 := i2.call bb
    clear bb
    go_wp2_with fail
    have i3' := i3.alloc (.cells #[.int .i64 pf, .int .i64 pb, .int .i64 pg] 26)
    have hz := Box.new w3 26 #[.int .i64 pf, .int .i64 pb, .int .i64 pg]
    have HZ := hide hz
    clear hz
    refine (UN.out _).mono ?_
    rintro e w4 ⟨rfl, bb⟩
    have i4 := i3'.call bb
    have HZ4 := hide (HZ.out.below bb HZ.out.lt)
    have lz := HZ4.out.lt
    clear bb HZ
    have i4' := i4.alloc (.cells #[.int .i64 u0, .int .i64 u1, .int .i64 u2] 26)
    have HU := hide (Box.new w4 26 #[.int .i64 u0, .int .i64 u1, .int .i64 u2])
    have HZ5 := hide (HZ4.out.alloc (.cells #[.int .i64 u0, .int .i64 u1, .int .i64 u2] 26))
    clear HZ4
    obtain ⟨p0, p1, p2, _, _, _⟩ := (i4'.box hp).three
    go_wp2_with fail
    refine (RP.out _).mono ?_
    rintro e w5 ⟨rfl, bb⟩
    clear p0 p1 p2
    have i5 := i4'.call bb
    have HZ6 := hide (HZ5.out.below bb HZ5.out.lt)
    have HU5 := hide (HU.out.below bb HU.out.lt)
    clear bb HZ5 HU
    obtain ⟨p0, p1, p2, _, _, _⟩ := (i5.box hp).three
    obtain ⟨q0, q1, q2, _, _, _⟩ := (i5.box hq).three
    obtain ⟨z0, z1, z2, _, _, _⟩ := HZ6.out.three
    obtain ⟨y0, y1, y2, _, _, _⟩ := HU5.out.three
    rcases is with _ | _
    · obtain ⟨rfl, rfl, rfl⟩ := hu rfl
      go_wp2_with fail
      clear p0 p1 p2 q0 q1 q2 z0 z1 z2 y0 y1 y2
      have Rp0 : ∀ w', InReg wc w' → w'.cell? ⟨g1, 0, none⟩ = some (.int .i64 pf) := fun w' h => (h.cell hp.lt).trans (hp.cell 0)
      have Rp1 : ∀ w', InReg wc w' → w'.cell? ⟨g1, 1, none⟩ = some (.int .i64 pb) := fun w' h => (h.cell hp.lt).trans (hp.cell 1)
      have Rp2 : ∀ w', InReg wc w' → w'.cell? ⟨g1, 2, none⟩ = some (.int .i64 pg) := fun w' h => (h.cell hp.lt).trans (hp.cell 2)
      have Rr0 : ∀ w', InReg wc w' → w'.cell? ⟨w.heap.size + 1 + 1, 0, none⟩ = some (.int .i64 r0) := fun w' h => (h.cell hr.lt).trans (hr.cell 0)
      have Rr1 : ∀ w', InReg wc w' → w'.cell? ⟨w.heap.size + 1 + 1, 1, none⟩ = some (.int .i64 r1) := fun w' h => (h.cell hr.lt).trans (hr.cell 1)
      have Rr2 : ∀ w', InReg wc w' → w'.cell? ⟨w.heap.size + 1 + 1, 2, none⟩ = some (.int .i64 r2) := fun w' h => (h.cell hr.lt).trans (hr.cell 2)
      have hd : InReg wc w5.drew := i5.drew
      have c1 : IntKind.i64.wrap (pf + 1) = pf + 1 := IntWalk.i64_in _ (by omega)
      have c2 : IntKind.i64.wrap (pb + 1) = pb + 1 := IntWalk.i64_in _ (by omega)
      have c3 : IntKind.u64.wrap pg = pg := by rw [IntKind.wrap_u64]; omega
      have c4 : IntKind.u64.wrap (pf + 1) = pf + 1 := by rw [IntKind.wrap_u64]; omega
      have c5 : IntKind.u64.wrap (pb + 1) = pb + 1 := by rw [IntKind.wrap_u64]; omega
      have c6 : IntKind.u64.wrap ((pf + 1) * 256) = (pf + 1) * 256 := by rw [IntKind.wrap_u64]; omega
      have c7 : IntKind.u64.wrap ((pb + 1) * 17179869184) = (pb + 1) * 17179869184 := by rw [IntKind.wrap_u64]; omega
      have hor := HOR.out
      have hv := HV.out
      have d0 : (0 : Int) ≤ pf + 1 := by omega
      have d1 : (0 : Int) ≤ pb + 1 := by omega
      go_region_held3 (fun w' => InReg wc w')
        (first | with_reducible exact hd | with_reducible exact hR.out | with_reducible exact hP.out | with_reducible exact hC.out)
        (first | (go_at_call 11; refine (RR.out _).mono ?_; rintro e wR ⟨rfl, bb⟩; have hR := Lib.hid (InReg.call (by assumption) bb)) | (go_at_call 9; refine (PR.out _).mono ?_; rintro e wP ⟨rfl, bb⟩; have hP := Lib.hid (InReg.call (by assumption) bb)) | (go_at_call 3; refine (cellRuns_any _ (HSP.out.below (bel.trans (Below.mono (show InReg wc _ from by assumption) bel.size)) HSP.out.lt)).mono ?_; rintro e wC ⟨rfl, bb⟩; have hC := Lib.hid (InReg.call (by assumption) bb)))
      all_goals
        go_wp2_with fail
        go_ret
        exact ⟨rfl, bel.trans (Below.mono (show InReg wc _ from by assumption) bel.size)⟩
    · have RU' := RU rfl
      have PU' := PU rfl
      clear RU PU hu
      go_wp2_with fail
      refine (RU'.out _).mono ?_
      rintro e w6 ⟨rfl, bb⟩
      clear p0 p1 p2 q0 q1 q2 z0 z1 z2 y0 y1 y2
      have i6 := i5.call bb
      have HU6 := hide (HU5.out.below bb HU5.out.lt)
      clear bb HU5 HZ6
      obtain ⟨y0, y1, y2, _, _, _⟩ := HU6.out.three
      go_wp2_with fail
      refine (PU'.out _).mono ?_
      rintro e w7 ⟨rfl, bb⟩
      clear y0 y1 y2
      have i7 := i6.call bb
      clear bb HU6
      go_wp2_with fail
      have Rp0 : ∀ w', InReg wc w' → w'.cell? ⟨g1, 0, none⟩ = some (.int .i64 pf) := fun w' h => (h.cell hp.lt).trans (hp.cell 0)
      have Rp1 : ∀ w', InReg wc w' → w'.cell? ⟨g1, 1, none⟩ = some (.int .i64 pb) := fun w' h => (h.cell hp.lt).trans (hp.cell 1)
      have Rp2 : ∀ w', InReg wc w' → w'.cell? ⟨g1, 2, none⟩ = some (.int .i64 pg) := fun w' h => (h.cell hp.lt).trans (hp.cell 2)
      have Rr0 : ∀ w', InReg wc w' → w'.cell? ⟨w.heap.size + 1 + 1, 0, none⟩ = some (.int .i64 r0) := fun w' h => (h.cell hr.lt).trans (hr.cell 0)
      have Rr1 : ∀ w', InReg wc w' → w'.cell? ⟨w.heap.size + 1 + 1, 1, none⟩ = some (.int .i64 r1) := fun w' h => (h.cell hr.lt).trans (hr.cell 1)
      have Rr2 : ∀ w', InReg wc w' → w'.cell? ⟨w.heap.size + 1 + 1, 2, none⟩ = some (.int .i64 r2) := fun w' h => (h.cell hr.lt).trans (hr.cell 2)
      have hd : InReg wc w7.drew := i7.drew
      have c1 : IntKind.i64.wrap (pf + 1) = pf + 1 := IntWalk.i64_in _ (by omega)
      have c2 : IntKind.i64.wrap (pb + 1) = pb + 1 := IntWalk.i64_in _ (by omega)
      have c3 : IntKind.u64.wrap pg = pg := by rw [IntKind.wrap_u64]; omega
      have c4 : IntKind.u64.wrap (pf + 1) = pf + 1 := by rw [IntKind.wrap_u64]; omega
      have c5 : IntKind.u64.wrap (pb + 1) = pb + 1 := by rw [IntKind.wrap_u64]; omega
      have c6 : IntKind.u64.wrap ((pf + 1) * 256) = (pf + 1) * 256 := by rw [IntKind.wrap_u64]; omega
      have c7 : IntKind.u64.wrap ((pb + 1) * 17179869184) = (pb + 1) * 17179869184 := by rw [IntKind.wrap_u64]; omega
      have hor := HOR.out
      have hv := HV.out
      have d0 : (0 : Int) ≤ pf + 1 := by omega
      have d1 : (0 : Int) ≤ pb + 1 := by omega
      go_region_held3 (fun w' => InReg wc w')
        (first | with_reducible exact hd | with_reducible exact hR.out | with_reducible exact hP.out | with_reducible exact hC.out)
        (first | (go_at_call 11; refine (RR.out _).mono ?_; rintro e wR ⟨rfl, bb⟩; have hR := Lib.hid (InReg.call (by assumption) bb)) | (go_at_call 9; refine (PR.out _).mono ?_; rintro e wP ⟨rfl, bb⟩; have hP := Lib.hid (InReg.call (by assumption) bb)) | (go_at_call 3; refine (cellRuns_any _ (HSP.out.below (bel.trans (Below.mono (show InReg wc _ from by assumption) bel.size)) HSP.out.lt)).mono ?_; rintro e wC ⟨rfl, bb⟩; have hC := Lib.hid (InReg.call (by assumption) bb)))
      all_goals
        go_wp2_with fail
        go_ret
        exact ⟨rfl, bel.trans (Below.mono (show InReg wc _ from by assumption) bel.size)⟩
theorem unp_num {f b g : Int} (h : C.right f b g = true) : unp (C.num f b g) = .tuple #[.agg #[.int .i64 f, .int .i64 b, .int .i64 g], .bool true] := by
  obtain ⟨h1, h2, h3⟩ := C.parts_num h
  unfold unp
  rw [h1, h2, h3, if_pos h]
theorem unp_yes {n : Int} (h : C.right (C.fo n) (C.ba n) (C.fl n) = true) : unp n = .tuple #[.agg #[.int .i64 (C.fo n), .int .i64 (C.ba n), .int .i64 (C.fl n)], .bool true] := by unfold unp; rw [if_pos h]
theorem unp_no {n : Int} (h : C.right (C.fo n) (C.ba n) (C.fl n) = false) : unp n = .tuple #[.agg #[.int .i64 0, .int .i64 0, .int .i64 0], .bool false] := by unfold unp; rw [if_neg (by rw [h]; simp)]
theorem num_or {f b g : Int} (h : C.right f b g = true) : bits .or .u64 (bits .or .u64 g ((f + 1) * 256)) ((b + 1) * 17179869184) = C.num f b g := by
  obtain ⟨k1, k2, g0, g1⟩ := C.right_iff.1 h
  obtain ⟨f0, f1⟩ := C.col_bd k1
  obtain ⟨b0, b1⟩ := C.col_bd k2
  have j1 := u64_join 8 g ((f + 1) * 256) (by omega) (by omega) g0 (by omega) (by omega)
  have j2 := u64_join 34 (g + (f + 1) * 256) ((b + 1) * 17179869184) (by omega) (by omega) (by omega) (by omega) (by omega)
  rw [j1, j2]
  rfl
theorem pack_ne (f b g : Int) : (C.pack f b g != 18446744073709551615) = C.right f b g := by
  rcases h : C.right f b g with _ | _
  · rw [C.pack_wrong h]; rfl
  · have := C.num_bd h
    rw [C.pack_right h]
    simp
    omega
theorem num_eq {f b g f' b' g' : Int} (h : C.right f b g = true) (h' : C.right f' b' g' = true) : (f == f' && b == b' && g == g') = (C.num f b g == C.num f' b' g') := by
  rw [Bool.eq_iff_iff]
  simp only [Bool.and_eq_true, beq_iff_eq]
  constructor
  · rintro ⟨⟨rfl, rfl⟩, rfl⟩
    rfl
  · intro e
    obtain ⟨h1, h2, h3⟩ := C.num_inj h h' e
    exact ⟨⟨h1, h2⟩, h3⟩
theorem cellPacks_any (a0 a1 a2 b0 b1 b2 n r0 r1 r2 : Int) (w : World) (wa0 : (Lit.int .i64 a0).wf = true) (wa1 : (Lit.int .i64 a1).wf = true) (wa2 : (Lit.int .i64 a2).wf = true) (wb0 : (Lit.int .i64 b0).wf = true) (wb1 : (Lit.int .i64 b1).wf = true) (wb2 : (Lit.int .i64 b2).wf = true)
    (wn : (Lit.int .u64 n).wf = true) (wr0 : (Lit.int .i64 r0).wf = true) (wr1 : (Lit.int .i64 r1).wf = true) (wr2 : (Lit.int .i64 r2).wf = true) (hs : Spans w) :
    Calls Tryd.prog 5 #[.agg #[.int .i64 a0, .int .i64 a1, .int .i64 a2], .agg #[.int .i64 b0, .int .i64 b1, .int .i64 b2], .int .u64 n, .agg #[.int .i64 r0, .int .i64 r1, .int .i64 r2]] w fun e w' => e = .returned (.bool true) ∧ Below w.heap.size w w' := by
  obtain ⟨a00, a01⟩ := bounds_i64 wa0
  obtain ⟨a10, a11⟩ := bounds_i64 wa1
  obtain ⟨a20, a21⟩ := bounds_i64 wa2
  obtain ⟨b00, b01⟩ := bounds_i64 wb0
  obtain ⟨b10, b11⟩ := bounds_i64 wb1
  obtain ⟨b20, b21⟩ := bounds_i64 wb2
  obtain ⟨n0, n1⟩ := bounds_u64 wn
  have hp := C.kpen_right a0 a1 a2
  have hq := C.kpen_right b0 b1 b2
  have PC := fun w' => keepPen_is a0 a1 a2 _ _ _ rfl rfl rfl w' a00 a01 a10 a11 a20 a21
  have QC := fun w' => keepPen_is b0 b1 b2 _ _ _ rfl rfl rfl w' b00 b01 b10 b11 b20 b21
  generalize C.kcol a0 = pf at hp PC
  generalize C.kcol a1 = pb at hp PC
  generalize a2 % 256 = pg at hp PC
  generalize C.kcol b0 = qf at hq QC
  generalize C.kcol b1 = qb at hq QC
  generalize b2 % 256 = qg at hq QC
  have hX := C.num_bd hp
  have hY := C.num_bd hq
  obtain ⟨k1, k2, g0, g1⟩ := C.right_iff.1 hp
  obtain ⟨f0, f1⟩ := C.col_bd k1
  obtain ⟨c0, c1⟩ := C.col_bd k2
  have PP := fun w' => pack_is pf pb pg _ (C.pack_right hp) w'
  have QQ := fun w' => pack_is qf qb qg _ (C.pack_right hq) w'
  have UX := fun w' => unpack_is (C.num pf pb pg) _ (unp_num hp) w' hX.1 (by omega)
  have RP := fun w' => right_be pf pb pg true hp w'
  have RR := fun w' => right_be r0 r1 r2 _ rfl w'
  have PR := fun w' => pack_any r0 r1 r2 w'
  rcases hi : C.right (C.fo n) (C.ba n) (C.fl n) with _ | _
  · have UN := fun w' => unpack_is n _ (unp_no hi) w' n0 (by omega)
    exact cellPacks_t a0 a1 a2 b0 b1 b2 n r0 r1 r2 pf pb pg qf qb qg _ _ _ 0 0 0 false _ _ w hs (hide PC) (hide QC) (hide PP) (hide QQ) (hide UX) (hide UN) (hide RP) (hide RR) (hide PR) (fun h => by cases h) (fun h => by cases h) (fun _ => ⟨rfl, rfl, rfl⟩) (pack_ne r0 r1 r2) rfl (num_eq hp hq) hX.1 hX.2 f0 f1 c0 c1 g0 g1 (num_or hp)
  · have UN := fun w' => unpack_is n _ (unp_yes hi) w' n0 (by omega)
    have PU := fun w' => pack_is (C.fo n) (C.ba n) (C.fl n) n (by rw [C.pack_right hi, C.num_parts n0]) w'
    exact cellPacks_t a0 a1 a2 b0 b1 b2 n r0 r1 r2 pf pb pg qf qb qg _ _ _ (C.fo n) (C.ba n) (C.fl n) true _ _ w hs (hide PC) (hide QC) (hide PP) (hide QQ) (hide UX) (hide UN) (hide RP) (hide RR) (hide PR) (fun _ => hide fun w' => right_be _ _ _ true hi w') (fun _ => hide PU) (fun h => by cases h) (pack_ne r0 r1 r2) rfl (num_eq hp hq) hX.1 hX.2 f0 f1 c0 c1 g0 g1 (num_or hp)
end Go.Proofs.YtcadaeidcdnldaaDoor
