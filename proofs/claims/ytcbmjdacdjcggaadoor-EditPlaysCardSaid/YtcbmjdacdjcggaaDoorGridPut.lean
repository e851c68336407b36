/- The contract of package grid's own Put. The contract of package grid's own Put, where nothing is put. -/
import Derived.Test.YtcbmjdacdjcggaaDoorGridSmall
import Derived.Test.YtcbmjdacdjcggaaDoorInReg
import Derived.Deep.RegionHeld3
import Derived.Deep.RegionHeldLaw
import Derived.Deep.DeepCutAuto
set_option maxRecDepth 100000
namespace Go.Proofs.YtcbmjdacdjcggaaDoor
open Go.RowKit
set_option linter.unusedVariables false
/-- three boxes that were just laid -/
theorem boxes3 {w : World} {t0 t1 t2 : TypeId} {cs ds es : Array Value} : Box (((w.alloc (.cells cs t0)).alloc (.cells ds t1)).alloc (.cells es t2)) w.heap.size t0 cs ∧ Box (((w.alloc (.cells cs t0)).alloc (.cells ds t1)).alloc (.cells es t2)) (w.heap.size + 1) t1 ds ∧
    Box (((w.alloc (.cells cs t0)).alloc (.cells ds t1)).alloc (.cells es t2)) (w.heap.size + 1 + 1) t2 es ∧ Below w.heap.size w (((w.alloc (.cells cs t0)).alloc (.cells ds t1)).alloc (.cells es t2)) := by
  refine ⟨((Box.new w t0 cs).alloc _).alloc _, ?_, ?_, (((Below.refl _ _).alloc (Nat.le_refl _) _).alloc (by simp) _).alloc (by simp; omega) _⟩
  · have h := (Box.new (w.alloc (.cells cs t0)) t1 ds).alloc (.cells es t2)
    rw [World.size_alloc] at h
    exact h
  · have h := Box.new ((w.alloc (.cells cs t0)).alloc (.cells ds t1)) t2 es
    rw [World.size_alloc, World.size_alloc] at h
    exact h
/-- what stands behind the row and the cells of x -/
def PutMid (w : World) (R K n m x g : Nat) (l ps : List PG.Cl) (u v : Value) (wx : World) : Prop :=
  ∃ c' A2 c2, u = .slice (some ⟨g, x * 5, none⟩) K c' ∧ K ≤ c' ∧ c' ≤ maxLen ∧ v = .slice A2 m c2 ∧ SeenC wx wx.heap.size A2 m ps ∧
    Box wx w.heap.size 27 #[.int .i64 R, .int .i64 K, .slice (some ⟨g, 0, none⟩) n n] ∧ Box wx (w.heap.size + 1 + 1) 27 #[.int .i64 0, .int .i64 0, .slice none 0 0] ∧
    wx.ownsRow w.heap.size 45 5 (.slice (some ⟨g, 0, none⟩) n n) n (ccells l) ∧ Below w.heap.size w wx
set_option maxHeartbeats 4000000 in
theorem gput_in (R K n cp B r c : Nat) (x : Int) (p : PG.Pn) (A : Option Addr) (l : List PG.Cl) (w : World) (hl : SeenC w B A n l) (hB : B ≤ w.heap.size) (hn : n = R * K) (hr : r < R) (hR : R ≤ 40) (h0 : 1 ≤ K) (hK : K ≤ 60)
    (hx0 : -2147483648 ≤ x) (hx1 : x ≤ 2147483647) (hs : Spans w) (hm1 : 1 ≤ (putCells x p).length) (hm2 : c + (putCells x p).length ≤ K) :
    Calls Tryd.prog 10 #[gv R K (.slice A n cp), .int .i64 r, .int .i64 c, .int .i32 x, pv p] w
      (MadeG w R K n (spl (spl l (r * K + c) (putCells x p)) (r * K) (mendL (((spl l (r * K + c) (putCells x p)).drop (r * K)).take K)))) := by
  have hle : r * K + K ≤ R * K := by rw [← Nat.succ_mul]; exact Nat.mul_le_mul_right K hr
  have hRK : R * K ≤ 2400 := Nat.mul_le_mul hR hK
  have hlen := hl.len
  obtain ⟨i0, hi, hz0, hz1, hz2⟩ := info_parts info_cell
  have CL := hide (fun w' (hb : Below w.heap.size w w') => clone_any R K n cp B A l w' (hl.below (hb.mono hB)) (Nat.le_trans hB hb.size) (by omega))
  have RW := hide (fun w' g => row_any R K r n n ⟨g, 0, none⟩ w' hn (Nat.le_refl _) (by simp only [maxLen]; omega) hr hR h0 hK)
  have CO := hide (fun w' (hb : Below w.heap.size w w') => cellsOf_any x p w' hx0 hx1 (hs.below hb hs.lt))
  have HS := hide (fun (w' : World) (B' g : Nat) (l' : List PG.Cl) (h : SeenC w' B' (some ⟨g, 0, none⟩) n l') => row_seen (K := K) (r := r) h hn hr h0)
  unfold gv pv at *
  unfold MadeG at *
  unfold gv at *
  generalize hps : putCells x p = ps at *
  generalize hm : ps.length = m at *
  have hm := hide hm
  have hps := hide hps
  have hnx : r * K + K ≤ n := by omega
  have hn2 : n ≤ 2400 := by omega
  clear hn hRK hle
  generalize r * K = z at *
  go_enter Tryd.func10, Tryd.ntmps10
  go_upto_region 2 with (
    go_at_call 30
    go_must (refine (CL.out _ boxes3.2.2.2).mono ?_)
    rintro e w1 ⟨g, rfl, o1, b1⟩
    obtain ⟨x0, x1, x2, bw⟩ := boxes3 (w := w) (t0 := 27) (t1 := 23) (t2 := 27) (cs := #[.int .i64 R, .int .i64 K, .slice A n cp]) (ds := #[.int .i64 p.1, .int .i64 p.2.1, .int .i64 p.2.2]) (es := #[.int .i64 0, .int .i64 0, .slice none 0 0])
    have y0 := x0.below b1 x0.lt
    have y1 := x1.below b1 x1.lt
    have y2 := x2.below b1 x2.lt
    have bb := bw.trans (b1.mono bw.size)
    have o1 := own_base' o1 bw.size
    obtain ⟨a0, a1, a2, a3, a4, a5⟩ := y0.three
    have x0 := hide y0
    have x1 := hide y1
    have x2 := hide y2
    clear bw b1 y0 y1 y2 CL)
  go_cut [11, 12] (fun u v wx => PutMid w R K n m z g l ps u v wx)
  case first =>
    have n0 := own_ne_box o1 x0.out (by decide)
    have X0 := x0.out.set3 (.int .i64 R) (.int .i64 K) (.slice (some ⟨g, 0, none⟩) n n)
    have X1 := x1.out.far3 (g' := w.heap.size) (by omega) (.int .i64 R) (.int .i64 K) (.slice (some ⟨g, 0, none⟩) n n)
    have X2 := x2.out.far3 (g' := w.heap.size) (by omega) (.int .i64 R) (.int .i64 K) (.slice (some ⟨g, 0, none⟩) n n)
    have O := ownsRow_setCell_other (ownsRow_setCell_other (ownsRow_setCell_other o1 (a := ⟨w.heap.size, 0, none⟩) n0 (.int .i64 R)) (a := ⟨w.heap.size, 1, none⟩) n0 (.int .i64 K)) (a := ⟨w.heap.size, 2, none⟩) n0 (.slice (some ⟨g, 0, none⟩) n n)
    have bs := below_set3 bb (Nat.le_refl _) (.int .i64 R) (.int .i64 K) (.slice (some ⟨g, 0, none⟩) n n)
    clear a0 a1 a2 a3 a4 a5 o1 n0 x0 x1 x2 bb
    generalize (((w1.setCell ⟨w.heap.size, 0, none⟩ (.int .i64 R)).setCell ⟨w.heap.size, 1, none⟩ (.int .i64 K)).setCell ⟨w.heap.size, 2, none⟩ (.slice (some ⟨g, 0, none⟩) n n)) = w0 at *
    have h0r : InReg w0 w0.drew := (InReg.refl _).drew
    have R0 : ∀ w', InReg w0 w' → w'.cell? ⟨w.heap.size, 0, none⟩ = some (.int .i64 R) := fun w' h => (h.box X0).three.1
    have R1 : ∀ w', InReg w0 w' → w'.cell? ⟨w.heap.size, 1, none⟩ = some (.int .i64 K) := fun w' h => (h.box X0).three.2.1
    have R2 : ∀ w', InReg w0 w' → w'.cell? ⟨w.heap.size, 2, none⟩ = some (.slice (some ⟨g, 0, none⟩) n n) := fun w' h => (h.box X0).three.2.2.1
    have P0 : ∀ w', InReg w0 w' → w'.cell? ⟨w.heap.size + 1, 0, none⟩ = some (.int .i64 p.1) := fun w' h => (h.box X1).three.1
    have P1 : ∀ w', InReg w0 w' → w'.cell? ⟨w.heap.size + 1, 1, none⟩ = some (.int .i64 p.2.1) := fun w' h => (h.box X1).three.2.1
    have P2 : ∀ w', InReg w0 w' → w'.cell? ⟨w.heap.size + 1, 2, none⟩ = some (.int .i64 p.2.2) := fun w' h => (h.box X1).three.2.2.1
    have hA := Lib.hid h0r
    have hC := Lib.hid h0r
    have X0 := hide X0
    have X1 := hide X1
    have X2 := hide X2
    have O := hide O
    have hsC : ∀ (A2 : Option Addr) (wC : World), SeenC wC wC.heap.size A2 m ps → True := fun _ _ _ => trivial
    go_region_held3 (fun w' => InReg w0 w')
      (first | with_reducible exact h0r | with_reducible exact hA.out | with_reducible exact hC.out)
      (first
        | (go_at_call 31; refine (RW.out _ g).mono ?_; rintro e wR ⟨⟨cR, rfl, hcR, hcM⟩, bR⟩; have hA := Lib.hid (InReg.call (by assumption) bR); have hbR := Lib.hid bR)
        | (go_at_call 32; refine (CO.out _ (bs.trans (Below.mono (show InReg w0 _ from by assumption) bs.size))).mono ?_; rintro e wC ⟨⟨A2, c2, rfl, hsC, _, _⟩, bC⟩; have hC := Lib.hid (InReg.call (by assumption) bC); have hbC := Lib.hid bC; have hsC := Lib.hid hsC))
    all_goals
      go_wp2_with fail
      go_meet
      refine ⟨cR, A2, c2, rfl, hcR, hcM, rfl, ?_, InReg.box (by first | with_reducible exact hC.out | with_reducible exact hA.out) X0.out, InReg.box (by first | with_reducible exact hC.out | with_reducible exact hA.out) X2.out, O.out.kept (grown_of_below (show InReg w0 _ from by first | with_reducible exact hC.out | with_reducible exact hA.out) none) (by simp [Value.ownBlock]), bs.trans (Below.mono (show InReg w0 _ from by first | with_reducible exact hC.out | with_reducible exact hA.out) bs.size)⟩
      first | exact hsC.out | exact (hsC.out.below hbR.out).more hbR.out.size
  case rest =>
    clear o1 x0 x1 x2 bb RW CO hl
    obtain ⟨c', A2, c2, rfl, hc1, hc2, rfl, hsP, x0, x2, O, bb⟩ := hcut
    have hm0 : ((m : Int) == 0) = false := by simp; omega
    obtain ⟨l2, e2⟩ : ∃ l2, spl l (z + c) ps = l2 := ⟨_, rfl⟩
    have e2 := hide e2
    obtain ⟨a0, a1, a2, a3, a4, a5⟩ := x0.three
    obtain ⟨q0, q1, q2, q3, q4, q5⟩ := x2.three
    go_wp2_with (first
      | ((with_reducible refine at_op (o := ⟨some 42, _, _, _, _, _⟩) ?_)
         go_must (refine wpList_copyC (o := ⟨some 42, _, _, _, _, _⟩) rfl (.tmp 40) (.tmp 41) 25 25 rfl 45 i0 Tryd.underlying25 hi hz1 w.heap.size 45 g _ (z + c) n n _ _ l rfl O (by omega) A2 _ m c2 m ps rfl (Nat.min_eq_left (by omega)) hsP (by omega) ?_)
         intro w2 O2 hg2
         have n0 := own_ne_box O x0 (by decide)
         have n2 := own_ne_box O x2 (by decide)
         have x0 := x0.grown hg2 (fun e => n0 e.symm)
         have x2 := x2.grown hg2 (fun e => n2 e.symm)
         have bb := bb.grown hg2 bb.size (by rintro _ ⟨⟩; exact ((O.lt g rfl).1))
         have hl2 := spl_len (l := l) (x := z + c) (m := ps) (by rw [hm.out]; omega)
         rw [e2.out] at hl2 O2
         have hl2 := hide hl2
         have S2 := HS.out _ _ _ _ (SeenC.of_own O2)
         rw [add0] at S2
         have O2 := hide O2
         have x0 := hide x0
         have x2 := hide x2
         clear n0 n2 hg2 a0 a1 a2 a3 a4 a5 q0 q1 q2 q3 q4 q5 O hsP)
      | (go_at_call 33
         go_must (refine (gmend_any K c' _ _ _ _ S2 (Nat.le_refl _) (by omega)).mono ?_)
         rintro e w3 ⟨g3, rfl, o3, b3⟩
         have O3 := O2.out.kept (grown_of_below b3 none) (by simp [Value.ownBlock])
         have x0 := x0.out.below b3 x0.out.lt
         have x2 := x2.out.below b3 x2.out.lt
         have bb := bb.trans (b3.mono bb.size)
         have s3 := SeenC.of_own o3
         have hl2' := hl2.out
         clear b3 S2 o3 O2)
      | ((with_reducible refine at_op (o := ⟨some 46, _, _, _, _, _⟩) ?_)
         go_must (refine wpList_copyC (o := ⟨some 46, _, _, _, _, _⟩) rfl (.tmp 43) (.tmp 45) 25 25 rfl 45 i0 Tryd.underlying25 hi hz1 w.heap.size 45 g _ z n n _ _ l2 rfl O3 rfl _ w3.heap.size K K K (mendL ((l2.drop z).take K)) rfl (Nat.min_self K) s3 (by omega) ?_)
         intro w4 O4 hg4
         have n0 := own_ne_box O3 x0 (by decide)
         have n2 := own_ne_box O3 x2 (by decide)
         have x0 := x0.grown hg4 (fun e => n0 e.symm)
         have x2 := x2.grown hg4 (fun e => n2 e.symm)
         have bb := bb.grown hg4 bb.size (by rintro _ ⟨⟩; exact ((O3.lt g rfl).1))
         obtain ⟨a0, a1, a2, a3, a4, a5⟩ := x0.three
         obtain ⟨q0, q1, q2, q3, q4, q5⟩ := x2.three
         have n2 := own_ne_box O4 x2 (by decide)
         have O4 := hide O4
         clear n0 hg4 O3 s3))
    have X := x2.set3 (.int .i64 R) (.int .i64 K) (.slice (some ⟨g, 0, none⟩) n n)
    obtain ⟨j0, j1, j2, _⟩ := X.three
    refine bodyPost_ret (v := .agg #[.int .i64 R, .int .i64 K, .slice (some ⟨g, 0, none⟩) n n]) (by simp [results, Tryd.results10, go_sem, j0, j1, j2]) rfl ⟨g, rfl, ?_, ?_⟩
    · rw [e2.out]
      exact ownsRow_setCell_other (ownsRow_setCell_other (ownsRow_setCell_other O4.out (a := ⟨w.heap.size + 1 + 1, 0, none⟩) n2 _) (a := ⟨w.heap.size + 1 + 1, 1, none⟩) n2 _) (a := ⟨w.heap.size + 1 + 1, 2, none⟩) n2 _
    · exact below_set3 bb (by omega) _ _ _
end Go.Proofs.YtcbmjdacdjcggaaDoor
set_option maxRecDepth 100000
namespace Go.Proofs.YtcbmjdacdjcggaaDoor
open Go.RowKit
set_option linter.unusedVariables false
/-- what stands behind the row and the cells of x, where it is not put -/
def OutMid (w : World) (R K n m k g : Nat) (l ps : List PG.Cl) (u v : Value) (wx : World) : Prop :=
  ∃ U c' A2 c2, u = .slice U k c' ∧ k ≤ c' ∧ c' ≤ maxLen ∧ v = .slice A2 m c2 ∧ SeenC wx wx.heap.size A2 m ps ∧
    Box wx w.heap.size 27 #[.int .i64 R, .int .i64 K, .slice (some ⟨g, 0, none⟩) n n] ∧ Box wx (w.heap.size + 1 + 1) 27 #[.int .i64 0, .int .i64 0, .slice none 0 0] ∧
    wx.ownsRow w.heap.size 45 5 (.slice (some ⟨g, 0, none⟩) n n) n (ccells l) ∧ Below w.heap.size w wx
set_option maxHeartbeats 4000000 in
theorem gput_out (R K n cp B : Nat) (r c x : Int) (p : PG.Pn) (A : Option Addr) (l : List PG.Cl) (w : World) (hl : SeenC w B A n l) (hB : B ≤ w.heap.size) (hn : n = R * K) (h1 : 1 ≤ R) (hR : R ≤ 40) (h0 : 1 ≤ K) (hK : K ≤ 60)
    (hx0 : -2147483648 ≤ x) (hx1 : x ≤ 2147483647) (hs : Spans w) (hc0 : -1000 ≤ c) (hc1 : c ≤ 1000) (ho : r < 0 ∨ (R : Int) ≤ r ∨ c < 0 ∨ (putCells x p).length = 0 ∨ (K : Int) < c + (putCells x p).length) :
    Calls Tryd.prog 10 #[gv R K (.slice A n cp), .int .i64 r, .int .i64 c, .int .i32 x, pv p] w
      (MadeG w R K n l) := by
  have hRK : R * K ≤ 2400 := Nat.mul_le_mul hR hK
  have hlen := hl.len
  obtain ⟨i0, hi, hz0, hz1, hz2⟩ := info_parts info_cell
  have CL := hide (fun w' (hb : Below w.heap.size w w') => clone_any R K n cp B A l w' (hl.below (hb.mono hB)) (Nat.le_trans hB hb.size) (by omega))
  obtain ⟨k, hk, RW⟩ : ∃ k : Nat, (k = 0 ∨ (k = K ∧ 0 ≤ r ∧ r < R)) ∧ ∀ (w' : World) (g : Nat), Calls Tryd.prog 31 #[gv R K (.slice (some ⟨g, 0, none⟩) n n), .int .i64 r] w' fun e w'' => (∃ U c', e = .returned (.slice U k c') ∧ k ≤ c' ∧ c' ≤ maxLen) ∧ Below w'.heap.size w' w'' := by
    by_cases hr : 0 ≤ r ∧ r < R
    · obtain ⟨q, rfl⟩ := Int.eq_ofNat_of_zero_le hr.1
      refine ⟨K, .inr ⟨rfl, hr⟩, fun w' g => (row_any R K q n n ⟨g, 0, none⟩ w' hn (Nat.le_refl _) (by simp only [maxLen]; omega) (by omega) hR h0 hK).mono ?_⟩
      rintro e w'' ⟨⟨c', he, h1, h2⟩, hb⟩
      exact ⟨⟨_, c', he, h1, h2⟩, hb⟩
    · refine ⟨0, .inl rfl, fun w' g => (row_out R K n n r _ w' hn h1 (by omega) hR h0 hK).mono ?_⟩
      rintro e w'' ⟨he, hb⟩
      exact ⟨⟨none, 0, he, Nat.le_refl _, Nat.zero_le _⟩, hb⟩
  have RW := hide RW
  have CO := hide (fun w' (hb : Below w.heap.size w w') => cellsOf_any x p w' hx0 hx1 (hs.below hb hs.lt))
  unfold gv pv at *
  unfold MadeG at *
  unfold gv at *
  generalize hps : putCells x p = ps at *
  generalize hm : ps.length = m at *
  have hm := hide hm
  have hps := hide hps
  have hcs : m = 0 ∨ (1 ≤ m ∧ c < 0) ∨ (1 ≤ m ∧ 0 ≤ c ∧ (k : Int) < c + m) := by omega
  have hn2 : n ≤ 2400 := by omega
  have hk60 : k ≤ 60 := by omega
  clear hk
  have hm8 : m ≤ 8 := by have h := putCells_len x p; rw [hps.out, hm.out] at h; have := PG.width_bd x; omega
  clear hn hRK ho
  go_enter Tryd.func10, Tryd.ntmps10
  go_upto_region 2 with (
    go_at_call 30
    go_must (refine (CL.out _ boxes3.2.2.2).mono ?_)
    rintro e w1 ⟨g, rfl, o1, b1⟩
    obtain ⟨x0, x1, x2, bw⟩ := boxes3 (w := w) (t0 := 27) (t1 := 23) (t2 := 27) (cs := #[.int .i64 R, .int .i64 K, .slice A n cp]) (ds := #[.int .i64 p.1, .int .i64 p.2.1, .int .i64 p.2.2]) (es := #[.int .i64 0, .int .i64 0, .slice none 0 0])
    have y0 := x0.below b1 x0.lt
    have y1 := x1.below b1 x1.lt
    have y2 := x2.below b1 x2.lt
    have bb := bw.trans (b1.mono bw.size)
    have o1 := own_base' o1 bw.size
    obtain ⟨a0, a1, a2, a3, a4, a5⟩ := y0.three
    have x0 := hide y0
    have x1 := hide y1
    have x2 := hide y2
    clear bw b1 y0 y1 y2 CL)
  go_cut [11, 12] (fun u v wx => OutMid w R K n m k g l ps u v wx)
  case first =>
    have n0 := own_ne_box o1 x0.out (by decide)
    have X0 := x0.out.set3 (.int .i64 R) (.int .i64 K) (.slice (some ⟨g, 0, none⟩) n n)
    have X1 := x1.out.far3 (g' := w.heap.size) (by omega) (.int .i64 R) (.int .i64 K) (.slice (some ⟨g, 0, none⟩) n n)
    have X2 := x2.out.far3 (g' := w.heap.size) (by omega) (.int .i64 R) (.int .i64 K) (.slice (some ⟨g, 0, none⟩) n n)
    have O := ownsRow_setCell_other (ownsRow_setCell_other (ownsRow_setCell_other o1 (a := ⟨w.heap.size, 0, none⟩) n0 (.int .i64 R)) (a := ⟨w.heap.size, 1, none⟩) n0 (.int .i64 K)) (a := ⟨w.heap.size, 2, none⟩) n0 (.slice (some ⟨g, 0, none⟩) n n)
    have bs := below_set3 bb (Nat.le_refl _) (.int .i64 R) (.int .i64 K) (.slice (some ⟨g, 0, none⟩) n n)
    clear a0 a1 a2 a3 a4 a5 o1 n0 x0 x1 x2 bb
    generalize (((w1.setCell ⟨w.heap.size, 0, none⟩ (.int .i64 R)).setCell ⟨w.heap.size, 1, none⟩ (.int .i64 K)).setCell ⟨w.heap.size, 2, none⟩ (.slice (some ⟨g, 0, none⟩) n n)) = w0 at *
    have h0r : InReg w0 w0.drew := (InReg.refl _).drew
    have R0 : ∀ w', InReg w0 w' → w'.cell? ⟨w.heap.size, 0, none⟩ = some (.int .i64 R) := fun w' h => (h.box X0).three.1
    have R1 : ∀ w', InReg w0 w' → w'.cell? ⟨w.heap.size, 1, none⟩ = some (.int .i64 K) := fun w' h => (h.box X0).three.2.1
    have R2 : ∀ w', InReg w0 w' → w'.cell? ⟨w.heap.size, 2, none⟩ = some (.slice (some ⟨g, 0, none⟩) n n) := fun w' h => (h.box X0).three.2.2.1
    have P0 : ∀ w', InReg w0 w' → w'.cell? ⟨w.heap.size + 1, 0, none⟩ = some (.int .i64 p.1) := fun w' h => (h.box X1).three.1
    have P1 : ∀ w', InReg w0 w' → w'.cell? ⟨w.heap.size + 1, 1, none⟩ = some (.int .i64 p.2.1) := fun w' h => (h.box X1).three.2.1
    have P2 : ∀ w', InReg w0 w' → w'.cell? ⟨w.heap.size + 1, 2, none⟩ = some (.int .i64 p.2.2) := fun w' h => (h.box X1).three.2.2.1
    have hA := Lib.hid h0r
    have hC := Lib.hid h0r
    have X0 := hide X0
    have X1 := hide X1
    have X2 := hide X2
    have O := hide O
    have hsC : ∀ (A2 : Option Addr) (wC : World), SeenC wC wC.heap.size A2 m ps → True := fun _ _ _ => trivial
    go_region_held3 (fun w' => InReg w0 w')
      (first | with_reducible exact h0r | with_reducible exact hA.out | with_reducible exact hC.out)
      (first
        | (go_at_call 31; refine (RW.out _ g).mono ?_; rintro e wR ⟨⟨UR, cR, rfl, hcR, hcM⟩, bR⟩; have hA := Lib.hid (InReg.call (by assumption) bR); have hbR := Lib.hid bR)
        | (go_at_call 32; refine (CO.out _ (bs.trans (Below.mono (show InReg w0 _ from by assumption) bs.size))).mono ?_; rintro e wC ⟨⟨A2, c2, rfl, hsC, _, _⟩, bC⟩; have hC := Lib.hid (InReg.call (by assumption) bC); have hbC := Lib.hid bC; have hsC := Lib.hid hsC))
    all_goals
      go_wp2_with fail
      go_meet
      refine ⟨UR, cR, A2, c2, rfl, hcR, hcM, rfl, ?_, InReg.box (by first | with_reducible exact hC.out | with_reducible exact hA.out) X0.out, InReg.box (by first | with_reducible exact hC.out | with_reducible exact hA.out) X2.out, O.out.kept (grown_of_below (show InReg w0 _ from by first | with_reducible exact hC.out | with_reducible exact hA.out) none) (by simp [Value.ownBlock]), bs.trans (Below.mono (show InReg w0 _ from by first | with_reducible exact hC.out | with_reducible exact hA.out) bs.size)⟩
      first | exact hsC.out | exact (hsC.out.below hbR.out).more hbR.out.size
  case rest =>
    clear o1 x0 x1 x2 bb RW CO hl
    obtain ⟨U, c', A2, c2, rfl, hc1', hc2, rfl, hsP, x0, x2, O, bb⟩ := hcut
    have n2 := own_ne_box O x2 (by decide)
    have O := hide O
    rcases hcs with h | ⟨h, h'⟩ | ⟨h, h', h''⟩
    · have hm0 : ((m : Int) == 0) = true := by simp; omega
      clear h
      obtain ⟨a0, a1, a2, a3, a4, a5⟩ := x0.three
      obtain ⟨q0, q1, q2, q3, q4, q5⟩ := x2.three
      go_wp2_with fail
      have X := x2.set3 (.int .i64 R) (.int .i64 K) (.slice (some ⟨g, 0, none⟩) n n)
      obtain ⟨j0, j1, j2, _⟩ := X.three
      refine bodyPost_ret (v := .agg #[.int .i64 R, .int .i64 K, .slice (some ⟨g, 0, none⟩) n n]) (by simp [results, Tryd.results10, go_sem, j0, j1, j2]) rfl ⟨g, rfl, ?_, ?_⟩
      · exact ownsRow_setCell_other (ownsRow_setCell_other (ownsRow_setCell_other O.out (a := ⟨w.heap.size + 1 + 1, 0, none⟩) n2 _) (a := ⟨w.heap.size + 1 + 1, 1, none⟩) n2 _) (a := ⟨w.heap.size + 1 + 1, 2, none⟩) n2 _
      · exact below_set3 bb (by omega) _ _ _
    all_goals
      have hm0 : ((m : Int) == 0) = false := by simp; omega
      obtain ⟨a0, a1, a2, a3, a4, a5⟩ := x0.three
      obtain ⟨q0, q1, q2, q3, q4, q5⟩ := x2.three
      go_wp2_with fail
      have X := x2.set3 (.int .i64 R) (.int .i64 K) (.slice (some ⟨g, 0, none⟩) n n)
      obtain ⟨j0, j1, j2, _⟩ := X.three
      refine bodyPost_ret (v := .agg #[.int .i64 R, .int .i64 K, .slice (some ⟨g, 0, none⟩) n n]) (by simp [results, Tryd.results10, go_sem, j0, j1, j2]) rfl ⟨g, rfl, ?_, ?_⟩
      · exact ownsRow_setCell_other (ownsRow_setCell_other (ownsRow_setCell_other O.out (a := ⟨w.heap.size + 1 + 1, 0, none⟩) n2 _) (a := ⟨w.heap.size + 1 + 1, 1, none⟩) n2 _) (a := ⟨w.heap.size + 1 + 1, 2, none⟩) n2 _
      · exact below_set3 bb (by omega) _ _ _
end Go.Proofs.YtcbmjdacdjcggaaDoor
