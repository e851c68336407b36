/- The contract of package grid's own Wipe, of no row. -/
import Derived.Test.YtfeapcneebofjaaDoorGridWiped
set_option maxRecDepth 100000
namespace Go.Proofs.YtfeapcneebofjaaDoor
open Go.RowKit
set_option linter.unusedVariables false
set_option maxHeartbeats 4000000 in
theorem gwipe_out (R K n cp B a : Nat) (r fr tw t : Int) (p : PG.Pn) (A : Option Addr) (l : List PG.Cl) (w : World) (hl : SeenC w B A n l) (hB : B ≤ w.heap.size) (hn : n = R * K) (h1 : 1 ≤ R) (hr : r < 0 ∨ (R : Int) ≤ r) (hR : R ≤ 40) (h0 : 1 ≤ K) (hK : K ≤ 60)
    (hf : -1000 ≤ fr ∧ fr ≤ 1000) (ht : -1000 ≤ tw ∧ tw ≤ 1000) (ha : (if fr < 0 then (0 : Int) else fr) = (a : Int)) (hT : (if (0 : Int) < tw then (0 : Int) else tw) = t) :
    Calls Tryd.prog 16 #[gv R K (.slice A n cp), .int .i64 r, .int .i64 fr, .int .i64 tw, pv p] w (MadeG w R K n l) := by
  have hRK : R * K ≤ 2400 := Nat.mul_le_mul hR hK
  have hlen := hl.len
  obtain ⟨i0, hi, hz0, hz1, hz2⟩ := info_parts info_cell
  have CL := hide (fun w' (hb : Below w.heap.size w w') => clone_any R K n cp B A l w' (hl.below (hb.mono hB)) (Nat.le_trans hB hb.size) (by omega))
  have RW := hide (fun w' g => row_out R K n n r (some ⟨g, 0, none⟩) w' hn h1 hr hR h0 hK)
  have ht3 : t ≤ 0 ∧ -1000 ≤ t := by rw [← hT]; split <;> omega
  have ha3 : a ≤ 1000 := by split at ha <;> omega
  unfold gv pv at *
  unfold MadeG at *
  unfold gv at *
  have hn2 : n ≤ 2400 := by omega
  clear hn hRK
  go_enter Tryd.func16, Tryd.ntmps16
  go_wp2_with (first
    | (go_at_call 27
       go_must (refine (CL.out _ boxes3.2.2.2).mono ?_)
       rintro e w1 ⟨g, rfl, o1, b1⟩
       obtain ⟨x0, x1, x2, bw⟩ := boxes3 (w := w) (t0 := 26) (t1 := 23) (t2 := 26) (cs := #[.int .i64 R, .int .i64 K, .slice A n cp]) (ds := #[.int .i64 p.1, .int .i64 p.2.1, .int .i64 p.2.2]) (es := #[.int .i64 0, .int .i64 0, .slice none 0 0])
       have y0 := x0.below b1 x0.lt
       have y1 := x1.below b1 x1.lt
       have y2 := x2.below b1 x2.lt
       have bb := bw.trans (b1.mono bw.size)
       have o1 := own_base' o1 bw.size
       obtain ⟨a0, a1, a2, a3, a4, a5⟩ := y0.three
       have n0 := own_ne_box o1 y0 (by decide)
       have X0 := hide (y0.set3 (.int .i64 R) (.int .i64 K) (.slice (some ⟨g, 0, none⟩) n n))
       have X1 := hide (y1.far3 (g' := w.heap.size) (by omega) (.int .i64 R) (.int .i64 K) (.slice (some ⟨g, 0, none⟩) n n))
       have X2 := hide (y2.far3 (g' := w.heap.size) (by omega) (.int .i64 R) (.int .i64 K) (.slice (some ⟨g, 0, none⟩) n n))
       have O := hide (ownsRow_setCell_other (ownsRow_setCell_other (ownsRow_setCell_other o1 (a := ⟨w.heap.size, 0, none⟩) n0 (.int .i64 R)) (a := ⟨w.heap.size, 1, none⟩) n0 (.int .i64 K)) (a := ⟨w.heap.size, 2, none⟩) n0 (.slice (some ⟨g, 0, none⟩) n n))
       have bs := hide (below_set3 bb (Nat.le_refl _) (.int .i64 R) (.int .i64 K) (.slice (some ⟨g, 0, none⟩) n n))
       clear x0 x1 x2 bw b1 y0 y1 y2 CL o1 n0 bb)
    | (go_at_call 28
       go_must (refine (RW.out _ g).mono ?_)
       rintro e w2 ⟨rfl, bR⟩
       have x0 := X0.out.below bR X0.out.lt
       have x1 := X1.out.below bR X1.out.lt
       have x2 := X2.out.below bR X2.out.lt
       have ho := O.out.kept (grown_of_below bR none) (by simp [Value.ownBlock])
       have bb := bs.out.trans (bR.mono bs.out.size)
       clear X0 X1 X2 O bs bR RW))
  go_loopw [12] (fun i wr => i = .int .i64 a ∧ wr = w2) (fun i _ => 0)
  case atStart => exact ⟨rfl, rfl⟩
  case round =>
    clear ha
    obtain ⟨rfl, rfl⟩ := hrel
    have n0 := own_ne_box ho x0 (by decide)
    have n2 := own_ne_box ho x2 (by decide)
    have x0 := hide x0
    have x2 := hide x2
    have ho := hide ho
    clear x1 a0 a1 a2 a3 a4 a5
    go_wp2_with (first
      | (go_at_call 30
         go_must (refine (gmend_any 0 0 0 none [] _ (SeenC.nil_ _ _ _) (Nat.zero_le _) (by omega)).mono ?_)
         rintro e w3 ⟨g3, rfl, o3, b3⟩
         have O3 := hide (ho.out.kept (grown_of_below b3 none) (by simp [Value.ownBlock]))
         have x0 := x0.out.below b3 x0.out.lt
         have x2 := x2.out.below b3 x2.out.lt
         have bb := bb.trans (b3.mono bb.size)
         obtain ⟨a0, a1, a2, a3, a4, a5⟩ := x0.three
         obtain ⟨q0, q1, q2, q3, q4, q5⟩ := x2.three
         clear b3 o3 ho)
      | ((with_reducible refine at_op (o := ⟨some 36, _, _, _, _, _⟩) ?_)
         go_must (refine wpList_copyC0 (o := ⟨some 36, _, _, _, _, _⟩) rfl (.tmp 33) (.tmp 35) 24 24 rfl 32 i0 Tryd.underlying24 hi _ _ _ _ _ _ rfl rfl rfl ?_)))
    have X := x2.set3 (.int .i64 R) (.int .i64 K) (.slice (some ⟨g, 0, none⟩) n n)
    obtain ⟨j0, j1, j2, _⟩ := X.three
    refine bodyPost_ret (v := .agg #[.int .i64 R, .int .i64 K, .slice (some ⟨g, 0, none⟩) n n]) (by simp [results, Tryd.results16, go_sem, j0, j1, j2]) rfl ⟨g, rfl, ?_, ?_⟩
    · exact ownsRow_setCell_other (ownsRow_setCell_other (ownsRow_setCell_other O3.out (a := ⟨w.heap.size + 1 + 1, 0, none⟩) n2 _) (a := ⟨w.heap.size + 1 + 1, 1, none⟩) n2 _) (a := ⟨w.heap.size + 1 + 1, 2, none⟩) n2 _
    · exact below_set3 bb (by omega) _ _ _
end Go.Proofs.YtfeapcneebofjaaDoor
