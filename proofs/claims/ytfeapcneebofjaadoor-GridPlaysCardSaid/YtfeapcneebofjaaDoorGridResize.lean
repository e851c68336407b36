/- The contract of package grid's own Resize. -/
import Derived.Test.YtfeapcneebofjaaDoorGridPure
set_option maxRecDepth 100000
namespace Go.Proofs.YtfeapcneebofjaaDoor
open Go.RowKit
set_option linter.unusedVariables false
set_option maxHeartbeats 4000000 in
theorem gresize_any (G : PG.Gr) (n cp B R K : Nat) (r c : Int) (A : Option Addr) (w : World) (hl : SeenC w B A n (PG.cells G)) (hB : B ≤ w.heap.size) (hn : n = G.rows * G.cols) (hnc : n ≤ cp) (hcp : cp ≤ maxLen) (g1 : 1 ≤ G.rows) (g2 : G.rows ≤ 40) (g3 : 1 ≤ G.cols) (g4 : G.cols ≤ 60)
    (hr0 : -9223372036854775808 ≤ r) (hr1 : r ≤ 9223372036854775807) (hc0 : -9223372036854775808 ≤ c) (hc1 : c ≤ 9223372036854775807)
    (hR : (R = 1 ∧ r < 1) ∨ ((R : Int) = r ∧ 1 ≤ r ∧ r ≤ 40) ∨ (R = 40 ∧ 40 < r)) (hK : (K = 1 ∧ c < 1) ∨ ((K : Int) = c ∧ 1 ≤ c ∧ c ≤ 60) ∨ (K = 60 ∧ 60 < c)) :
    Calls Tryd.prog 18 #[gv G.rows G.cols (.slice A n cp), .int .i64 r, .int .i64 c] w (MadeG w R K (R * K) (PG.cells (PG.resizeG G R K))) := by
  obtain ⟨i0, hi, hz0, hz1, hz2⟩ := info_parts info_cell
  have hR1 : 1 ≤ R ∧ R ≤ 40 := by omega
  have hK1 : 1 ≤ K ∧ K ≤ 60 := by omega
  have hnn : 1 ≤ n := by rw [hn]; exact Nat.mul_le_mul g1 g3
  have hn2 : n ≤ 2400 := by rw [hn]; exact Nat.mul_le_mul g2 g4
  have hN1 : 1 ≤ R * K := Nat.mul_le_mul hR1.1 hK1.1
  have hN2 : R * K ≤ 2400 := Nat.mul_le_mul hR1.2 hK1.2
  have PL := hide (fun w' => plain_any w')
  have NW := hide (fun w' => new_any r c R K PG.plain w' hr0 hr1 hc0 hc1 hR hK)
  obtain ⟨c0, hc0'⟩ : ∃ c0, (PG.cells G)[0]? = some c0 := ⟨_, List.getElem?_eq_getElem (by rw [PG.cells_len]; omega)⟩
  obtain ⟨ad, rfl, hadB, _⟩ := hl.at_ hc0'
  clear hc0'
  have RN := hide (fun w' g k (hk : k < R) => row_any R K k (R * K) (R * K) ⟨g, 0, none⟩ w' rfl (Nat.le_refl _) (by simp only [maxLen]; omega) hk hR1.2 hK1.1 hK1.2)
  -- the other grid's row, or none
  have RO : ∀ (w' : World) (k : Nat), Below w.heap.size w w' → Calls Tryd.prog 28 #[gv G.rows G.cols (.slice (some ad) n cp), .int .i64 k] w' fun e w'' => ∃ U m c', e = .returned (.slice U m c') ∧ m = (if k < G.rows then G.cols else 0) ∧ m ≤ c' ∧ SeenC w'' w.heap.size U (min m K) (PG.taken G K k) ∧ Below w'.heap.size w' w'' := fun w' k hb => by
    by_cases hk : k < G.rows
    · refine (row_any G.rows G.cols k n cp ad w' hn hnc hcp hk g2 g3 g4).mono ?_
      rintro e w'' ⟨⟨c', rfl, h1, h2⟩, bb⟩
      refine ⟨_, _, _, rfl, by rw [if_pos hk], h1, ?_, bb⟩
      have h := (row_seen ((hl.below (hb.mono hB)).below (bb.mono (Nat.le_trans hB hb.size))) hn hk g3).more hB
      rw [PG.row_cut hk] at h
      unfold PG.taken
      rw [if_pos hk]
      exact h.take (by omega)
    · refine (row_out G.rows G.cols n cp k (some ad) w' hn g1 (by omega) g2 g3 g4).mono ?_
      rintro e w'' ⟨rfl, bb⟩
      refine ⟨_, _, _, rfl, by rw [if_neg hk], Nat.le_refl _, ?_, bb⟩
      unfold PG.taken
      rw [if_neg hk, Nat.zero_min]
      exact SeenC.nil_ _ _ _
  have RO := hide RO
  have MG := hide (fun w' B' (U : Option Addr) c' k (h : SeenC w' B' U K ((List.range K).map (PG.under G k))) (hB' : B' ≤ w'.heap.size) => gmend_any K c' B' U _ w' h hB' (by omega))
  have R0 := hide (PG.halfR_zero G R K)
  have RA := hide (PG.halfR_all G R K)
  have RR := hide (fun k (hk : k < R) => PG.resize_round (g := G) (K := K) hk)
  have HS := hide (fun (w' : World) (B' g k : Nat) (l' : List PG.Cl) (hk : k < R) (h : SeenC w' B' (some ⟨g, 0, none⟩) (R * K) l') => row_seen (K := K) (r := k) h rfl hk hK1.1)
  have hfit : ∀ k, k < R → k * K + K ≤ R * K := fun k hk => by rw [← Nat.succ_mul]; exact Nat.mul_le_mul_right K hk
  have hfit := hide hfit
  unfold gv at *
  unfold MadeG pv PG.plain at *
  unfold gv at *
  generalize hNN : R * K = N at *
  have hNN := hide hNN
  clear hl hn hR hK hz2 hnc hcp
  go_enter Tryd.func18, Tryd.ntmps18
  go_wp2_with (first
    | (go_at_call 39
       go_must (refine (PL.out _).mono ?_)
       rintro e w1 ⟨rfl, h1⟩
       have b1 := (((Below.refl w.heap.size w).alloc (Nat.le_refl _) (.cells #[.int .i64 G.rows, .int .i64 G.cols, .slice (some ad) n cp] 26)).alloc (by simp) (.cells #[.int .i64 0, .int .i64 0, .slice none 0 0] 26)).alloc (by simp; omega) (.cells #[.int .i64 (-1), .int .i64 (-1), .int .i64 0] 23)
       have x0 := ((Box.new w 26 #[.int .i64 G.rows, .int .i64 G.cols, .slice (some ad) n cp]).alloc (.cells #[.int .i64 0, .int .i64 0, .slice none 0 0] 26)).alloc (.cells #[.int .i64 (-1), .int .i64 (-1), .int .i64 0] 23)
       have x1 := (Box.new (w.alloc (.cells #[.int .i64 G.rows, .int .i64 G.cols, .slice (some ad) n cp] 26)) 26 #[.int .i64 0, .int .i64 0, .slice none 0 0]).alloc (.cells #[.int .i64 (-1), .int .i64 (-1), .int .i64 0] 23)
       rw [World.size_alloc] at x1
       rw [h1] at b1 x0 x1
       have b1 := hide b1
       have x0 := hide x0
       have x1 := hide x1
       clear h1 PL)
    | (go_at_call 9
       go_must (refine (NW.out _).mono ?_)
       rintro e w2 ⟨gn, rfl, o2, b2⟩
       have x0 := x0.out.below b2 x0.out.lt
       have x1 := x1.out.below b2 x1.out.lt
       have l0 := x0.lt
       have l1 := x1.lt
       have lN := o2.lt gn rfl
       have o2 := own_base' o2 b1.out.size
       have bb := b1.out.trans (b2.mono b1.out.size)
       have hs2 := bb.size
       have X7 := hide (Box.new w2 26 #[.int .i64 R, .int .i64 K, .slice (some ⟨gn, 0, none⟩) N N])
       have X0 := hide (x0.alloc (.cells #[.int .i64 R, .int .i64 K, .slice (some ⟨gn, 0, none⟩) N N] 26))
       have X1 := hide (x1.alloc (.cells #[.int .i64 R, .int .i64 K, .slice (some ⟨gn, 0, none⟩) N N] 26))
       have O := hide (o2.alloc (.cells #[.int .i64 R, .int .i64 K, .slice (some ⟨gn, 0, none⟩) N N] 26))
       have B7 := hide (bb.alloc hs2 (.cells #[.int .i64 R, .int .i64 K, .slice (some ⟨gn, 0, none⟩) N N] 26))
       clear b1 b2 bb x0 x1 o2 NW))
  go_loopw [16] (fun i wr => ∃ k : Nat, k ≤ R ∧ i = .int .i64 k ∧ Box wr w.heap.size 26 #[.int .i64 G.rows, .int .i64 G.cols, .slice (some ad) n cp] ∧ Box wr (w.heap.size + 1) 26 #[.int .i64 0, .int .i64 0, .slice none 0 0] ∧ Box wr w2.heap.size 26 #[.int .i64 R, .int .i64 K, .slice (some ⟨gn, 0, none⟩) N N] ∧
      wr.ownsRow w.heap.size 32 5 (.slice (some ⟨gn, 0, none⟩) N N) N (ccells (PG.cells (PG.halfR G R K k))) ∧ Below w.heap.size w wr)
    (fun i _ => R - (intOf i).toNat)
  case atStart => exact ⟨0, Nat.zero_le _, rfl, X0.out, X1.out, X7.out, by rw [R0.out]; exact O.out, B7.out⟩
  case round =>
    clear X0 X1 X7 O B7
    obtain ⟨k, hk, rfl, x0, x1, x7, ho, hb⟩ := hrel
    have lg : w.heap.size ≤ gn := (ho.lt gn rfl).1
    by_cases hlt : k < R
    · have hfk := hfit.out k hlt
      obtain ⟨a0, a1, a2, a3, a4, a5⟩ := x7.three
      obtain ⟨z, hz⟩ : ∃ z, k * K = z := ⟨_, rfl⟩
      obtain ⟨r1, r2, r3⟩ := RR.out k hlt
      have RNk := hide (fun w' => RN.out w' gn k hlt)
      have HSk := hide (fun w' B' l' h => HS.out w' B' gn k l' hlt h)
      have ROk := hide (fun w' h => RO.out w' k h)
      have hCL := PG.cells_len (PG.halfR G R K k)
      have hCL : (PG.cells (PG.halfR G R K k)).length = N := by rw [hCL, ← hNN.out]; rfl
      have hyl : (PG.taken G K k).length ≤ K := by rw [PG.taken_len]; split <;> omega
      rw [hz] at hfk r1 r2 r3 RNk HSk
      clear hz RN HS RO RR
      have hsl := spl_len (l := PG.cells (PG.halfR G R K k)) (x := z) (m := PG.taken G K k) (by omega)
      obtain ⟨la, hla⟩ : ∃ la, spl (PG.cells (PG.halfR G R K k)) z (PG.taken G K k) = la := ⟨_, rfl⟩
      rw [hla] at r2 r3 hsl
      rw [hCL] at hsl
      have hla := hide hla
      have hsl := hide hsl
      have r2 := hide r2
      have r3 := hide r3
      have x0 := hide x0
      have x1 := hide x1
      have x7 := hide x7
      have ho := hide ho
      have hb := hide hb
      have hN60 : z + K ≤ N := hfk
      clear r1 hCL hyl hfk
      go_wp2_with (first
        | (go_at_call_of 28 (Value.agg #[Value.int IntKind.i64 R, Value.int IntKind.i64 K, Value.slice (some ⟨gn, 0, none⟩) N N])
           go_must (refine (RNk.out _).mono ?_)
           rintro e w3 ⟨⟨c1, rfl, hc1, hc2⟩, b3⟩
           rw [add0]
           have y0 := x0.out.below b3 x0.out.lt
           have x1 := hide (x1.out.below b3 x1.out.lt)
           have x7 := hide (x7.out.below b3 x7.out.lt)
           have ho := hide (ho.out.kept (grown_of_below b3 none) (by simp [Value.ownBlock]))
           have hb := hide (hb.out.trans (b3.mono hb.out.size))
           obtain ⟨q0, q1, q2, _⟩ := y0.three
           have x0 := hide y0
           clear b3 y0 a0 a1 a2 a3 a4 a5 RNk)
        | (go_at_call_of 28 (Value.agg #[Value.int IntKind.i64 G.rows, Value.int IntKind.i64 G.cols, Value.slice (some ad) n cp])
           go_must (refine (ROk.out _ hb.out).mono ?_)
           rintro e w4 ⟨U, m, c3, rfl, hm, hmc, hs4, b4⟩
           have x0 := hide (x0.out.below b4 x0.out.lt)
           have x1 := hide (x1.out.below b4 x1.out.lt)
           have x7 := hide (x7.out.below b4 x7.out.lt)
           have o4 := ho.out.kept (grown_of_below b4 none) (by simp [Value.ownBlock])
           have hb := hide (hb.out.trans (b4.mono hb.out.size))
           have hmN : m ≤ 60 := by rw [hm]; split <;> omega
           clear b4 hm q0 q1 q2 ROk ho)
        | ((with_reducible refine at_op (o := ⟨some 26, _, _, _, _, _⟩) ?_)
           go_must (refine wpList_copyC (o := ⟨some 26, _, _, _, _, _⟩) rfl (.tmp 22) (.tmp 25) 24 24 rfl 32 i0 Tryd.underlying24 hi hz1 w.heap.size 32 gn _ z N N _ _ (PG.cells (PG.halfR G R K k)) rfl o4 rfl _ w.heap.size m c3 (min m K) (PG.taken G K k) rfl rfl hs4 (by omega) ?_)
           intro w5 o5 hg5
           rw [hla.out] at o5
           have n0 := own_ne_box o4 x0.out (by decide)
           have n1 := own_ne_box o4 x1.out (by decide)
           have n7 := own_ne_box o4 x7.out (by decide)
           have x0 := hide (x0.out.grown hg5 (fun e => n0 e.symm))
           have x1 := hide (x1.out.grown hg5 (fun e => n1 e.symm))
           have x7 := hide (x7.out.grown hg5 (fun e => n7 e.symm))
           have hb := hide (hb.out.grown hg5 hb.out.size (by rintro _ ⟨⟩; exact lg))
           have s5 := HSk.out _ _ _ (SeenC.of_own o5)
           rw [r2.out, add0] at s5
           have o5 := hide o5
           clear n0 n1 n7 hg5 o4 hs4)
        | (go_at_call 30
           go_must (refine (MG.out _ _ _ c1 k s5 (Nat.le_refl _)).mono ?_)
           rintro e w6 ⟨g6, rfl, o6, b6⟩
           have x0 := hide (x0.out.below b6 x0.out.lt)
           have x1 := hide (x1.out.below b6 x1.out.lt)
           have x7 := hide (x7.out.below b6 x7.out.lt)
           have o7 := o5.out.kept (grown_of_below b6 none) (by simp [Value.ownBlock])
           have hb := hide (hb.out.trans (b6.mono hb.out.size))
           have s6 := SeenC.of_own o6
           clear b6 o6 s5 o5)
        | ((with_reducible refine at_op (o := ⟨some 30, _, _, _, _, _⟩) ?_)
           go_must (refine wpList_copyC (o := ⟨some 30, _, _, _, _, _⟩) rfl (.tmp 27) (.tmp 29) 24 24 rfl 32 i0 Tryd.underlying24 hi hz1 w.heap.size 32 gn _ z N N _ _ la rfl o7 rfl _ w6.heap.size K K K (mendL ((List.range K).map (PG.under G k))) rfl (Nat.min_self K) s6 (by omega) ?_)
           intro w8 o8 hg8
           rw [r3.out] at o8
           have n0 := own_ne_box o7 x0.out (by decide)
           have n1 := own_ne_box o7 x1.out (by decide)
           have n7 := own_ne_box o7 x7.out (by decide)
           have x0 := hide (x0.out.grown hg8 (fun e => n0 e.symm))
           have x1 := hide (x1.out.grown hg8 (fun e => n1 e.symm))
           have x7 := hide (x7.out.grown hg8 (fun e => n7 e.symm))
           have hb := hide (hb.out.grown hg8 hb.out.size (by rintro _ ⟨⟩; exact lg))
           have o8 := hide o8
           clear n0 n1 n7 hg8 o7 s6))
      go_roundw
      case rel => exact ⟨k + 1, by omega, by go_num, x0.out, x1.out, x7.out, o8.out, hb.out⟩
      case measure => simp [intOf]; omega
    · obtain rfl : k = R := by omega
      rw [RA.out] at ho
      obtain ⟨a0, a1, a2, a3, a4, a5⟩ := x7.three
      have n1 := own_ne_box ho x1 (by decide)
      have X := x1.set3 (.int .i64 k) (.int .i64 K) (.slice (some ⟨gn, 0, none⟩) N N)
      have O := ownsRow_setCell_other (ownsRow_setCell_other (ownsRow_setCell_other ho (a := ⟨w.heap.size + 1, 0, none⟩) n1 (.int .i64 k)) (a := ⟨w.heap.size + 1, 1, none⟩) n1 (.int .i64 K)) (a := ⟨w.heap.size + 1, 2, none⟩) n1 (.slice (some ⟨gn, 0, none⟩) N N)
      have bz := below_set3 hb (show w.heap.size ≤ w.heap.size + 1 by omega) (.int .i64 k) (.int .i64 K) (.slice (some ⟨gn, 0, none⟩) N N)
      obtain ⟨j0, j1, j2, _⟩ := X.three
      obtain ⟨q0, q1, q2, q3, q4, q5⟩ := x1.three
      have O := hide O
      have bz := hide bz
      clear ho RN RO RR HS MG hfit
      go_wp2_with fail
      refine bodyPost_ret (v := .agg #[.int .i64 k, .int .i64 K, .slice (some ⟨gn, 0, none⟩) N N]) (by simp [results, Tryd.results18, go_sem, j0, j1, j2]) rfl ⟨_, rfl, O.out, bz.out⟩
end Go.Proofs.YtfeapcneebofjaaDoor
