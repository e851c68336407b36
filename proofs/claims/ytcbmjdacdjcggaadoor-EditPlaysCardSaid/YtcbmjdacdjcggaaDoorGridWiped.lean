/- The contracts of package grid's own Wipe. The contract of package grid's own Wipe, of no row. -/
import Derived.Test.YtcbmjdacdjcggaaDoorGridPut
import Derived.Test.YtcbmjdacdjcggaaDoorGridWipe
set_option maxRecDepth 100000
namespace Go.Proofs.YtcbmjdacdjcggaaDoor
open Go.RowKit
set_option linter.unusedVariables false
theorem own_five_at {w : World} {base n g cap : Nat} {e : TypeId} {l : List PG.Cl} (h : w.ownsRow base e 5 (.slice (some ⟨g, 0, none⟩) n cap) n (ccells l)) {k o : Nat} (ho : (k : Nat) * 5 = o) {c : PG.Cl} (hk : l[k]? = some c) :
    w.cell? ⟨g, o, none⟩ = some (.int .i32 (PG.rn c)) ∧ w.cell? ⟨g, o + 1, none⟩ = some (.int .i64 (PG.kd c)) ∧ w.cell? ⟨g, o + 2, none⟩ = some (.int .i64 (PG.pn c).1) ∧ w.cell? ⟨g, o + 3, none⟩ = some (.int .i64 (PG.pn c).2.1) ∧ w.cell? ⟨g, o + 4, none⟩ = some (.int .i64 (PG.pn c).2.2) ∧
    w.frozen? ⟨g, o, none⟩ = false ∧ w.frozen? ⟨g, o + 1, none⟩ = false ∧ w.frozen? ⟨g, o + 2, none⟩ = false ∧ w.frozen? ⟨g, o + 3, none⟩ = false ∧ w.frozen? ⟨g, o + 4, none⟩ = false := by
  subst ho
  exact own_five h hk
theorem own_store5_at {w : World} {base n g cap : Nat} {e : TypeId} {l : List PG.Cl} (h : w.ownsRow base e 5 (.slice (some ⟨g, 0, none⟩) n cap) n (ccells l)) {k o : Nat} (ho : (k : Nat) * 5 = o) (c : PG.Cl) (hk : k < n) (hl : l.length = n) :
    (store5 w g o c).ownsRow base e 5 (.slice (some ⟨g, 0, none⟩) n cap) n (ccells (l.set k c)) ∧ w.grownBy (store5 w g o c) (some g) := by
  subst ho
  exact own_store5 h c hk hl
theorem spl_set {l m : List PG.Cl} {x k : Nat} (c : PG.Cl) (h : x + m.length ≤ l.length) (hk : k < m.length) : (spl l x m).set (x + k) c = spl l x (m.set k c) := by
  unfold spl
  have hx : (l.take x).length = x := by rw [List.length_take]; omega
  rw [List.append_assoc, List.set_append_right _ _ (by omega), hx, Nat.add_sub_cancel_left, List.set_append_left _ _ hk, List.length_set, List.append_assoc]
theorem spl_row {l m : List PG.Cl} {x : Nat} (h : x + m.length ≤ l.length) : ((spl l x m).drop x).take m.length = m := by
  unfold spl
  have hx : (l.take x).length = x := by rw [List.length_take]; omega
  rw [List.append_assoc, List.drop_append_of_le_length (by omega), List.drop_of_length_le (by omega), List.nil_append, List.take_append_of_le_length (Nat.le_refl _), List.take_length]
theorem spl_spl {l m m' : List PG.Cl} {x : Nat} (h : x + m.length ≤ l.length) (h' : m'.length = m.length) : spl (spl l x m) x m' = spl l x m' := by
  have hx : (l.take x).length = x := by rw [List.length_take]; omega
  have e1 : (spl l x m).take x = l.take x := by
    unfold spl
    rw [List.append_assoc, List.take_append_of_le_length (by omega), List.take_of_length_le (by omega)]
  have e2 : (spl l x m).drop (x + m'.length) = l.drop (x + m'.length) := by
    unfold spl
    rw [h', List.append_assoc, List.drop_append, List.drop_of_length_le (by omega), List.nil_append, hx, Nat.add_sub_cancel_left, List.drop_append, List.drop_of_length_le (Nat.le_refl _), List.nil_append, Nat.sub_self, List.drop_zero]
  show (spl l x m).take x ++ m' ++ (spl l x m).drop (x + m'.length) = _
  rw [e1, e2]
  rfl
theorem spl_same {l : List PG.Cl} {x K : Nat} (h : x + K ≤ l.length) : spl l x ((l.drop x).take K) = l := by
  unfold spl
  have e : ((l.drop x).take K).length = K := by rw [List.length_take, List.length_drop]; omega
  rw [e, ← List.drop_drop, List.append_assoc, List.take_append_drop, List.take_append_drop]
set_option maxHeartbeats 4000000 in
theorem gwipe_in (R K r n cp B a : Nat) (fr tw t : Int) (p : PG.Pn) (A : Option Addr) (l : List PG.Cl) (w : World) (hl : SeenC w B A n l) (hB : B ≤ w.heap.size) (hn : n = R * K) (hr : r < R) (hR : R ≤ 40) (h0 : 1 ≤ K) (hK : K ≤ 60)
    (hf : -1000 ≤ fr ∧ fr ≤ 1000) (ht : -1000 ≤ tw ∧ tw ≤ 1000) (ha : (if fr < 0 then (0 : Int) else fr) = (a : Int)) (hT : (if (K : Int) < tw then (K : Int) else tw) = t) :
    Calls Tryd.prog 50 #[gv R K (.slice A n cp), .int .i64 r, .int .i64 fr, .int .i64 tw, pv p] w (MadeG w R K n (spl l (r * K) (mendL (wipeL ((l.drop (r * K)).take K) a t.toNat p)))) := by
  have hle : r * K + K ≤ R * K := by rw [← Nat.succ_mul]; exact Nat.mul_le_mul_right K hr
  have hRK : R * K ≤ 2400 := Nat.mul_le_mul hR hK
  have hlen := hl.len
  obtain ⟨i0, hi, hz0, hz1, hz2⟩ := info_parts info_cell
  have CL := hide (fun w' (hb : Below w.heap.size w w') => clone_any R K n cp B A l w' (hl.below (hb.mono hB)) (Nat.le_trans hB hb.size) (by omega))
  have RW := hide (fun w' g => row_any R K r n n ⟨g, 0, none⟩ w' hn (Nat.le_refl _) (by simp only [maxLen]; omega) hr hR h0 hK)
  have BC : ∀ (p : PG.Pn) (w' : World), Calls Tryd.prog 29 #[.agg #[.int .i64 p.1, .int .i64 p.2.1, .int .i64 p.2.2]] w' fun e w'' => e = .returned (.agg #[.int .i32 32, .int .i64 0, .int .i64 p.1, .int .i64 p.2.1, .int .i64 p.2.2]) ∧ Below w'.heap.size w' w'' := fun p w' => blank_any _ _ _ w'
  have BC := hide BC
  have HS := hide (fun (w' : World) (B' g : Nat) (l' : List PG.Cl) (h : SeenC w' B' (some ⟨g, 0, none⟩) n l') => row_seen (K := K) (r := r) h hn hr h0)
  have ht3 : t ≤ K ∧ -1000 ≤ t := by rw [← hT]; split <;> omega
  have ha3 : a ≤ 1000 := by split at ha <;> omega
  unfold gv pv at *
  unfold MadeG at *
  unfold gv at *
  have hnx : r * K + K ≤ n := by omega
  have hn2 : n ≤ 2400 := by omega
  clear hn hRK hle
  generalize r * K = z at *
  have hrow : ((l.drop z).take K).length = K := by rw [List.length_take, List.length_drop]; omega
  have hsame := spl_same (l := l) (x := z) (K := K) (by omega)
  obtain ⟨rw_, hrw⟩ : ∃ q, (l.drop z).take K = q := ⟨_, rfl⟩
  rw [hrw] at hrow hsame ⊢
  have hrw := hide hrw
  have hsame := hide hsame
  have hrow := hide hrow
  have hlen := hide hlen
  go_enter Tryd.func50, Tryd.ntmps50
  go_wp2_with (first
    | (go_at_call 30
       go_must (refine (CL.out _ boxes3.2.2.2).mono ?_)
       rintro e w1 ⟨g, rfl, o1, b1⟩
       obtain ⟨x0, x1, x2, bw⟩ := boxes3 (w := w) (t0 := 27) (t1 := 23) (t2 := 27) (cs := #[.int .i64 R, .int .i64 K, .slice A n cp]) (ds := #[.int .i64 p.1, .int .i64 p.2.1, .int .i64 p.2.2]) (es := #[.int .i64 0, .int .i64 0, .slice none 0 0])
       have y0 := x0.below b1 x0.lt
       have y1 := x1.below b1 x1.lt
       have y2 := x2.below b1 x2.lt
       have bb := bw.trans (b1.mono bw.size)
       have o1 := own_base' o1 bw.size
       obtain ⟨a0, a1, a2, a3, a4, a5⟩ := y0.three
       have n0 := own_ne_box o1 y0 (by decide)
       have X0 := hide (y0.set3 (.int .i64 R) (.int .i64 K) (.slice (some ⟨g, 0, none⟩) n n))
       have X1 := hide (y1.far3 (g' := w.heap.size) (by omega) (.int .i64 R) (.int .i64 K) (.slice (some ⟨g, 0, none⟩) n n))
       have X2 := hide (y2.far3 (g' := w.heap.size) (by omega) (.int .i64 R) (.int .i64 K) (.slice (some ⟨g, 0, none⟩) n n))
       have O := hide (ownsRow_setCell_other (ownsRow_setCell_other (ownsRow_setCell_other o1 (a := ⟨w.heap.size, 0, none⟩) n0 (.int .i64 R)) (a := ⟨w.heap.size, 1, none⟩) n0 (.int .i64 K)) (a := ⟨w.heap.size, 2, none⟩) n0 (.slice (some ⟨g, 0, none⟩) n n))
       have bs := hide (below_set3 bb (Nat.le_refl _) (.int .i64 R) (.int .i64 K) (.slice (some ⟨g, 0, none⟩) n n))
       clear x0 x1 x2 bw b1 y0 y1 y2 CL o1 n0 bb)
    | (go_at_call 31
       go_must (refine (RW.out _ g).mono ?_)
       rintro e w2 ⟨⟨c', rfl, hcR, hcM⟩, bR⟩
       rw [add0]
       have x0 := X0.out.below bR X0.out.lt
       have x1 := X1.out.below bR X1.out.lt
       have x2 := X2.out.below bR X2.out.lt
       have ho := O.out.kept (grown_of_below bR none) (by simp [Value.ownBlock])
       have bb := bs.out.trans (bR.mono bs.out.size)
       clear X0 X1 X2 O bs bR RW))
  go_loopw [12] (fun i wr => ∃ k : Nat, a ≤ k ∧ (k ≤ a ∨ (k : Int) ≤ t) ∧ i = .int .i64 k ∧ Box wr w.heap.size 27 #[.int .i64 R, .int .i64 K, .slice (some ⟨g, 0, none⟩) n n] ∧ Box wr (w.heap.size + 1) 23 #[.int .i64 p.1, .int .i64 p.2.1, .int .i64 p.2.2] ∧ Box wr (w.heap.size + 1 + 1) 27 #[.int .i64 0, .int .i64 0, .slice none 0 0] ∧
      wr.ownsRow w.heap.size 45 5 (.slice (some ⟨g, 0, none⟩) n n) n (ccells (spl l z (wipeL rw_ a k p))) ∧ Below w.heap.size w wr)
    (fun i _ => (t - intOf i).toNat)
  case atStart => exact ⟨a, Nat.le_refl _, .inl (Nat.le_refl _), rfl, x0, x1, x2, by rw [wipeL_none _ _ _ _ (Nat.le_refl _), hsame.out]; exact ho, bb⟩
  case round =>
    clear ho bb x0 x1 x2 a0 a1 a2 a3 a4 a5 ha
    obtain ⟨k, hka, hkt, rfl, x0, x1, x2, ho, hb⟩ := hrel
    obtain ⟨y0, y1, y2, _⟩ := x1.three
    have l1 := x1.lt
    have l2 : g < wr.heap.size := (ho.lt g rfl).2
    have lg : w.heap.size ≤ g := (ho.lt g rfl).1
    have lb : w.heap.size ≤ wr.heap.size := hb.size
    by_cases hlt : (k : Int) < t
    · have hwl := wipeL_len rw_ a k p
      rw [hrow.out] at hwl
      have hwl := hide hwl
      have hsl := hide (spl_len (l := l) (x := z) (m := wipeL rw_ a k p) (by rw [hwl.out, hlen.out]; omega))
      obtain ⟨cd, hck⟩ : ∃ cd, (spl l z (wipeL rw_ a k p))[z + k]? = some cd := ⟨_, List.getElem?_eq_getElem (by rw [hsl.out, hlen.out]; omega)⟩
      have FIN : ∀ w3, Below wr.heap.size wr w3 →
          (w3.cell? ⟨g, z * 5 + k * 5, none⟩ = some (.int .i32 (PG.rn cd)) ∧ w3.cell? ⟨g, z * 5 + k * 5 + 1, none⟩ = some (.int .i64 (PG.kd cd)) ∧ w3.cell? ⟨g, z * 5 + k * 5 + 2, none⟩ = some (.int .i64 (PG.pn cd).1) ∧ w3.cell? ⟨g, z * 5 + k * 5 + 3, none⟩ = some (.int .i64 (PG.pn cd).2.1) ∧ w3.cell? ⟨g, z * 5 + k * 5 + 4, none⟩ = some (.int .i64 (PG.pn cd).2.2) ∧
            w3.frozen? ⟨g, z * 5 + k * 5, none⟩ = false ∧ w3.frozen? ⟨g, z * 5 + k * 5 + 1, none⟩ = false ∧ w3.frozen? ⟨g, z * 5 + k * 5 + 2, none⟩ = false ∧ w3.frozen? ⟨g, z * 5 + k * 5 + 3, none⟩ = false ∧ w3.frozen? ⟨g, z * 5 + k * 5 + 4, none⟩ = false) ∧
          Box (store5 w3 g (z * 5 + k * 5) (PG.blank p)) w.heap.size 27 #[.int .i64 R, .int .i64 K, .slice (some ⟨g, 0, none⟩) n n] ∧ Box (store5 w3 g (z * 5 + k * 5) (PG.blank p)) (w.heap.size + 1) 23 #[.int .i64 p.1, .int .i64 p.2.1, .int .i64 p.2.2] ∧ Box (store5 w3 g (z * 5 + k * 5) (PG.blank p)) (w.heap.size + 1 + 1) 27 #[.int .i64 0, .int .i64 0, .slice none 0 0] ∧
          (store5 w3 g (z * 5 + k * 5) (PG.blank p)).ownsRow w.heap.size 45 5 (.slice (some ⟨g, 0, none⟩) n n) n (ccells (spl l z (wipeL rw_ a (k + 1) p))) ∧ Below w.heap.size w (store5 w3 g (z * 5 + k * 5) (PG.blank p)) := fun w3 h3 => by
        have m0 := own_ne_box ho x0 (by decide)
        have m1 := own_ne_box ho x1 (by decide)
        have m2 := own_ne_box ho x2 (by decide)
        have o3 := ho.kept (grown_of_below h3 none) (by simp [Value.ownBlock])
        have S := own_store5_at o3 (k := z + k) (o := z * 5 + k * 5) (by omega) (PG.blank p) (by omega) (by rw [hsl.out, hlen.out])
        have hs3 := h3.size
        refine ⟨own_five_at o3 (by omega) hck, (x0.below h3 x0.lt).grown S.2 (fun e => m0 e.symm), (x1.below h3 x1.lt).grown S.2 (fun e => m1 e.symm), (x2.below h3 x2.lt).grown S.2 (fun e => m2 e.symm), ?_, (hb.trans (h3.mono lb)).grown S.2 (by omega) (by rintro _ ⟨⟩; exact lg)⟩
        rw [← wipeL_set p hka (by rw [hrow.out]; omega), ← spl_set _ (by rw [hwl.out, hlen.out]; omega) (by rw [hwl.out]; omega)]
        exact S.1
      have FIN := hide FIN
      clear ho hck x0 x1 x2
      go_wp2_with (
        go_at_call 29
        go_must (refine (BC.out p _).mono ?_)
        rintro e w3 ⟨rfl, b3⟩
        obtain ⟨⟨v0, v1, v2, v3, v4, f0, f1, f2, f3, f4⟩, G2⟩ := FIN.out _ b3
        have G2 := hide G2
        clear b3 FIN)
      go_roundw
      case rel => exact ⟨k + 1, by omega, .inr (by omega), by go_num, G2.out⟩
      case measure => simp [intOf]; omega
    · have hwe : wipeL rw_ a k p = wipeL rw_ a t.toNat p := by
        rcases hkt with h | h
        · rw [wipeL_none _ _ _ _ h, wipeL_none _ _ _ _ (by omega)]
        · rw [show t.toNat = k from by omega]
      rw [hwe] at ho
      have hwl := wipeL_len rw_ a t.toNat p
      rw [hrow.out] at hwl
      clear hwe
      obtain ⟨lw, hlw⟩ : ∃ lw, wipeL rw_ a t.toNat p = lw := ⟨_, rfl⟩
      rw [hlw] at ho hwl
      have hrw2 := spl_row (l := l) (m := lw) (x := z) (by rw [hwl, hlen.out]; omega)
      rw [hwl] at hrw2
      have hspl := hide (spl_spl (l := l) (m := lw) (m' := mendL lw) (x := z) (by rw [hwl, hlen.out]; omega) (mendL_len lw))
      have hlw := hide hlw
      have S2 := HS.out _ _ _ _ (SeenC.of_own ho)
      rw [add0, hrw2] at S2
      have hwl := hide hwl
      have hsl := hide (spl_len (l := l) (x := z) (m := lw) (by rw [hwl.out, hlen.out]; omega))
      have n0 := own_ne_box ho x0 (by decide)
      have n2 := own_ne_box ho x2 (by decide)
      have x0 := hide x0
      have x2 := hide x2
      have ho := hide ho
      clear x1 hrw2 BC y0 y1 y2 HS
      go_wp2_with (first
        | (go_at_call 33
           go_must (refine (gmend_any K c' _ _ _ _ S2 (Nat.le_refl _) (by omega)).mono ?_)
           rintro e w3 ⟨g3, rfl, o3, b3⟩
           have O3 := ho.out.kept (grown_of_below b3 none) (by simp [Value.ownBlock])
           have x0 := x0.out.below b3 x0.out.lt
           have x2 := x2.out.below b3 x2.out.lt
           have bb := hb.trans (b3.mono hb.size)
           have s3 := SeenC.of_own o3
           clear b3 S2 o3 ho)
        | ((with_reducible refine at_op (o := ⟨some 36, _, _, _, _, _⟩) ?_)
           go_must (refine wpList_copyC (o := ⟨some 36, _, _, _, _, _⟩) rfl (.tmp 33) (.tmp 35) 25 25 rfl 45 i0 Tryd.underlying25 hi hz1 w.heap.size 45 g _ z n n _ _ (spl l z lw) rfl O3 rfl _ w3.heap.size K K K (mendL lw) rfl (Nat.min_self K) s3 (by omega) ?_)
           intro w4 O4 hg4
           rw [hspl.out] at O4
           have x0 := x0.grown hg4 (fun e => n0 e.symm)
           have x2 := x2.grown hg4 (fun e => n2 e.symm)
           have bb := bb.grown hg4 bb.size (by rintro _ ⟨⟩; exact lg)
           obtain ⟨a0, a1, a2, a3, a4, a5⟩ := x0.three
           obtain ⟨q0, q1, q2, q3, q4, q5⟩ := x2.three
           have O4 := hide O4
           clear n0 hg4 O3 s3))
      have X := x2.set3 (.int .i64 R) (.int .i64 K) (.slice (some ⟨g, 0, none⟩) n n)
      obtain ⟨j0, j1, j2, _⟩ := X.three
      refine bodyPost_ret (v := .agg #[.int .i64 R, .int .i64 K, .slice (some ⟨g, 0, none⟩) n n]) (by simp [results, Tryd.results50, go_sem, j0, j1, j2]) rfl ⟨g, rfl, ?_, ?_⟩
      · rw [hlw.out]
        exact ownsRow_setCell_other (ownsRow_setCell_other (ownsRow_setCell_other O4.out (a := ⟨w.heap.size + 1 + 1, 0, none⟩) n2 _) (a := ⟨w.heap.size + 1 + 1, 1, none⟩) n2 _) (a := ⟨w.heap.size + 1 + 1, 2, none⟩) n2 _
      · exact below_set3 bb (by omega) _ _ _
end Go.Proofs.YtcbmjdacdjcggaaDoor
set_option maxRecDepth 100000
namespace Go.Proofs.YtcbmjdacdjcggaaDoor
open Go.RowKit
set_option linter.unusedVariables false
set_option maxHeartbeats 4000000 in
theorem gwipe_out (R K n cp B a : Nat) (r fr tw t : Int) (p : PG.Pn) (A : Option Addr) (l : List PG.Cl) (w : World) (hl : SeenC w B A n l) (hB : B ≤ w.heap.size) (hn : n = R * K) (h1 : 1 ≤ R) (hr : r < 0 ∨ (R : Int) ≤ r) (hR : R ≤ 40) (h0 : 1 ≤ K) (hK : K ≤ 60)
    (hf : -1000 ≤ fr ∧ fr ≤ 1000) (ht : -1000 ≤ tw ∧ tw ≤ 1000) (ha : (if fr < 0 then (0 : Int) else fr) = (a : Int)) (hT : (if (0 : Int) < tw then (0 : Int) else tw) = t) :
    Calls Tryd.prog 50 #[gv R K (.slice A n cp), .int .i64 r, .int .i64 fr, .int .i64 tw, pv p] w (MadeG w R K n l) := by
  have hRK : R * K ≤ 2400 := Nat.mul_le_mul hR hK
  have hlen := hl.len
  obtain ⟨i0, hi, hz0, hz1, hz2⟩ := info_parts info_cell
  have CL := hide (fun w' (hb : Below w.heap.size w w') => clone_any R K n cp B A l w' (hl.below (hb.mono hB)) (Nat.le_trans hB hb.size) (by omega))
  have RW := hide (fun w' g => row_out R K n n r (some ⟨g, 0, none⟩) w' hn h1 hr hR h0 hK)
  have ht3 : t ≤ 0 ∧ -1000 ≤ t := by rw [← hT]; split <;> omega
  have ha3 : a ≤ 1000 := by split at ha <;> omega
  unfold gv pv at *
  unfold MadeG at *
  unfold gv at *
  have hn2 : n ≤ 2400 := by omega
  clear hn hRK
  go_enter Tryd.func50, Tryd.ntmps50
  go_wp2_with (first
    | (go_at_call 30
       go_must (refine (CL.out _ boxes3.2.2.2).mono ?_)
       rintro e w1 ⟨g, rfl, o1, b1⟩
       obtain ⟨x0, x1, x2, bw⟩ := boxes3 (w := w) (t0 := 27) (t1 := 23) (t2 := 27) (cs := #[.int .i64 R, .int .i64 K, .slice A n cp]) (ds := #[.int .i64 p.1, .int .i64 p.2.1, .int .i64 p.2.2]) (es := #[.int .i64 0, .int .i64 0, .slice none 0 0])
       have y0 := x0.below b1 x0.lt
       have y1 := x1.below b1 x1.lt
       have y2 := x2.below b1 x2.lt
       have bb := bw.trans (b1.mono bw.size)
       have o1 := own_base' o1 bw.size
       obtain ⟨a0, a1, a2, a3, a4, a5⟩ := y0.three
       have n0 := own_ne_box o1 y0 (by decide)
       have X0 := hide (y0.set3 (.int .i64 R) (.int .i64 K) (.slice (some ⟨g, 0, none⟩) n n))
       have X1 := hide (y1.far3 (g' := w.heap.size) (by omega) (.int .i64 R) (.int .i64 K) (.slice (some ⟨g, 0, none⟩) n n))
       have X2 := hide (y2.far3 (g' := w.heap.size) (by omega) (.int .i64 R) (.int .i64 K) (.slice (some ⟨g, 0, none⟩) n n))
       have O := hide (ownsRow_setCell_other (ownsRow_setCell_other (ownsRow_setCell_other o1 (a := ⟨w.heap.size, 0, none⟩) n0 (.int .i64 R)) (a := ⟨w.heap.size, 1, none⟩) n0 (.int .i64 K)) (a := ⟨w.heap.size, 2, none⟩) n0 (.slice (some ⟨g, 0, none⟩) n n))
       have bs := hide (below_set3 bb (Nat.le_refl _) (.int .i64 R) (.int .i64 K) (.slice (some ⟨g, 0, none⟩) n n))
       clear x0 x1 x2 bw b1 y0 y1 y2 CL o1 n0 bb)
    | (go_at_call 31
       go_must (refine (RW.out _ g).mono ?_)
       rintro e w2 ⟨rfl, bR⟩
       have x0 := X0.out.below bR X0.out.lt
       have x1 := X1.out.below bR X1.out.lt
       have x2 := X2.out.below bR X2.out.lt
       have ho := O.out.kept (grown_of_below bR none) (by simp [Value.ownBlock])
       have bb := bs.out.trans (bR.mono bs.out.size)
       clear X0 X1 X2 O bs bR RW))
  go_loopw [12] (fun i wr => i = .int .i64 a ∧ wr = w2) (fun i _ => 0)
  case atStart => exact ⟨rfl, rfl⟩
  case round =>
    clear ha
    obtain ⟨rfl, rfl⟩ := hrel
    have n0 := own_ne_box ho x0 (by decide)
    have n2 := own_ne_box ho x2 (by decide)
    have x0 := hide x0
    have x2 := hide x2
    have ho := hide ho
    clear x1 a0 a1 a2 a3 a4 a5
    go_wp2_with (first
      | (go_at_call 33
         go_must (refine (gmend_any 0 0 0 none [] _ (SeenC.nil_ _ _ _) (Nat.zero_le _) (by omega)).mono ?_)
         rintro e w3 ⟨g3, rfl, o3, b3⟩
         have O3 := hide (ho.out.kept (grown_of_below b3 none) (by simp [Value.ownBlock]))
         have x0 := x0.out.below b3 x0.out.lt
         have x2 := x2.out.below b3 x2.out.lt
         have bb := bb.trans (b3.mono bb.size)
         obtain ⟨a0, a1, a2, a3, a4, a5⟩ := x0.three
         obtain ⟨q0, q1, q2, q3, q4, q5⟩ := x2.three
         clear b3 o3 ho)
      | ((with_reducible refine at_op (o := ⟨some 36, _, _, _, _, _⟩) ?_)
         go_must (refine wpList_copyC0 (o := ⟨some 36, _, _, _, _, _⟩) rfl (.tmp 33) (.tmp 35) 25 25 rfl 45 i0 Tryd.underlying25 hi _ _ _ _ _ _ rfl rfl rfl ?_)))
    have X := x2.set3 (.int .i64 R) (.int .i64 K) (.slice (some ⟨g, 0, none⟩) n n)
    obtain ⟨j0, j1, j2, _⟩ := X.three
    refine bodyPost_ret (v := .agg #[.int .i64 R, .int .i64 K, .slice (some ⟨g, 0, none⟩) n n]) (by simp [results, Tryd.results50, go_sem, j0, j1, j2]) rfl ⟨g, rfl, ?_, ?_⟩
    · exact ownsRow_setCell_other (ownsRow_setCell_other (ownsRow_setCell_other O3.out (a := ⟨w.heap.size + 1 + 1, 0, none⟩) n2 _) (a := ⟨w.heap.size + 1 + 1, 1, none⟩) n2 _) (a := ⟨w.heap.size + 1 + 1, 2, none⟩) n2 _
    · exact below_set3 bb (by omega) _ _ _
end Go.Proofs.YtcbmjdacdjcggaaDoor
