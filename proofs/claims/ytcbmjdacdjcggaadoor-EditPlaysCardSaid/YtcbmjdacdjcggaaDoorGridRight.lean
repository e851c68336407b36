/- The contract of package grid's own Right, of a right grid: true. -/
import Derived.Test.YtcbmjdacdjcggaaDoorGridSee
import Derived.Test.YtcbmjdacdjcggaaDoorPenEq
import Derived.IntWalk
import Derived.Deep.RegionHeldLaw
set_option maxRecDepth 100000
namespace Go.Proofs.YtcbmjdacdjcggaaDoor
open Go.RowKit
set_option linter.unusedVariables false
set_option maxHeartbeats 4000000 in
theorem rightKind_any (f : Nat → PG.Cl) (n c B k : Nat) (A : Option Addr) (w : World) (hf : PG.RightRow f n) (hl : SeenC w B A n ((List.range n).map f)) (hB : B ≤ w.heap.size) (hn : n ≤ 60) (hk : k < n) (hx : ∀ j, j < n → -2147483648 ≤ PG.rn (f j) ∧ PG.rn (f j) ≤ 2147483647) (hs : Spans w) :
    Calls Tryd.prog 60 #[.slice A n c, .int .i64 k] w fun e w' => e = .returned (.bool true) ∧ Below w.heap.size w w' := by
  have hck := PG.range_at (f := f) hk
  obtain ⟨ad, rfl, hadB, d0, d1, d2, d3, d4⟩ := hl.five hck
  have hfk := (hf k hk).2
  have WD := fun w' (hs' : Spans w') v (h : C.width (PG.rn (f k)) = v) => (show Calls Tryd.prog 54 #[.int .i32 (PG.rn (f k))] w' fun e w'' => e = .returned (.int .i64 v) ∧ Below w'.heap.size w' w'' by subst h; exact width_any _ w' (hx k hk).1 (hx k hk).2 hs')
  rcases hfk with ⟨h1, h2⟩ | ⟨h1, h2, h3, h4, h5⟩ | ⟨h1, h2, h3, h4⟩
  · have W := hide (fun w' hs' => WD w' hs' 1 h2)
    rw [h1] at d1
    generalize f k = F at *
    clear WD hl hck h1 h2 hf hx
    go_enter Tryd.func60, Tryd.ntmps60
    go_wp2_with (go_at_call 54; go_must (refine (W.out _ hs).mono ?_); rintro e w1 ⟨rfl, b1⟩)
    go_ret
    exact ⟨rfl, b1⟩
  · have hcn := PG.range_at (f := f) h3
    have W := hide (fun w' hs' => WD w' hs' 2 h2)
    have L := hide hl
    have hpq : ((PG.pn (f (k + 1))).1 == (PG.pn (f k)).1 && (PG.pn (f (k + 1))).2.1 == (PG.pn (f k)).2.1 && (PG.pn (f (k + 1))).2.2 == (PG.pn (f k)).2.2) = true := by rw [h5]; simp
    have epq : ∀ w', (binOp .eql 23 (.agg #[.int .i64 (PG.pn (f (k + 1))).1, .int .i64 (PG.pn (f (k + 1))).2.1, .int .i64 (PG.pn (f (k + 1))).2.2]) (.agg #[.int .i64 (PG.pn (f k)).1, .int .i64 (PG.pn (f k)).2.1, .int .i64 (PG.pn (f k)).2.2])).run Tryd.prog w' = .ok (.bool true) w' := fun w' => by rw [eql_pen, hpq]
    have five0 := fun w' (h : InReg w w') => (hl.below (Below.mono h hB)).five hck
    have five1 := fun w' (h : InReg w w') => (hl.below (Below.mono h hB)).five hcn
    have F0 : ∀ w', InReg w w' → w'.cell? (ad.add (k * 5)) = some (.int .i32 (PG.rn (f k))) ∧ w'.cell? ⟨(ad.add (k * 5)).block, (ad.add (k * 5)).off + 2, none⟩ = some (.int .i64 (PG.pn (f k)).1) ∧ w'.cell? ⟨(ad.add (k * 5)).block, (ad.add (k * 5)).off + 3, none⟩ = some (.int .i64 (PG.pn (f k)).2.1) ∧ w'.cell? ⟨(ad.add (k * 5)).block, (ad.add (k * 5)).off + 4, none⟩ = some (.int .i64 (PG.pn (f k)).2.2) := fun w' h => by
      obtain ⟨ad', e', _, q0, q1, q2, q3, q4⟩ := five0 w' h
      injection e' with e'
      subst e'
      exact ⟨q0, q2, q3, q4⟩
    have F1 : ∀ w', InReg w w' → w'.cell? ⟨(ad.add ((k + 1) * 5)).block, (ad.add ((k + 1) * 5)).off + 2, none⟩ = some (.int .i64 (PG.pn (f (k + 1))).1) ∧ w'.cell? ⟨(ad.add ((k + 1) * 5)).block, (ad.add ((k + 1) * 5)).off + 3, none⟩ = some (.int .i64 (PG.pn (f (k + 1))).2.1) ∧ w'.cell? ⟨(ad.add ((k + 1) * 5)).block, (ad.add ((k + 1) * 5)).off + 4, none⟩ = some (.int .i64 (PG.pn (f (k + 1))).2.2) := fun w' h => by
      obtain ⟨ad', e', _, q0, q1, q2, q3, q4⟩ := five1 w' h
      injection e' with e'
      subst e'
      exact ⟨q2, q3, q4⟩
    have R0 := fun w' h => (F0 w' h).1
    have R2 := fun w' h => (F0 w' h).2.1
    have R3 := fun w' h => (F0 w' h).2.2.1
    have R4 := fun w' h => (F0 w' h).2.2.2
    have N2 := fun w' h => (F1 w' h).1
    have N3 := fun w' h => (F1 w' h).2.1
    have N4 := fun w' h => (F1 w' h).2.2
    rw [h1] at d1
    have h0 : InReg w w.drew := (InReg.refl _).drew
    have hP := Lib.hid h0
    generalize f k = F at *
    generalize f (k + 1) = F' at *
    clear WD hl hck hcn h1 h2 h4 h5 hf hx five0 five1 F0 F1 hpq d0 d2 d3 d4
    have wr1 : IntKind.i64.wrap ((k : Int) + 1) = (k : Int) + 1 := IntWalk.i64_in _ (by omega)
    have k0 : (0 : Int) ≤ (k : Int) + 1 := by omega
    have k1 : ((k : Int) + 1).toNat = k + 1 := by omega
    have k2 : (k : Int) + 1 < (n : Int) := by omega
    go_enter Tryd.func60, Tryd.ntmps60
    go_wp2_with fail
    go_region_held_law (fun w' => InReg w w')
      (first | with_reducible exact h0 | with_reducible exact hP.out)
      (first | (go_at_call 54; refine (W.out _ (hs.keep (show InReg w _ from by assumption))).mono ?_; rintro e wP ⟨rfl, bb⟩; have hP := Lib.hid (InReg.call (by assumption) bb)))
    go_wp2_with fail
    go_ret
    exact ⟨rfl, hP.out⟩
  · rw [h1] at d1
    rw [h2] at d0
    generalize f k = F at *
    clear WD hl hck h1 h2 hf hx
    go_enter Tryd.func60, Tryd.ntmps60
    go_wp2_with fail
    go_ret
    exact ⟨rfl, Below.refl _ _⟩
theorem right_below (f b g : Int) (w : World) (h : C.right f b g = true) : Calls Tryd.prog 59 #[.agg #[.int .i64 f, .int .i64 b, .int .i64 g]] w fun e w' => e = .returned (.bool true) ∧ Below w.heap.size w w' := by
  refine (right_is f b g true h w).mono ?_
  rintro e w' ⟨rfl, rfl⟩
  exact ⟨rfl, (Below.refl _ _).alloc (Nat.le_refl _) _⟩
theorem alone_right {f : Nat → PG.Cl} {n k : Nat} (hf : PG.RightRow f n) (hk : k < n) : aloneB ((List.range n).map f) k = false := by
  unfold aloneB
  rw [decide_eq_false_iff_not, PG.fnL_range hk, List.length_map, List.length_range]
  rintro (⟨a, b⟩ | ⟨a, b⟩)
  · have h := hf.left hk a
    exact b ⟨h.2.1, by rw [PG.fnL_range h.2.1]; exact h.2.2.1⟩
  · have h := hf.rightHalf hk a
    exact b ⟨h.2.1, by rw [PG.fnL_range (by omega)]; exact h.2.2⟩
set_option maxHeartbeats 2000000 in
theorem rightRow_any (f : Nat → PG.Cl) (n c B : Nat) (A : Option Addr) (w : World) (hf : PG.RightRow f n) (hl : SeenC w B A n ((List.range n).map f)) (hB : B ≤ w.heap.size) (hn : n ≤ 60) (hx : ∀ j, j < n → -2147483648 ≤ PG.rn (f j) ∧ PG.rn (f j) ≤ 2147483647) (hs : Spans w) :
    Calls Tryd.prog 52 #[.slice A n c] w fun e w' => e = .returned (.bool true) ∧ Below w.heap.size w w' := by
  have AL := hide (fun w' k (hb : Below w.heap.size w w') (hk : k < n) => alone_is _ n c B k false (alone_right hf hk) A w' (hl.below (hb.mono hB)) (by omega) hk)
  have RK := hide (fun w' k (hb : Below w.heap.size w w') (hk : k < n) => rightKind_any f n c B k A w' hf (hl.below (hb.mono hB)) (Nat.le_trans hB hb.size) hn hk hx (hs.keep hb))
  have RP := hide (fun w' k (hk : k < n) => right_below (PG.pn (f k)).1 (PG.pn (f k)).2.1 (PG.pn (f k)).2.2 w' (hf k hk).1)
  have HL := hide hl
  clear hl hf hx hs
  go_enter Tryd.func52, Tryd.ntmps52
  go_wp2_with fail
  go_loopw [6] (fun i wr => ∃ k : Nat, k ≤ n ∧ i = .int .i64 k ∧ Below w.heap.size w wr) (fun i _ => n - (intOf i).toNat)
  case atStart => exact ⟨0, Nat.zero_le _, rfl, Below.refl _ _⟩
  case round =>
    obtain ⟨k, hk, rfl, hb⟩ := hrel
    by_cases hlt : k < n
    · have hck := PG.range_at (f := f) hlt
      have HB := hide hb
      have hsz := hb.size
      have RPk := hide (fun w' => RP.out w' k hlt)
      have five := hide (fun w' (h : Below w.heap.size w w') => (HL.out.below (h.mono hB)).five hck)
      have HF := hide hck
      clear hck RP hb
      generalize f k = F at *
      go_wp2_with (first
        | (go_at_call 55
           go_must (refine (AL.out _ k HB.out hlt).mono ?_)
           rintro e w2 ⟨rfl, b2⟩
           have HB := hide (HB.out.trans (b2.mono hsz))
           have hsz := HB.out.size
           obtain ⟨ad, rfl, hadB, d0, d1, d2, d3, d4⟩ := five.out _ HB.out
           clear b2 AL)
        | (go_at_call 59
           go_must (refine (RPk.out _).mono ?_)
           rintro e w3 ⟨rfl, b3⟩
           have HB := hide (HB.out.trans (b3.mono hsz))
           have hsz := HB.out.size
           clear b3 RPk d0 d1 d2 d3 d4)
        | (go_at_call 60
           go_must (refine (RK.out _ k HB.out hlt).mono ?_)
           rintro e w4 ⟨rfl, b4⟩
           have HB := hide (HB.out.trans (b4.mono hsz))
           clear b4 RK))
      go_roundw
      case rel => exact ⟨k + 1, by omega, by go_num, HB.out⟩
      case measure => simp [intOf]; omega
    · obtain rfl : k = n := by omega
      go_wp2_with fail
      go_ret
      exact ⟨rfl, hb⟩
set_option maxHeartbeats 2000000 in
theorem gright_any (G : PG.Gr) (n cp B : Nat) (A : Option Addr) (w : World) (hG : PG.RightG G) (hl : SeenC w B A n (PG.cells G)) (hB : B ≤ w.heap.size) (hn : n = G.rows * G.cols) (hnc : n ≤ cp) (hcp : cp ≤ maxLen) (hx : ∀ r j, r < G.rows → j < G.cols → -2147483648 ≤ PG.rn (G.f r j) ∧ PG.rn (G.f r j) ≤ 2147483647) (hs : Spans w) :
    Calls Tryd.prog 26 #[gv G.rows G.cols (.slice A n cp)] w fun e w' => e = .returned (.bool true) ∧ Below w.heap.size w w' := by
  obtain ⟨g1, g2, g3, g4, g5⟩ := hG
  have hnn : 0 * G.cols + 0 < n := by rw [hn]; exact PG.place_lt g1 g3
  obtain ⟨c0, hc0'⟩ : ∃ c0, (PG.cells G)[0]? = some c0 := ⟨_, List.getElem?_eq_getElem (by rw [PG.cells_len]; omega)⟩
  obtain ⟨ad, rfl, hadB, _⟩ := hl.at_ hc0'
  clear hc0'
  have SZ := hide (fun w' => sized_any G.rows G.cols n cp (some ad) w' hn g1 g2 g3 g4)
  have RW : ∀ (w' : World) (k : Nat), Below w.heap.size w w' → k < G.rows → Calls Tryd.prog 31 #[gv G.rows G.cols (.slice (some ad) n cp), .int .i64 k] w' fun e w'' => ∃ ad' c', e = .returned (.slice (some ad') G.cols c') ∧ SeenC w'' w.heap.size (some ad') G.cols ((List.range G.cols).map (G.f k)) ∧ Below w'.heap.size w' w'' := fun w' k hb hk => by
    refine (row_any G.rows G.cols k n cp ad w' hn hnc hcp hk g2 g3 g4).mono ?_
    rintro e w'' ⟨⟨c', rfl, h1, h2⟩, bb⟩
    refine ⟨_, _, rfl, ?_, bb⟩
    have h := (row_seen ((hl.below (hb.mono hB)).below (bb.mono (Nat.le_trans hB hb.size))) hn hk g3).more hB
    rw [PG.row_cut hk] at h
    exact h
  have RW := hide RW
  have RR := hide (fun w' k c' (ad' : Addr) (hb : Below w.heap.size w w') (hk : k < G.rows) (h : SeenC w' w.heap.size (some ad') G.cols ((List.range G.cols).map (G.f k))) => rightRow_any (G.f k) G.cols c' w.heap.size (some ad') w' (g5 k hk) h hb.size g4 (fun j hj => hx k j hk hj) (hs.keep hb))
  clear hl hn hnc hcp hx hs g5 hnn
  unfold gv at *
  go_enter Tryd.func26, Tryd.ntmps26
  go_wp2_with (
    go_at_call 51
    go_must (refine (SZ.out _).mono ?_)
    rintro e w1 ⟨rfl, b1⟩
    have x0 := (Box.new w 27 #[.int .i64 G.rows, .int .i64 G.cols, .slice (some ad) n cp]).below b1 (by simp)
    have bb := ((Below.refl w.heap.size w).alloc (Nat.le_refl _) (.cells #[.int .i64 G.rows, .int .i64 G.cols, .slice (some ad) n cp] 27)).trans (b1.mono (by simp))
    obtain ⟨y0, y1, y2, _⟩ := x0.three
    clear b1 SZ)
  go_loopw [9] (fun i wr => ∃ k : Nat, k ≤ G.rows ∧ i = .int .i64 k ∧ Box wr w.heap.size 27 #[.int .i64 G.rows, .int .i64 G.cols, .slice (some ad) n cp] ∧ Below w.heap.size w wr) (fun i _ => G.rows - (intOf i).toNat)
  case atStart => exact ⟨0, Nat.zero_le _, rfl, x0, bb⟩
  case round =>
    clear x0 bb y0 y1 y2
    obtain ⟨k, hk, rfl, x0, hb⟩ := hrel
    by_cases hlt : k < G.rows
    · obtain ⟨y0, y1, y2, _⟩ := x0.three
      have HX := hide x0
      have HB := hide hb
      have hsz := hb.size
      clear hb x0
      go_wp2_with (first
        | (go_at_call 31
           go_must (refine (RW.out _ k HB.out hlt).mono ?_)
           rintro e w2 ⟨ad', c', rfl, hs2, b2⟩
           have HB := hide (HB.out.trans (b2.mono hsz))
           have hsz := HB.out.size
           have HX := hide (HX.out.below b2 HX.out.lt)
           have hs2 := hide hs2
           clear b2 RW y0 y1 y2)
        | (go_at_call 52
           go_must (refine (RR.out _ k _ _ HB.out hlt hs2.out).mono ?_)
           rintro e w3 ⟨rfl, b3⟩
           have HB := hide (HB.out.trans (b3.mono hsz))
           have HX := hide (HX.out.below b3 HX.out.lt)
           clear b3 RR hs2))
      go_roundw
      case rel => exact ⟨k + 1, by omega, by go_num, HX.out, HB.out⟩
      case measure => simp [intOf]; omega
    · obtain rfl : k = G.rows := by omega
      go_wp2_with fail
      go_ret
      exact ⟨rfl, hb⟩
end Go.Proofs.YtcbmjdacdjcggaaDoor
