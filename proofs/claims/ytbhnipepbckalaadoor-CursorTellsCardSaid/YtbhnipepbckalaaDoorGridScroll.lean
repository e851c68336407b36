/- The contract of the document's own Scroll. The contract of the document's own Shift. The document's own Shift and Scroll, told of plain grids, wherever. -/
import Derived.Test.YtbhnipepbckalaaDoorGridRefNew
import Derived.Test.YtbhnipepbckalaaDoorGridShift
import Derived.Test.YtbhnipepbckalaaDoorGridMem
import Derived.Deep.RegionHeld3
import Derived.Deep.RegionHeldLaw
import Derived.Test.YtbhnipepbckalaaDoorGridUse
set_option maxRecDepth 100000
namespace Go.Proofs.YtbhnipepbckalaaDoor.PG
set_option linter.unusedVariables false
/-- rows t to k less one moved -/
def halfS (g : Gr) (t b : Nat) (m : Int) (p : Pn) (k : Nat) : Gr := ⟨g.rows, g.cols, fun i j => if t ≤ i ∧ i < k then (if (t : Int) ≤ i + m ∧ (i : Int) + m ≤ b then g.f ((i : Int) + m).toNat j else blank p) else g.f i j⟩
theorem halfS_zero (g : Gr) (t b : Nat) (m : Int) (p : Pn) : cells (halfS g t b m p t) = cells g := cells_ext ⟨rfl, rfl, fun i j _ _ => if_neg (by omega)⟩
theorem halfS_end {g : Gr} {t b : Nat} (m : Int) (p : Pn) (hb : b < g.rows) (htb : t ≤ b) : cells (halfS g t b m p (b + 1)) = cells (scrollG g t b m p) := by
  unfold scrollG
  rw [if_pos ⟨hb, htb⟩]
  refine cells_ext ⟨rfl, rfl, fun i j _ _ => ?_⟩
  show (if t ≤ i ∧ i < b + 1 then _ else _) = (if t ≤ i ∧ i ≤ b then _ else _)
  by_cases h : t ≤ i ∧ i ≤ b
  · rw [if_pos h, if_pos (by omega)]
  · rw [if_neg h, if_neg (by omega)]
theorem halfS_next {g : Gr} {t b k : Nat} {m : Int} {p : Pn} {ms : List Cl} (hk : k < g.rows) (ht : t ≤ k) (hl : ms.length = g.cols) (hm : ∀ j, j < g.cols → ms[j]? = some (if (t : Int) ≤ k + m ∧ (k : Int) + m ≤ b then g.f ((k : Int) + m).toNat j else blank p)) :
    spl (cells (halfS g t b m p k)) (k * g.cols) ms = cells (halfS g t b m p (k + 1)) := by
  have e3 := spl_cells (g := halfS g t b m p k) (r := k) (m := ms) (h := fun j => if (t : Int) ≤ k + m ∧ (k : Int) + m ≤ b then g.f ((k : Int) + m).toNat j else blank p) hk hl hm
  rw [show (halfS g t b m p k).cols = g.cols from rfl] at e3
  rw [e3]
  refine cells_ext ⟨rfl, rfl, fun i j _ _ => ?_⟩
  show (if i = k then (if (t : Int) ≤ k + m ∧ (k : Int) + m ≤ b then g.f ((k : Int) + m).toNat j else blank p) else (if t ≤ i ∧ i < k then (if (t : Int) ≤ i + m ∧ (i : Int) + m ≤ b then g.f ((i : Int) + m).toNat j else blank p) else g.f i j)) = (if t ≤ i ∧ i < k + 1 then (if (t : Int) ≤ i + m ∧ (i : Int) + m ≤ b then g.f ((i : Int) + m).toNat j else blank p) else g.f i j)
  by_cases h : i = k
  · subst h
    rw [if_pos rfl, if_pos (show t ≤ i ∧ i < i + 1 by omega)]
  · rw [if_neg h]
    by_cases h2 : t ≤ i ∧ i < k
    · rw [if_pos h2, if_pos (show t ≤ i ∧ i < k + 1 by omega)]
    · rw [if_neg h2, if_neg (show ¬ (t ≤ i ∧ i < k + 1) by omega)]
end Go.Proofs.YtbhnipepbckalaaDoor.PG
namespace Go.Proofs.YtbhnipepbckalaaDoor
open Go.RowKit
set_option linter.unusedVariables false
theorem wrap_sum {k : Nat} {m : Int} (hk : k ≤ 41) (hm : -100000 ≤ m ∧ m ≤ 100000) : wrap64 ((k : Int) + m) = (k : Int) + m := by unfold wrap64; omega
theorem meas_in {k n : Nat} (h : k < n) : n - (intOf (.int .i64 ((k : Int) + 1))).toNat < n - (intOf (.int .i64 (k : Int))).toNat := by
  show n - ((k : Int) + 1).toNat < n - (k : Int).toNat
  omega
/-- where the document's Scroll stands between its rounds -/
structure RScr (w : World) (G : PG.Gr) (n cp gt t b k : Nat) (m : Int) (p : PG.Pn) (ad : Addr) (v vb : Value) (wx : World) : Prop where
  box0 : Box wx w.heap.size 24 #[.int .i64 G.rows, .int .i64 G.cols, .slice (some ad) n cp]
  box1 : Box wx (w.heap.size + 1) 26 #[.int .i64 p.1, .int .i64 p.2.1, .int .i64 p.2.2]
  box2 : Box wx (w.heap.size + 1 + 1) 24 #[.int .i64 0, .int .i64 0, .slice none 0 0]
  boxT : Box wx gt 24 #[.int .i64 G.rows, .int .i64 G.cols, v]
  own : wx.ownsRow w.heap.size 56 5 v n (ccells (PG.cells (PG.halfS G t b m p k)))
  ownB : wx.ownsRow w.heap.size 56 5 vb G.cols (ccells (List.replicate G.cols (PG.blank p)))
  below : Below w.heap.size w wx
theorem RScr.call {w wx wy : World} {G : PG.Gr} {n cp gt t b k : Nat} {m : Int} {p : PG.Pn} {ad : Addr} {v vb : Value} (h : RScr w G n cp gt t b k m p ad v vb wx) (bb : Below wx.heap.size wx wy) : RScr w G n cp gt t b k m p ad v vb wy :=
  ⟨h.box0.below bb h.box0.lt, h.box1.below bb h.box1.lt, h.box2.below bb h.box2.lt, h.boxT.below bb h.boxT.lt, own_low h.own bb, own_low h.ownB bb, h.below.trans (bb.mono h.below.size)⟩
/-- out written anew -/
theorem RScr.next {w wx : World} {G : PG.Gr} {n cp gt t b k : Nat} {m : Int} {p : PG.Pn} {ad : Addr} {v vb vs : Value} (h : RScr w G n cp gt t b k m p ad v vb wx) (hgt : w.heap.size + 1 + 1 < gt) (os : wx.ownsRow w.heap.size 56 5 vs n (ccells (PG.cells (PG.halfS G t b m p (k + 1))))) :
    RScr w G n cp gt t b (k + 1) m p ad vs vb (((wx.setCell ⟨gt, 0, none⟩ (.int .i64 G.rows)).setCell ⟨gt, 1, none⟩ (.int .i64 G.cols)).setCell ⟨gt, 2, none⟩ vs) := by
  have n1 := own_ne_box os h.boxT (by decide)
  have n2 := own_ne_box h.ownB h.boxT (by decide)
  exact ⟨h.box0.far3 (by omega) _ _ _, h.box1.far3 (by omega) _ _ _, h.box2.far3 (by omega) _ _ _, h.boxT.set3 _ _ _, ownsRow_setCell_other (ownsRow_setCell_other (ownsRow_setCell_other os (a := ⟨gt, 0, none⟩) n1 _) (a := ⟨gt, 1, none⟩) n1 _) (a := ⟨gt, 2, none⟩) n1 _,
    ownsRow_setCell_other (ownsRow_setCell_other (ownsRow_setCell_other h.ownB (a := ⟨gt, 0, none⟩) n2 _) (a := ⟨gt, 1, none⟩) n2 _) (a := ⟨gt, 2, none⟩) n2 _, below_set3 h.below (by omega) _ _ _⟩
set_option maxHeartbeats 8000000 in
theorem rscroll_t (G : PG.Gr) (n cp B t b : Nat) (m : Int) (p : PG.Pn) (A : Option Addr) (w : World) (hl : SeenC w B A n (PG.cells G)) (hB : B ≤ w.heap.size) (hn : n = G.rows * G.cols) (hnc : n ≤ cp) (hcp : cp ≤ maxLen) (htb : t ≤ b) (hb : b < G.rows) (g2 : G.rows ≤ 40) (g3 : 1 ≤ G.cols) (g4 : G.cols ≤ 60) (hm : -100000 ≤ m ∧ m ≤ 100000) :
    Calls Tryd.prog 43 #[gv G.rows G.cols (.slice A n cp), .int .i64 t, .int .i64 b, .int .i64 m, pv p] w (GaveG w G.rows G.cols (PG.cells (PG.scrollG G t b m p))) := by
  have hnn : n ≤ 2400 := by rw [hn]; exact Nat.mul_le_mul g2 g4
  have hn1 : 1 ≤ n := by rw [hn]; exact Nat.mul_le_mul (show 1 ≤ G.rows by omega) g3
  have hlen := PG.cells_len G
  obtain ⟨c0, hc0'⟩ : ∃ c0, (PG.cells G)[0]? = some c0 := ⟨_, List.getElem?_eq_getElem (by omega)⟩
  obtain ⟨ad, rfl, hadB, _⟩ := hl.at_ hc0'
  clear hc0'
  have hlenC : (PG.cells G).length = n := by rw [hlen, hn]
  have CP := hide (fun w' (hb : Below w.heap.size w w') => rcopied_any G.rows G.cols n cp B (some ad) (PG.cells G) w' (hl.below (Below.mono hb hB)) (Nat.le_trans hB hb.size) (by omega))
  have NW := hide (fun w' => rnew_any 1 G.cols p w' (by omega) g4)
  have RG : ∀ (w' : World) (z : Int), Below w.heap.size w w' → 0 ≤ z → z < G.rows → Calls Tryd.prog 68 #[gv G.rows G.cols (.slice (some ad) n cp), .int .i64 z] w' fun e w'' => ∃ A' c', e = .returned (.slice A' G.cols c') ∧ G.cols ≤ c' ∧ SeenC w'' w.heap.size A' G.cols ((List.range G.cols).map (G.f z.toNat)) ∧ Below w'.heap.size w' w'' := fun w' z hb hz0 hz1 => by
    have h := rrow_any G.rows G.cols z.toNat n cp B (some ad) (PG.cells G) w' (hl.below (hb.mono hB)) hn hnc hcp (by omega) g2 g4
    rw [PG.row_cut (by omega), Int.toNat_of_nonneg hz0] at h
    refine h.mono ?_
    rintro e w'' ⟨⟨A', c', rfl, hs, h1, h2⟩, bb⟩
    exact ⟨A', c', rfl, h1, (hs.below (bb.mono (Nat.le_trans hB hb.size))).more hB, bb⟩
  have RG := hide RG
  have ST : ∀ (w' : World) (k c' c2 : Nat) (A' A2 : Option Addr) (ms : List PG.Cl), k < G.rows → t ≤ k → SeenC w' w'.heap.size A' n (PG.cells (PG.halfS G t b m p k)) → SeenC w' w'.heap.size A2 G.cols ms → (∀ j, j < G.cols → ms[j]? = some (if (t : Int) ≤ k + m ∧ (k : Int) + m ≤ b then G.f ((k : Int) + m).toNat j else PG.blank p)) →
      Calls Tryd.prog 67 #[gv G.rows G.cols (.slice A' n c'), .int .i64 k, .slice A2 G.cols c2] w' fun e w'' => ∃ vs, e = .returned (gv G.rows G.cols vs) ∧ w''.ownsRow w'.heap.size 56 5 vs n (ccells (PG.cells (PG.halfS G t b m p (k + 1)))) ∧ Below w'.heap.size w' w'' := fun w' k c' c2 A' A2 ms hk ht h1 h2 hms => by
    have h := rset_any G.rows G.cols k n c' G.cols c2 w'.heap.size A' A2 _ ms w' h1 h2 (Nat.le_refl _) hn hk (Nat.le_refl _) g2 g3 g4
    have hl2 := h2.len
    rw [PG.halfS_next hk ht hl2 hms] at h
    refine h.mono ?_
    rintro e w'' ⟨vs, rfl, o, bb⟩
    rw [PG.cells_len, show (PG.halfS G t b m p (k + 1)).rows * (PG.halfS G t b m p (k + 1)).cols = n from hn.symm] at o
    exact ⟨vs, rfl, o, bb⟩
  have ST := hide ST
  have HZ := hide (PG.halfS_zero G t b m p)
  have HE := hide (PG.halfS_end (g := G) m p hb htb)
  have hlenS : (PG.cells (PG.scrollG G t b m p)).length = n := by rw [PG.cells_len, (PG.scroll_size ..).1, (PG.scroll_size ..).2, hn]
  have HLS := hide hlenS
  unfold gv at *
  unfold GaveG pv at *
  unfold gv at *
  have hbR : (b : Int) < (G.rows : Int) := by omega
  have htbI : (t : Int) ≤ (b : Int) := by omega
  have HLC := hide hlenC
  clear hl hn hlen hlenS hlenC
  have hfd : ∀ (x y z : Value) (w' : World), (Instr.field 24 (.agg #[x, y, z]) 2).run Tryd.prog w' = .ok z w' := fun _ _ _ _ => by kernel_rfl
  go_enter Tryd.func43, Tryd.ntmps43
  go_wp2_with (first
    | (go_at_call 65
       obtain ⟨x0, x1, x2, bw⟩ := boxes3 (w := w) (t0 := 24) (t1 := 26) (t2 := 24) (cs := #[.int .i64 G.rows, .int .i64 G.cols, .slice (some ad) n cp]) (ds := #[.int .i64 p.1, .int .i64 p.2.1, .int .i64 p.2.2]) (es := #[.int .i64 0, .int .i64 0, .slice none 0 0])
       go_must (refine (CP.out _ bw).mono ?_)
       rintro e w1 ⟨v1, rfl, o1, b1⟩
       have x0 := x0.below b1 x0.lt
       have x1 := x1.below b1 x1.lt
       have x2 := x2.below b1 x2.lt
       have o1 := own_base' o1 bw.size
       have bb := bw.trans (b1.mono bw.size)
       obtain ⟨A1, c1, rfl, _⟩ := own_form' o1
       rw [HLC.out]
       rw [HLC.out] at o1
       obtain ⟨a0, a1, a2, _⟩ := x0.three
       obtain ⟨q0, q1, q2, _⟩ := x1.three
       have l0 := x0.lt
       have l1 := x1.lt
       have l2 := x2.lt
       have X0 := hide x0
       have X1 := hide x1
       have X2 := hide x2
       have O1 := hide o1
       have HB := hide bb
       clear b1 bw x0 x1 x2 o1 bb CP)
    | (go_at_call 66
       go_must (refine (NW.out _).mono ?_)
       rintro e w2 ⟨v2, rfl, o2, b2⟩
       obtain ⟨A2, c2, rfl, _⟩ := own_form' o2
       have RS0 : RScr w G n cp w1.heap.size t b t m p ad (.slice A1 n c1) (.slice A2 (List.replicate (1 * G.cols) (PG.blank p)).length c2) w2 := by
         have bA := HB.out.alloc HB.out.size (.cells #[.int .i64 G.rows, .int .i64 G.cols, .slice A1 n c1] 24)
         refine ⟨(X0.out.alloc _).below b2 (by rw [World.size_alloc]; omega), (X1.out.alloc _).below b2 (by rw [World.size_alloc]; omega), (X2.out.alloc _).below b2 (by rw [World.size_alloc]; omega), (Box.new w1 _ _).below b2 (by rw [World.size_alloc]; omega), ?_, ?_, bA.trans (b2.mono bA.size)⟩
         · rw [HZ.out]
           exact own_low (O1.out.alloc _) b2
         · have o2 := own_base' o2 bA.size
           simpa using o2
       have RS0 := hide RS0
       have hl2 : (List.replicate (1 * G.cols) (PG.blank p)).length = G.cols := by simp
       rw [hl2] at RS0
       have hgt : w.heap.size + 1 + 1 < w1.heap.size := l2
       clear b2 o2 NW X0 X1 X2 O1 HB a0 a1 a2 q0 q1 q2))
  clear hfd
  go_loopw [13] (fun i wr => ∃ (k : Nat) (v : Value), t ≤ k ∧ k ≤ b + 1 ∧ i = .int .i64 k ∧ RScr w G n cp w1.heap.size t b k m p ad v (.slice A2 G.cols c2) wr) (fun i _ => b + 1 - (intOf i).toNat)
  case atStart => exact ⟨t, _, Nat.le_refl _, by omega, rfl, RS0.out⟩
  case round =>
    clear RS0
    obtain ⟨k, v, hkt, hkb, rfl, H⟩ := hrel
    obtain ⟨a0, a1, a2, _⟩ := H.box0.three
    obtain ⟨t0, t1, t2, f0, f1, f2⟩ := H.boxT.three
    obtain ⟨Aw, cw, rfl, hcw, hcm, hblk⟩ := own_form' H.own
    have l0 := H.box0.lt
    have lT := H.boxT.lt
    have lb := H.below.size
    by_cases hlt : k ≤ b
    · have HKR := hide (show k < G.rows by omega)
      have HKT := hide hkt
      by_cases hin : (t : Int) ≤ k + m ∧ (k : Int) + m ≤ b
      · have MS := hide (show ∀ j, j < G.cols → ((List.range G.cols).map (G.f ((k : Int) + m).toNat))[j]? = some (if (t : Int) ≤ k + m ∧ (k : Int) + m ≤ b then G.f ((k : Int) + m).toNat j else PG.blank p) from fun j hj => by
          rw [PG.range_at hj, if_pos hin])
        obtain ⟨hft, hfb⟩ := hin
        have HZ2 := hide (show 0 ≤ (k : Int) + m ∧ (k : Int) + m < G.rows by omega)
        have HD : RScr w G n cp w1.heap.size t b k m p ad (.slice Aw n cw) (.slice A2 G.cols c2) wr.drew := ⟨H.box0, H.box1, H.box2, H.boxT, H.own, H.ownB, H.below.drew⟩
        have HD := hide HD
        clear H
        go_wp2_with fail
        go_region_law (first
          | (go_simp; go_at_call 68; refine (RG.out _ _ HD.out.below HZ2.out.1 HZ2.out.2).mono ?_; rintro e wm ⟨A5, c5, rfl, hc5, hs5, bm⟩
             have Hm := hide (HD.out.call bm)
             have sm := hide (hs5.more Hm.out.below.size)
             obtain ⟨t0m, t1m, t2m, _⟩ := Hm.out.boxT.three)
          | (go_simp; go_at_call 67; refine (ST.out _ k _ _ _ _ _ HKR.out HKT.out (SeenC.of_own Hm.out.own) sm.out MS.out).mono ?_; rintro e ws ⟨vs, rfl, os, bs⟩
             (obtain ⟨As, cs, rfl, _⟩ := own_form' os)
             have Hs := Hm.out.call bs
             obtain ⟨t0s, t1s, t2s, f0s, f1s, f2s⟩ := Hs.boxT.three))
        all_goals
          have HN := hide (Hs.next hgt (own_base' os Hm.out.below.size))
          clear HD Hm sm bm os bs Hs t0 t1 t2 t0m t1m t2m t0s t1s t2s f0s f1s f2s f0 f1 f2 a0 a1 a2 MS
          go_wp2_with fail
          go_roundw
          case rel => exact ⟨k + 1, _, by omega, by omega, by go_num, HN.out⟩
          case measure => exact meas_in (by omega)
      · have MS := hide (show ∀ j, j < G.cols → (List.replicate G.cols (PG.blank p))[j]? = some (if (t : Int) ≤ k + m ∧ (k : Int) + m ≤ b then G.f ((k : Int) + m).toNat j else PG.blank p) from fun j hj => by
          rw [List.getElem?_replicate, if_pos hj, if_neg hin])
        have H := hide H
        have hcs : (k : Int) + m < t ∨ ((t : Int) ≤ k + m ∧ (b : Int) < k + m) := by omega
        clear hin
        rcases hcs with c1 | ⟨c1, c2'⟩
        all_goals
          go_wp2_with (
            go_at_call 67
            go_must (refine (ST.out _ k _ _ _ _ _ HKR.out HKT.out (SeenC.of_own H.out.own) (SeenC.of_own H.out.ownB) MS.out).mono ?_)
            rintro e ws ⟨vs, rfl, os, bs⟩
            obtain ⟨As, cs, rfl, _⟩ := own_form' os
            have Hs := H.out.call bs
            have HN := hide (Hs.next hgt (own_base' os H.out.below.size))
            clear t0 t1 t2 f0 f1 f2 a0 a1 a2
            obtain ⟨t0, t1, t2, f0, f1, f2⟩ := Hs.boxT.three
            clear bs os Hs MS)
          go_roundw
          case rel => exact ⟨k + 1, _, by omega, by omega, by go_num, HN.out⟩
          case measure => exact meas_in (by omega)
    · obtain rfl : k = b + 1 := by omega
      have ho := H.own
      rw [HE.out] at ho
      have x1 := H.box2
      have hb' := H.below
      have n1 := own_ne_box ho x1 (by decide)
      have X := x1.set3 (.int .i64 G.rows) (.int .i64 G.cols) (.slice Aw n cw)
      have O := ownsRow_setCell_other (ownsRow_setCell_other (ownsRow_setCell_other ho (a := ⟨w.heap.size + 1 + 1, 0, none⟩) n1 (.int .i64 G.rows)) (a := ⟨w.heap.size + 1 + 1, 1, none⟩) n1 (.int .i64 G.cols)) (a := ⟨w.heap.size + 1 + 1, 2, none⟩) n1 (.slice Aw n cw)
      have bz := below_set3 hb' (show w.heap.size ≤ w.heap.size + 1 + 1 by omega) (.int .i64 G.rows) (.int .i64 G.cols) (.slice Aw n cw)
      obtain ⟨j0, j1, j2, _⟩ := X.three
      obtain ⟨q0, q1, q2, q3, q4, q5⟩ := x1.three
      have O := hide O
      have bz := hide bz
      clear ho RG ST H x1 hb'
      go_wp2_with fail
      refine bodyPost_ret (v := .agg #[.int .i64 G.rows, .int .i64 G.cols, .slice Aw n cw]) (by simp [results, Tryd.results43, go_sem, j0, j1, j2]) rfl ⟨_, rfl, ?_, bz.out⟩
      rw [HLS.out]
      exact O.out
end Go.Proofs.YtbhnipepbckalaaDoor
set_option maxRecDepth 100000
namespace Go.Proofs.YtbhnipepbckalaaDoor.PG
set_option linter.unusedVariables false
/-- a wide rune parted, half done -/
def dn (f : Nat → Cl) (c : Nat) (b1 b2 : Bool) (j : Nat) : Cl := if b2 = true ∧ j = c then blank (pn (f c)) else if b1 = true ∧ j + 1 = c then blank (pn (f j)) else f j
theorem dn_all {f : Nat → Cl} {c : Nat} (h0 : 0 < c) (h2 : kd (f c) = 2) (j : Nat) : dn f c true true j = parted f c j := by
  unfold dn parted
  by_cases e1 : j = c
  · subst e1
    rw [if_pos ⟨rfl, rfl⟩, if_pos ⟨h2, h0, .inl rfl⟩]
  · rw [if_neg (fun h => e1 h.2)]
    by_cases e2 : j + 1 = c
    · rw [if_pos ⟨rfl, e2⟩, if_pos ⟨h2, h0, .inr e2⟩]
    · rw [if_neg (fun h => e2 h.2), if_neg (by omega)]
theorem parted_not {f : Nat → Cl} {c : Nat} (h : ¬ (kd (f c) = 2 ∧ 0 < c)) (j : Nat) : parted f c j = f j := if_neg (fun ⟨a, b, _⟩ => h ⟨a, b⟩)
/-- moved up to i -/
def lpart (f : Nat → Cl) (K c : Nat) (n : Int) (p : Pn) (i j : Nat) : Cl := if j < i then shifted f K c n p j else parted f c j
theorem lpart_start {f : Nat → Cl} {K c : Nat} {n : Int} {p : Pn} (j : Nat) : lpart f K c n p c j = parted f c j := by
  unfold lpart shifted
  by_cases h : j < c
  · rw [if_pos h, if_pos h]
  · rw [if_neg h]
theorem lpart_next {f : Nat → Cl} {K c i : Nat} {n : Int} {p : Pn} (j : Nat) : (if j = i then shifted f K c n p i else lpart f K c n p i j) = lpart f K c n p (i + 1) j := by
  unfold lpart
  by_cases h : j = i
  · subst h
    rw [if_pos rfl, if_pos (by omega)]
  · rw [if_neg h]
    by_cases h2 : j < i
    · rw [if_pos h2, if_pos (by omega)]
    · rw [if_neg h2, if_neg (by omega)]
theorem lpart_end {f : Nat → Cl} {K c : Nat} {n : Int} {p : Pn} {j : Nat} (hj : j < K) : lpart f K c n p K j = shifted f K c n p j := if_pos hj
end Go.Proofs.YtbhnipepbckalaaDoor.PG
namespace Go.Proofs.YtbhnipepbckalaaDoor
open Go.RowKit
set_option linter.unusedVariables false
theorem meas_in8 {k n : Nat} (h : k < n) : n - (intOf (.int .i64 ((k : Int) + 1))).toNat < n - (intOf (.int .i64 (k : Int))).toNat := by
  show n - ((k : Int) + 1).toNat < n - (k : Int).toNat
  omega
/-- while a wide rune is parted, in any order -/
structure SJ (w : World) (R K n cp g cap : Nat) (A : Option Addr) (p : PG.Pn) (f : Nat → PG.Cl) (c : Nat) (vals : Nat → Value) (L : Nat → Bool) (u : Nat → Value) (wx : World) : Prop where
  put : RPut w R K n cp g cap A p (PG.dn f c (L 19) (L 21)) wx
  all : ∀ j, j < 22 → L j = true → j ≠ 19 → j ≠ 21 → u j = vals j
section
variable {w : World} {R K n cp g cap : Nat} {A : Option Addr} {p : PG.Pn} {f : Nat → PG.Cl} {c : Nat} {vals : Nat → Value} {L : Nat → Bool} {u : Nat → Value} {wx wy : World}
theorem SJ.val (h : SJ w R K n cp g cap A p f c vals L u wx) {i : Nat} (h1 : i ≠ 19) (h2 : i ≠ 21) (b : Below wx.heap.size wx wy) (v : Value) (hv : vals i = v) : SJ w R K n cp g cap A p f c vals (mark L i) (upd u i v) wy := by
  refine ⟨?_, fun j hj hl n1 n2 => ?_⟩
  · rw [mark_at (Ne.symm h1), mark_at (Ne.symm h2)]
    exact h.put.call b
  · by_cases e : j = i
    · subst e
      rw [upd_self]
      exact hv.symm
    · rw [upd_at e]
      rw [mark_at e] at hl
      exact h.all j hj hl n1 n2
theorem SJ.st19 (h : SJ w R K n cp g cap A p f c vals L u wx) (hL : L 19 = false) {k : Nat} (hk : k + 1 = c) (hc : c < K) : SJ w R K n cp g cap A p f c vals (mark L 19) (upd u 19 undef) (store5 wx g (k * 5) (PG.blank (PG.pn (f k)))) := by
  refine ⟨?_, fun j hj hl n1 n2 => ?_⟩
  · rw [mark_self, mark_at (by decide)]
    refine (h.put.set (k := k) (by omega) (PG.blank (PG.pn (f k)))).congr fun j hj => ?_
    unfold PG.dn
    rw [hL]
    by_cases e : j = k
    · subst e
      rw [if_pos rfl, if_neg (by omega), if_pos ⟨rfl, hk⟩]
    · rw [if_neg e]
      by_cases e2 : L 21 = true ∧ j = c
      · rw [if_pos e2, if_pos e2]
      · rw [if_neg e2, if_neg e2, if_neg (by simp), if_neg (by omega)]
  · rw [upd_at n1]
    rw [mark_at n1] at hl
    exact h.all j hj hl n1 n2
theorem SJ.st21 (h : SJ w R K n cp g cap A p f c vals L u wx) (hL : L 21 = false) (hc : c < K) : SJ w R K n cp g cap A p f c vals (mark L 21) (upd u 21 undef) (store5 wx g (c * 5) (PG.blank (PG.pn (f c)))) := by
  refine ⟨?_, fun j hj hl n1 n2 => ?_⟩
  · rw [mark_self, mark_at (by decide)]
    refine (h.put.set (k := c) hc (PG.blank (PG.pn (f c)))).congr fun j hj => ?_
    unfold PG.dn
    rw [hL]
    by_cases e : j = c
    · subst e
      rw [if_pos rfl, if_pos ⟨rfl, rfl⟩]
    · simp [e]
  · rw [upd_at n2]
    rw [mark_at n2] at hl
    exact h.all j hj hl n1 n2
end
theorem RPut.other {w wx wy : World} {R K n cp g cap m g2 cap2 n2 : Nat} {A : Option Addr} {p : PG.Pn} {h : Nat → PG.Cl} {xs : List Value} (H : RPut w R K n cp g cap A p h wx) (o : wx.ownsRow m 56 5 (.slice (some ⟨g2, 0, none⟩) n2 cap2) n2 xs) (hne : g ≠ g2) (hm : w.heap.size ≤ g2) (b : wx.grownBy wy (some g2)) : RPut w R K n cp g cap A p h wy := by
  obtain ⟨x0, x1, x2, ho, hb⟩ := H
  exact ⟨x0.grown b (fun e => own_ne_box o x0 (by decide) e.symm), x1.grown b (fun e => own_ne_box o x1 (by decide) e.symm), x2.grown b (fun e => own_ne_box o x2 (by decide) e.symm), own_kept ho (Kept.of_grown b) (fun q hq hm' => by simp [Value.ownBlock] at hq hm'; omega), hb.grown b hb.size (by rintro _ ⟨⟩; exact hm)⟩
set_option maxHeartbeats 8000000 in
theorem rshift_t (G : PG.Gr) (n cp B r c : Nat) (m : Int) (p : PG.Pn) (A : Option Addr) (w : World) (hl : SeenC w B A n (PG.cells G)) (hB : B ≤ w.heap.size) (hn : n = G.rows * G.cols) (hnc : n ≤ cp) (hcp : cp ≤ maxLen) (hr : r < G.rows) (g2 : G.rows ≤ 40) (hc : c < G.cols) (g4 : G.cols ≤ 60) (hm : -100000 ≤ m ∧ m ≤ 100000) :
    Calls Tryd.prog 81 #[gv G.rows G.cols (.slice A n cp), .int .i64 r, .int .i64 c, .int .i64 m, pv p] w (GaveG w G.rows G.cols (PG.cells (PG.shiftG G r c m p))) := by
  have g3 : 1 ≤ G.cols := by omega
  have hRK : G.rows * G.cols ≤ 2400 := Nat.mul_le_mul g2 g4
  obtain ⟨i0, hi, hz0, hz1, hz2⟩ := info_parts info_cell
  have FR := hide (fun w' (hb : Below w.heap.size w w') => rrow_any G.rows G.cols r n cp B A (PG.cells G) w' (hl.below (Below.mono hb hB)) hn hnc hcp hr g2 g4)
  rw [PG.row_cut hr] at FR
  have hfin : spl (PG.cells G) (r * G.cols) (mendL ((List.range G.cols).map (PG.shifted (G.f r) G.cols c m p))) = PG.cells (PG.shiftG G r c m p) := by
    rw [PG.mendL_range]
    rw [PG.spl_cells (g := G) (h := PG.mend (PG.shifted (G.f r) G.cols c m p) G.cols) hr (by simp) (fun j hj => PG.range_at hj)]
    unfold PG.shiftG
    rw [if_pos ⟨hr, hc⟩]
  have FS := hide (fun w' (hb : Below w.heap.size w w') (A2 : Option Addr) (c2 : Nat) (B2 : Nat) (h2 : SeenC w' B2 A2 G.cols (mendL ((List.range G.cols).map (PG.shifted (G.f r) G.cols c m p)))) (hB2 : B2 ≤ w'.heap.size) (hBB : B ≤ B2) => rset_any G.rows G.cols r n cp G.cols c2 B2 A A2 (PG.cells G) _ w' ((hl.below (Below.mono hb hB)).more hBB) h2 hB2 hn hr (Nat.le_refl _) g2 g3 g4)
  rw [hfin] at FS
  have BC : ∀ (p : PG.Pn) (w' : World), Calls Tryd.prog 95 #[.agg #[.int .i64 p.1, .int .i64 p.2.1, .int .i64 p.2.2]] w' fun e w'' => e = .returned (.agg #[.int .i32 32, .int .i64 0, .int .i64 p.1, .int .i64 p.2.1, .int .i64 p.2.2]) ∧ Below w'.heap.size w' w'' := fun p w' => rblank_any p w'
  have BC := hide BC
  have HLO := hide (show (PG.cells (PG.shiftG G r c m p)).length = n by rw [PG.cells_len, (PG.shift_size ..).1, (PG.shift_size ..).2, hn])
  generalize PG.cells (PG.shiftG G r c m p) = out at *
  unfold GaveG gv pv at *
  have hnn : n ≤ 2400 := by omega
  have hrG : (r : Int) < (G.rows : Int) := by omega
  have hcG : (c : Int) < (G.cols : Int) := by omega
  have hr0 : r ≤ 40 := by omega
  clear hfin hl hn hRK hnc hcp
  generalize G.f r = f at *
  generalize hRR : G.rows = R at *
  generalize hKK : G.cols = K at *
  clear hRR hKK hr
  go_enter Tryd.func81, Tryd.ntmps81
  go_upto_region 5 with (first
    | (go_at_call 68
       obtain ⟨x0, x1, x2, bw⟩ := boxes3 (w := w) (t0 := 24) (t1 := 26) (t2 := 24) (cs := #[.int .i64 R, .int .i64 K, .slice A n cp]) (ds := #[.int .i64 p.1, .int .i64 p.2.1, .int .i64 p.2.2]) (es := #[.int .i64 0, .int .i64 0, .slice none 0 0])
       go_must (refine (FR.out _ bw).mono ?_)
       rintro e w1 ⟨⟨A1, c1, rfl, hs1, hk1, hk2⟩, b1⟩
       have hs1 := hide (hs1.below (b1.mono (show B ≤ _ from Nat.le_trans hB bw.size)))
       have HB := hide (bw.trans (b1.mono bw.size))
       have X0 := hide (x0.below b1 x0.lt)
       have X1 := hide (x1.below b1 x1.lt)
       have X2 := hide (x2.below b1 x2.lt)
       clear b1 bw x0 x1 x2 FR)
    | (at_builtin
       go_must (refine wpList_appC rfl (.tmp 38) (.tmp 39) 22 rfl w.heap.size 56 i0 _ 40 Tryd.underlying22 hi hz0 hz1 hz2 rfl (.slice (some ⟨w1.heap.size, 0, none⟩) 0 0) 0 [] rfl (own_lit5 (w := w1) (base := w.heap.size) 56 rfl HB.out.size) B A1 K c1 ((List.range K).map f) rfl (hs1.out.below ((Below.refl _ _).alloc (Nat.le_trans hB HB.out.size) _)) (by omega) (by omega) (by rw [World.size_alloc]; have := HB.out.size; omega) ?_)
       intro v4 w4 hown4 hg4 hm4
       simp only [Nat.zero_add, List.nil_append] at hown4
       obtain ⟨g, cap, rfl, hgb, hgc, hgm⟩ := own_at hown4 g3
       have ba : Below w1.heap.size w1 (w1.alloc (.cells #[] 56)) := (Below.refl _ _).alloc (Nat.le_refl _) _
       have H4 : RPut w R K n cp g cap A p f w4 := ⟨(X0.out.below ba X0.out.lt).grown hg4 (by have := X0.out.lt; simp [Value.ownBlock]; omega), (X1.out.below ba X1.out.lt).grown hg4 (by have := X1.out.lt; simp [Value.ownBlock]; omega), (X2.out.below ba X2.out.lt).grown hg4 (by have := X2.out.lt; simp [Value.ownBlock]; omega), hown4, (HB.out.trans (ba.mono HB.out.size)).grown hg4 (Nat.le_trans HB.out.size ba.size) (by rintro _ ⟨⟩; exact HB.out.size)⟩
       have hs4 := hide (seen_back hs1.out (HB.out.mono hB) (H4.2.2.2.2.mono hB))
       have H4 := hide H4
       clear hg4 hm4 ba hs1 X0 X1 X2 HB hown4))
  go_cut [50] (fun u wx => ∃ b : Bool, u = .bool b ∧ (b = true ↔ PG.kd (f c) = 2 ∧ 0 < c) ∧ wx = w4)
  case first =>
    obtain ⟨ad2, rfl, _, d0, d1, _⟩ := hs4.out.five (PG.range_at (f := f) (show c < K by omega))
    by_cases hk2' : PG.kd (f c) = 2
    · by_cases hc0 : 0 < c
      · have hq : (PG.kd (f c) == 2) = true := by simpa using hk2'
        have hiff := hide (show PG.kd (f c) = 2 ∧ 0 < c from ⟨hk2', hc0⟩)
        clear hk2' d0
        go_wp2_with fail
        go_meet
        exact ⟨true, rfl, ⟨fun _ => hiff.out, fun _ => rfl⟩, rfl⟩
      · have hq : (PG.kd (f c) == 2) = true := by simpa using hk2'
        have hiff := hide (show ¬ (PG.kd (f c) = 2 ∧ 0 < c) from fun h => hc0 h.2)
        have hd : decide (0 < c) = false := by simpa using hc0
        have hd' : decide ((0 : Int) < (c : Int)) = false := by simp; omega
        clear hk2' d0 hc0
        go_wp2_with fail
        go_meet
        exact ⟨false, rfl, ⟨(fun h => by cases h), fun h => absurd h hiff.out⟩, rfl⟩
    · have hq : (PG.kd (f c) == 2) = false := by simpa using hk2'
      have hiff := hide (show ¬ (PG.kd (f c) = 2 ∧ 0 < c) from fun h => hk2' h.1)
      clear hk2' d0
      go_wp2_with fail
      go_meet
      exact ⟨false, rfl, ⟨(fun h => by cases h), fun h => absurd h hiff.out⟩, rfl⟩
  case rest =>
  obtain ⟨b, rfl, hiff, rfl⟩ := hcut
  go_upto_if 50 with fail
  go_cut [] (fun wx => RPut w R K n cp g cap A p (PG.parted f c) wx)
  case first =>
    rcases b with _ | _
    · have hno : ¬ (PG.kd (f c) = 2 ∧ 0 < c) := fun h => by have := hiff.2 h; cases this
      have HM := hide (H4.out.congr (h' := PG.parted f c) (fun j _ => (PG.parted_not hno j).symm))
      clear hno hiff
      go_wp2_with fail
      go_meet
      exact HM.out
    · obtain ⟨hk2', hc0⟩ := hiff.1 rfl
      obtain ⟨ad2, rfl, hadB, -⟩ := hs4.out.five (PG.range_at (f := f) (show c < K by omega))
      obtain ⟨k, rfl⟩ : ∃ k, c = k + 1 := ⟨c - 1, by omega⟩
      have HDN := hide (PG.dn_all (f := f) hc0 hk2')
      have hkw : IntKind.i64.wrap (k : Int) = (k : Int) := by rw [IntWalk.i64_in _ (by omega)]
      have HCK := hide (show k + 1 < K by omega)
      clear hiff hk2' hc0
      have OLD := hide (show ∀ wx, Below w.heap.size w wx → SeenC wx B (some ad2) K ((List.range K).map f) from fun wx hb => seen_back hs4.out (H4.out.2.2.2.2.mono hB) (hb.mono hB))
      go_upto_region 6 with fail
      refine wp_region_vals (n := 110) (SJ w R K n cp g cap A p f (k + 1) (fun j => [(.slice (some ⟨g, 0, none⟩) K cap), (.int .i64 ((k + 1 : Nat) : Int)), (.int .i64 (k : Int)), (.slice (some ⟨g, 0, none⟩) K cap), (.int .i64 ((k + 1 : Nat) : Int)), (.slice (some ad2) K c1), (.int .i64 ((k + 1 : Nat) : Int)), (.int .i64 (k : Int)), (.pointer (some (ad2.add (k * 5)))), (.pointer (some ⟨(ad2.add (k * 5)).block, (ad2.add (k * 5)).off + 2, none⟩)), (.agg #[.int .i64 (PG.pn (f k)).1, .int .i64 (PG.pn (f k)).2.1, .int .i64 (PG.pn (f k)).2.2]), (.agg #[.int .i32 32, .int .i64 0, .int .i64 (PG.pn (f k)).1, .int .i64 (PG.pn (f k)).2.1, .int .i64 (PG.pn (f k)).2.2]), (.slice (some ad2) K c1), (.int .i64 ((k + 1 : Nat) : Int)), (.pointer (some (ad2.add ((k + 1) * 5)))), (.pointer (some ⟨(ad2.add ((k + 1) * 5)).block, (ad2.add ((k + 1) * 5)).off + 2, none⟩)), (.agg #[.int .i64 (PG.pn (f (k + 1))).1, .int .i64 (PG.pn (f (k + 1))).2.1, .int .i64 (PG.pn (f (k + 1))).2.2]), (.agg #[.int .i32 32, .int .i64 0, .int .i64 (PG.pn (f (k + 1))).1, .int .i64 (PG.pn (f (k + 1))).2.1, .int .i64 (PG.pn (f (k + 1))).2.2]), (.pointer (some ⟨g, k * 5, none⟩)), undef, (.pointer (some ⟨g, (k + 1) * 5, none⟩)), undef].getD j undef)) (by kernel_rfl) (by kernel_rfl) (by kernel_rfl) rfl (fun L u u' wx he hj => ⟨hj.put, fun j hl h1 h2 h3 => (he j hl).symm.trans (hj.all j hl h1 h2 h3)⟩) (cases22 ⟨?_, ?_, ?_, ?_, ?_, ?_, ?_, ?_, ?_, ?_, ?_, ?_, ?_, ?_, ?_, ?_, ?_, ?_, ?_, ?_, ?_, ?_⟩) ?_ ⟨(show RPut w R K n cp g cap A p (PG.dn f (k + 1) false false) _ from (H4.out.congr (fun j _ => by unfold PG.dn; rw [if_neg (by simp), if_neg (by simp)])).call ((Below.refl _ _).drew)), fun j _ h => by cases h⟩
      · intro L a w' hL hsame hsz hJ hdep hcl
        have e0 : a.eval (.tmp 12) = (.slice (some ⟨g, 0, none⟩) K cap) := eval_base hsame (by kernel_rfl)
        refine Step.val _ rfl rfl (wanted_none rfl) (.slice (some ⟨g, 0, none⟩) K cap) w' (fun ρ hρ => ?_) (hJ.val (by decide) (by decide) (Below.refl _ _) _ rfl)
        rw [hρ] at e0
        clear hJ hsame hdep hcl hρ hsz
        go_simp
      · intro L a w' hL hsame hsz hJ hdep hcl
        have e0 : a.eval (.tmp 2) = (.int .i64 ((k + 1 : Nat) : Int)) := eval_base hsame (by kernel_rfl)
        refine Step.val _ rfl rfl (wanted_none rfl) (.int .i64 ((k + 1 : Nat) : Int)) w' (fun ρ hρ => ?_) (hJ.val (by decide) (by decide) (Below.refl _ _) _ rfl)
        rw [hρ] at e0
        clear hJ hsame hdep hcl hρ hsz
        go_simp
      · intro L a w' hL hsame hsz hJ hdep hcl
        have e0 : a.eval (.tmp 52) = (.int .i64 ((k + 1 : Nat) : Int)) := eval_slot (j := 1) (by kernel_rfl) (hJ.all 1 (by decide) (dep_of hdep 1 (by kernel_rfl)) (by decide) (by decide))
        refine Step.val _ rfl rfl (wanted_none rfl) (.int .i64 (k : Int)) w' (fun ρ hρ => ?_) (hJ.val (by decide) (by decide) (Below.refl _ _) _ rfl)
        rw [hρ] at e0
        have ec0 : ρ (.const (.int .i64 1)) = (.int .i64 1) := (hρ _).symm
        clear hJ hsame hdep hcl hρ hsz
        go_simp
      · intro L a w' hL hsame hsz hJ hdep hcl
        have e0 : a.eval (.tmp 12) = (.slice (some ⟨g, 0, none⟩) K cap) := eval_base hsame (by kernel_rfl)
        refine Step.val _ rfl rfl (wanted_none rfl) (.slice (some ⟨g, 0, none⟩) K cap) w' (fun ρ hρ => ?_) (hJ.val (by decide) (by decide) (Below.refl _ _) _ rfl)
        rw [hρ] at e0
        clear hJ hsame hdep hcl hρ hsz
        go_simp
      · intro L a w' hL hsame hsz hJ hdep hcl
        have e0 : a.eval (.tmp 2) = (.int .i64 ((k + 1 : Nat) : Int)) := eval_base hsame (by kernel_rfl)
        refine Step.val _ rfl rfl (wanted_none rfl) (.int .i64 ((k + 1 : Nat) : Int)) w' (fun ρ hρ => ?_) (hJ.val (by decide) (by decide) (Below.refl _ _) _ rfl)
        rw [hρ] at e0
        clear hJ hsame hdep hcl hρ hsz
        go_simp
      · intro L a w' hL hsame hsz hJ hdep hcl
        have e0 : a.eval (.tmp 11) = (.slice (some ad2) K c1) := eval_base hsame (by kernel_rfl)
        refine Step.val _ rfl rfl (wanted_none rfl) (.slice (some ad2) K c1) w' (fun ρ hρ => ?_) (hJ.val (by decide) (by decide) (Below.refl _ _) _ rfl)
        rw [hρ] at e0
        clear hJ hsame hdep hcl hρ hsz
        go_simp
      · intro L a w' hL hsame hsz hJ hdep hcl
        have e0 : a.eval (.tmp 2) = (.int .i64 ((k + 1 : Nat) : Int)) := eval_base hsame (by kernel_rfl)
        refine Step.val _ rfl rfl (wanted_none rfl) (.int .i64 ((k + 1 : Nat) : Int)) w' (fun ρ hρ => ?_) (hJ.val (by decide) (by decide) (Below.refl _ _) _ rfl)
        rw [hρ] at e0
        clear hJ hsame hdep hcl hρ hsz
        go_simp
      · intro L a w' hL hsame hsz hJ hdep hcl
        have e0 : a.eval (.tmp 57) = (.int .i64 ((k + 1 : Nat) : Int)) := eval_slot (j := 6) (by kernel_rfl) (hJ.all 6 (by decide) (dep_of hdep 6 (by kernel_rfl)) (by decide) (by decide))
        refine Step.val _ rfl rfl (wanted_none rfl) (.int .i64 (k : Int)) w' (fun ρ hρ => ?_) (hJ.val (by decide) (by decide) (Below.refl _ _) _ rfl)
        rw [hρ] at e0
        have ec0 : ρ (.const (.int .i64 1)) = (.int .i64 1) := (hρ _).symm
        clear hJ hsame hdep hcl hρ hsz
        go_simp
      · intro L a w' hL hsame hsz hJ hdep hcl
        have e0 : a.eval (.tmp 56) = (.slice (some ad2) K c1) := eval_slot (j := 5) (by kernel_rfl) (hJ.all 5 (by decide) (dep_of hdep 5 (by kernel_rfl)) (by decide) (by decide))
        have e1 : a.eval (.tmp 58) = (.int .i64 (k : Int)) := eval_slot (j := 7) (by kernel_rfl) (hJ.all 7 (by decide) (dep_of hdep 7 (by kernel_rfl)) (by decide) (by decide))
        refine Step.val _ rfl rfl (wanted_none rfl) (.pointer (some (ad2.add (k * 5)))) w' (fun ρ hρ => ?_) (hJ.val (by decide) (by decide) (Below.refl _ _) _ rfl)
        rw [hρ] at e0 e1
        clear hJ hsame hdep hcl hρ hsz
        go_simp
        intro hx
        exfalso
        have := HCK.out
        omega
      · intro L a w' hL hsame hsz hJ hdep hcl
        have e0 : a.eval (.tmp 59) = (.pointer (some (ad2.add (k * 5)))) := eval_slot (j := 8) (by kernel_rfl) (hJ.all 8 (by decide) (dep_of hdep 8 (by kernel_rfl)) (by decide) (by decide))
        refine Step.val _ rfl rfl (wanted_none rfl) (.pointer (some ⟨(ad2.add (k * 5)).block, (ad2.add (k * 5)).off + 2, none⟩)) w' (fun ρ hρ => ?_) (hJ.val (by decide) (by decide) (Below.refl _ _) _ rfl)
        rw [hρ] at e0
        clear hJ hsame hdep hcl hρ hsz
        go_simp
      · intro L a w' hL hsame hsz hJ hdep hcl
        have e0 : a.eval (.tmp 60) = (.pointer (some ⟨(ad2.add (k * 5)).block, (ad2.add (k * 5)).off + 2, none⟩)) := eval_slot (j := 9) (by kernel_rfl) (hJ.all 9 (by decide) (dep_of hdep 9 (by kernel_rfl)) (by decide) (by decide))
        obtain ⟨_, hsome, _, q0, q1, q2, q3, q4⟩ := (OLD.out w' hJ.put.2.2.2.2).five (PG.range_at (f := f) (show k < K by have := HCK.out; omega))
        injection hsome with hsome
        subst hsome
        refine Step.val _ rfl rfl (wanted_none rfl) (.agg #[.int .i64 (PG.pn (f k)).1, .int .i64 (PG.pn (f k)).2.1, .int .i64 (PG.pn (f k)).2.2]) w' (fun ρ hρ => ?_) (hJ.val (by decide) (by decide) (Below.refl _ _) _ rfl)
        rw [hρ] at e0
        clear hJ hsame hdep hcl hρ hsz
        go_simp
      · intro L a w' hL hsame hsz hJ hdep hcl
        have e0 : a.eval (.tmp 61) = (.agg #[.int .i64 (PG.pn (f k)).1, .int .i64 (PG.pn (f k)).2.1, .int .i64 (PG.pn (f k)).2.2]) := eval_slot (j := 10) (by kernel_rfl) (hJ.all 10 (by decide) (dep_of hdep 10 (by kernel_rfl)) (by decide) (by decide))
        refine Step.call _ rfl rfl (wanted_none rfl) 95 #[.agg #[.int .i64 (PG.pn (f k)).1, .int .i64 (PG.pn (f k)).2.1, .int .i64 (PG.pn (f k)).2.2]] (fun ρ hρ => ?_) ?_
        · rw [hρ] at e0
          have ef : ρ (.func 95) = .func (.func 95) #[] #[] := (hρ _).symm
          clear hJ hsame hdep hcl hρ hsz
          go_simp
        · refine (BC.out (PG.pn (f k)) w').mono ?_
          rintro e w2 ⟨rfl, bb⟩
          exact ⟨_, rfl, hJ.val (by decide) (by decide) bb _ rfl⟩
      · intro L a w' hL hsame hsz hJ hdep hcl
        have e0 : a.eval (.tmp 11) = (.slice (some ad2) K c1) := eval_base hsame (by kernel_rfl)
        refine Step.val _ rfl rfl (wanted_none rfl) (.slice (some ad2) K c1) w' (fun ρ hρ => ?_) (hJ.val (by decide) (by decide) (Below.refl _ _) _ rfl)
        rw [hρ] at e0
        clear hJ hsame hdep hcl hρ hsz
        go_simp
      · intro L a w' hL hsame hsz hJ hdep hcl
        have e0 : a.eval (.tmp 2) = (.int .i64 ((k + 1 : Nat) : Int)) := eval_base hsame (by kernel_rfl)
        refine Step.val _ rfl rfl (wanted_none rfl) (.int .i64 ((k + 1 : Nat) : Int)) w' (fun ρ hρ => ?_) (hJ.val (by decide) (by decide) (Below.refl _ _) _ rfl)
        rw [hρ] at e0
        clear hJ hsame hdep hcl hρ hsz
        go_simp
      · intro L a w' hL hsame hsz hJ hdep hcl
        have e0 : a.eval (.tmp 63) = (.slice (some ad2) K c1) := eval_slot (j := 12) (by kernel_rfl) (hJ.all 12 (by decide) (dep_of hdep 12 (by kernel_rfl)) (by decide) (by decide))
        have e1 : a.eval (.tmp 64) = (.int .i64 ((k + 1 : Nat) : Int)) := eval_slot (j := 13) (by kernel_rfl) (hJ.all 13 (by decide) (dep_of hdep 13 (by kernel_rfl)) (by decide) (by decide))
        refine Step.val _ rfl rfl (wanted_none rfl) (.pointer (some (ad2.add ((k + 1) * 5)))) w' (fun ρ hρ => ?_) (hJ.val (by decide) (by decide) (Below.refl _ _) _ rfl)
        rw [hρ] at e0 e1
        clear hJ hsame hdep hcl hρ hsz
        go_simp
        intro hx
        exfalso
        have := HCK.out
        have hx := hx (by omega)
        omega
      · intro L a w' hL hsame hsz hJ hdep hcl
        have e0 : a.eval (.tmp 65) = (.pointer (some (ad2.add ((k + 1) * 5)))) := eval_slot (j := 14) (by kernel_rfl) (hJ.all 14 (by decide) (dep_of hdep 14 (by kernel_rfl)) (by decide) (by decide))
        refine Step.val _ rfl rfl (wanted_none rfl) (.pointer (some ⟨(ad2.add ((k + 1) * 5)).block, (ad2.add ((k + 1) * 5)).off + 2, none⟩)) w' (fun ρ hρ => ?_) (hJ.val (by decide) (by decide) (Below.refl _ _) _ rfl)
        rw [hρ] at e0
        clear hJ hsame hdep hcl hρ hsz
        go_simp
      · intro L a w' hL hsame hsz hJ hdep hcl
        have e0 : a.eval (.tmp 66) = (.pointer (some ⟨(ad2.add ((k + 1) * 5)).block, (ad2.add ((k + 1) * 5)).off + 2, none⟩)) := eval_slot (j := 15) (by kernel_rfl) (hJ.all 15 (by decide) (dep_of hdep 15 (by kernel_rfl)) (by decide) (by decide))
        obtain ⟨_, hsome, _, q0, q1, q2, q3, q4⟩ := (OLD.out w' hJ.put.2.2.2.2).five (PG.range_at (f := f) (show k + 1 < K by have := HCK.out; omega))
        injection hsome with hsome
        subst hsome
        refine Step.val _ rfl rfl (wanted_none rfl) (.agg #[.int .i64 (PG.pn (f (k + 1))).1, .int .i64 (PG.pn (f (k + 1))).2.1, .int .i64 (PG.pn (f (k + 1))).2.2]) w' (fun ρ hρ => ?_) (hJ.val (by decide) (by decide) (Below.refl _ _) _ rfl)
        rw [hρ] at e0
        clear hJ hsame hdep hcl hρ hsz
        go_simp
      · intro L a w' hL hsame hsz hJ hdep hcl
        have e0 : a.eval (.tmp 67) = (.agg #[.int .i64 (PG.pn (f (k + 1))).1, .int .i64 (PG.pn (f (k + 1))).2.1, .int .i64 (PG.pn (f (k + 1))).2.2]) := eval_slot (j := 16) (by kernel_rfl) (hJ.all 16 (by decide) (dep_of hdep 16 (by kernel_rfl)) (by decide) (by decide))
        refine Step.call _ rfl rfl (wanted_none rfl) 95 #[.agg #[.int .i64 (PG.pn (f (k + 1))).1, .int .i64 (PG.pn (f (k + 1))).2.1, .int .i64 (PG.pn (f (k + 1))).2.2]] (fun ρ hρ => ?_) ?_
        · rw [hρ] at e0
          have ef : ρ (.func 95) = .func (.func 95) #[] #[] := (hρ _).symm
          clear hJ hsame hdep hcl hρ hsz
          go_simp
        · refine (BC.out (PG.pn (f (k + 1))) w').mono ?_
          rintro e w2 ⟨rfl, bb⟩
          exact ⟨_, rfl, hJ.val (by decide) (by decide) bb _ rfl⟩
      · intro L a w' hL hsame hsz hJ hdep hcl
        have e0 : a.eval (.tmp 51) = (.slice (some ⟨g, 0, none⟩) K cap) := eval_slot (j := 0) (by kernel_rfl) (hJ.all 0 (by decide) (dep_of hdep 0 (by kernel_rfl)) (by decide) (by decide))
        have e1 : a.eval (.tmp 53) = (.int .i64 (k : Int)) := eval_slot (j := 2) (by kernel_rfl) (hJ.all 2 (by decide) (dep_of hdep 2 (by kernel_rfl)) (by decide) (by decide))
        refine Step.val _ rfl rfl (wanted_none rfl) (.pointer (some ⟨g, k * 5, none⟩)) w' (fun ρ hρ => ?_) (hJ.val (by decide) (by decide) (Below.refl _ _) _ rfl)
        rw [hρ] at e0 e1
        clear hJ hsame hdep hcl hρ hsz
        go_simp
        intro hx
        exfalso
        have := HCK.out
        omega
      · intro L a w' hL hsame hsz hJ hdep hcl
        have e0 : a.eval (.tmp 69) = (.pointer (some ⟨g, k * 5, none⟩)) := eval_slot (j := 18) (by kernel_rfl) (hJ.all 18 (by decide) (dep_of hdep 18 (by kernel_rfl)) (by decide) (by decide))
        have e1 : a.eval (.tmp 62) = (.agg #[.int .i32 32, .int .i64 0, .int .i64 (PG.pn (f k)).1, .int .i64 (PG.pn (f k)).2.1, .int .i64 (PG.pn (f k)).2.2]) := eval_slot (j := 11) (by kernel_rfl) (hJ.all 11 (by decide) (dep_of hdep 11 (by kernel_rfl)) (by decide) (by decide))
        obtain ⟨v0, v1, v2, v3, v4, f0, f1, f2, f3, f4⟩ := hJ.put.five (k := k) (by have := HCK.out; omega)
        refine Step.skip _ rfl (wanted_none rfl) (store5 w' g (k * 5) (PG.blank (PG.pn (f k)))) (fun ρ hρ => ?_) (hJ.st19 hL rfl HCK.out)
        rw [hρ] at e0 e1
        clear hJ hsame hdep hcl hρ hsz
        unfold store5 PG.blank
        go_simp
        rfl
      · intro L a w' hL hsame hsz hJ hdep hcl
        have e0 : a.eval (.tmp 54) = (.slice (some ⟨g, 0, none⟩) K cap) := eval_slot (j := 3) (by kernel_rfl) (hJ.all 3 (by decide) (dep_of hdep 3 (by kernel_rfl)) (by decide) (by decide))
        have e1 : a.eval (.tmp 55) = (.int .i64 ((k + 1 : Nat) : Int)) := eval_slot (j := 4) (by kernel_rfl) (hJ.all 4 (by decide) (dep_of hdep 4 (by kernel_rfl)) (by decide) (by decide))
        refine Step.val _ rfl rfl (wanted_none rfl) (.pointer (some ⟨g, (k + 1) * 5, none⟩)) w' (fun ρ hρ => ?_) (hJ.val (by decide) (by decide) (Below.refl _ _) _ rfl)
        rw [hρ] at e0 e1
        clear hJ hsame hdep hcl hρ hsz
        go_simp
        intro hx
        exfalso
        have := HCK.out
        have hx := hx (by omega)
        omega
      · intro L a w' hL hsame hsz hJ hdep hcl
        have e0 : a.eval (.tmp 70) = (.pointer (some ⟨g, (k + 1) * 5, none⟩)) := eval_slot (j := 20) (by kernel_rfl) (hJ.all 20 (by decide) (dep_of hdep 20 (by kernel_rfl)) (by decide) (by decide))
        have e1 : a.eval (.tmp 68) = (.agg #[.int .i32 32, .int .i64 0, .int .i64 (PG.pn (f (k + 1))).1, .int .i64 (PG.pn (f (k + 1))).2.1, .int .i64 (PG.pn (f (k + 1))).2.2]) := eval_slot (j := 17) (by kernel_rfl) (hJ.all 17 (by decide) (dep_of hdep 17 (by kernel_rfl)) (by decide) (by decide))
        obtain ⟨v0, v1, v2, v3, v4, f0, f1, f2, f3, f4⟩ := hJ.put.five (k := (k + 1)) (by have := HCK.out; omega)
        refine Step.skip _ rfl (wanted_none rfl) (store5 w' g ((k + 1) * 5) (PG.blank (PG.pn (f (k + 1))))) (fun ρ hρ => ?_) (hJ.st21 hL HCK.out)
        rw [hρ] at e0 e1
        clear hJ hsame hdep hcl hρ hsz
        unfold store5 PG.blank
        go_simp
        rfl
      · intro L a w' hsame hsz hJ hall
        obtain ⟨u, hu, ha⟩ := act_puts hsame
        have h : RPut w R K n cp g cap A p (PG.parted f (k + 1)) w' := by
          have := hJ.put
          rw [hall 19 (by decide), hall 21 (by decide)] at this
          exact this.congr (fun j _ => HDN.out j)
        have h := hide h
        clear hJ hall hsz hu hsame
        subst ha
        change Exit.then _ _ Exit.normal (Act.put (Act.put (Act.put (Act.put (Act.put (Act.put (Act.put (Act.put (Act.put (Act.put (Act.put (Act.put (Act.put (Act.put (Act.put (Act.put (Act.put (Act.put (Act.put (Act.put (Act.put (Act.put (putAll _ u 0 _) (some 51) (u 0)) (some 52) (u 1)) (some 53) (u 2)) (some 54) (u 3)) (some 55) (u 4)) (some 56) (u 5)) (some 57) (u 6)) (some 58) (u 7)) (some 59) (u 8)) (some 60) (u 9)) (some 61) (u 10)) (some 62) (u 11)) (some 63) (u 12)) (some 64) (u 13)) (some 65) (u 14)) (some 66) (u 15)) (some 67) (u 16)) (some 68) (u 17)) (some 69) (u 18)) none (u 19)) (some 70) (u 20)) none (u 21)) _
        simp only [putAll]
        generalize u 0 = v0
        generalize u 1 = v1
        generalize u 2 = v2
        generalize u 3 = v3
        generalize u 4 = v4
        generalize u 5 = v5
        generalize u 6 = v6
        generalize u 7 = v7
        generalize u 8 = v8
        generalize u 9 = v9
        generalize u 10 = v10
        generalize u 11 = v11
        generalize u 12 = v12
        generalize u 13 = v13
        generalize u 14 = v14
        generalize u 15 = v15
        generalize u 16 = v16
        generalize u 17 = v17
        generalize u 18 = v18
        generalize u 19 = v19
        generalize u 20 = v20
        generalize u 21 = v21
        go_simp
        go_step
        go_meet
        exact h.out
  case rest =>
    rename World => w5
    have HC := hide hcut
    have HBC := hide hcut.2.2.2.2
    have gB : g < w5.heap.size := (hcut.2.2.2.1.lt g rfl).2
    clear hcut H4 hs4 hiff b hs1
    have LB := hide HBC.out.size
    go_upto_region 8 with (
      at_builtin
      go_must (refine wpList_appC rfl (.tmp 71) (.tmp 72) 22 rfl w5.heap.size 56 i0 _ 40 Tryd.underlying22 hi hz0 hz1 hz2 rfl (.slice (some ⟨w5.heap.size, 0, none⟩) 0 0) 0 [] rfl (own_lit5 (w := w5) (base := w5.heap.size) 56 rfl (Nat.le_refl _)) w5.heap.size (some ⟨g, 0, none⟩) K cap ((List.range K).map (PG.parted f c)) rfl ((SeenC.of_own HC.out.2.2.2.1).below ((Below.refl _ _).alloc (Nat.le_refl _) _)) (by omega) (by omega) (by rw [World.size_alloc]; omega) ?_)
      intro v6 w6 hown6 hg6 hm6
      simp only [Nat.zero_add, List.nil_append] at hown6
      obtain ⟨g2, cap2, rfl, hgb2, hgc2, hgm2⟩ := own_at hown6 g3
      have ba : Below w5.heap.size w5 (w5.alloc (.cells #[] 56)) := (Below.refl _ _).alloc (Nat.le_refl _) _
      have b6 := hide (ba.grown hg6 (by rw [World.size_alloc]; omega) (by rintro _ ⟨⟩; exact Nat.le_refl _))
      have H6 := hide (HC.out.call b6.out)
      have O6 := hide hown6
      have HG2 := hide hgb2
      clear hg6 hm6 ba HC hown6)
    have hne : g ≠ g2 := by have := HG2.out; omega
    have hwg : w.heap.size ≤ g2 := Nat.le_trans LB.out HG2.out
    have HNE := hide (And.intro hne hwg)
    clear hne hwg b6 gB
    go_wp2_with fail
    go_loopw [14] (fun i wr => ∃ k : Nat, c ≤ k ∧ k ≤ K ∧ i = .int .i64 k ∧ RPut w R K n cp g cap A p (PG.parted f c) wr ∧ wr.ownsRow w5.heap.size 56 5 (.slice (some ⟨g2, 0, none⟩) K cap2) K (ccells ((List.range K).map (PG.lpart f K c m p k)))) (fun i _ => K - (intOf i).toNat)
    case atStart => exact ⟨c, Nat.le_refl _, by omega, rfl, H6.out, by rw [List.map_congr_left (fun j _ => PG.lpart_start (f := f) (K := K) (c := c) (n := m) (p := p) j)]; exact O6.out⟩
    case round =>
      clear H6 O6
      obtain ⟨k, hck, hkK, rfl, H, ho⟩ := hrel
      obtain ⟨a0, a1, a2, _⟩ := H.1.three
      have l0 := H.1.lt
      by_cases hlt : k < K
      · obtain ⟨q0, q1, q2, _⟩ := H.2.1.three
        have H := hide H
        have ho := hide ho
        have HKK := hide hlt
        have HCK := hide hck
        go_upto_region 12 with fail
        go_cut [] from 81 to 104 (fun wx => RPut w R K n cp g cap A p (PG.parted f c) wx ∧ wx.ownsRow w5.heap.size 56 5 (.slice (some ⟨g2, 0, none⟩) K cap2) K (ccells ((List.range K).map (fun j => if j = k then PG.blank p else PG.lpart f K c m p k j))))
        case first =>
          clear a0 a1 a2
          go_wp2_with (
            go_at_call 95
            go_must (refine (BC.out p _).mono ?_)
            rintro e w7 ⟨rfl, b7⟩
            have H7 := H.out.call b7
            have o7 := own_low ho.out b7
            obtain ⟨v0, v1, v2, v3, v4, f0, f1, f2, f3, f4⟩ := own_five o7 (k := k) (PG.range_at HKK.out)
            have S := own_store5 o7 (k := k) (PG.blank p) HKK.out (by simp)
            have H8 := hide (H7.other o7 HNE.out.1 HNE.out.2 S.2)
            have S1 := S.1
            rw [range_set] at S1
            have S1 := hide S1
            clear b7 o7 S H7 H ho q0 q1 q2)
          go_meet
          exact ⟨H8.out, S1.out⟩
        case rest =>
        obtain ⟨H, ho⟩ := hcut
        obtain ⟨a0, a1, a2, _⟩ := H.1.three
        have l0 := H.1.lt
        have H := hide H
        have ho := hide ho
        by_cases hin : (c : Int) ≤ k - m ∧ (k : Int) - m < K
        · have HF := hide (show PG.shifted f K c m p k = PG.parted f c ((k : Int) - m).toNat by unfold PG.shifted; rw [if_neg (by omega), if_pos hin])
          have hfr : ((k : Int) - m).toNat < K := by omega
          obtain ⟨d0, d1, d2, d3, d4, _⟩ := H.out.five (k := ((k : Int) - m).toNat) hfr
          obtain ⟨v0, v1, v2, v3, v4, f0, f1, f2, f3, f4⟩ := own_five ho.out (k := k) (PG.range_at hlt)
          have S := own_store5 ho.out (k := k) (PG.parted f c ((k : Int) - m).toNat) hlt (by simp)
          have H8 := hide (H.out.other ho.out HNE.out.1 HNE.out.2 S.2)
          have S1 := S.1
          rw [range_set] at S1
          have S1 := hide S1
          obtain ⟨c1', c2'⟩ := hin
          have hlast := hide (show ∀ j, (if j = k then PG.parted f c ((k : Int) - m).toNat else if j = k then PG.blank p else PG.lpart f K c m p k j) = PG.lpart f K c m p (k + 1) j from fun j => by
            rw [← PG.lpart_next (f := f) (K := K) (c := c) (i := k) (n := m) (p := p) j, HF.out]
            by_cases e : j = k
            · rw [if_pos e, if_pos e]
            · rw [if_neg e, if_neg e, if_neg e])
          clear S H ho HF
          generalize PG.parted f c ((k : Int) - m).toNat = F at *
          go_wp2_with fail
          go_roundw
          case rel => exact ⟨k + 1, by omega, by omega, by go_num, H8.out, by rw [← List.map_congr_left (fun j _ => hlast.out j)]; exact S1.out⟩
          case measure => exact meas_in8 HKK.out
        · have HF := hide (show PG.shifted f K c m p k = PG.blank p by unfold PG.shifted; rw [if_neg (by omega), if_neg hin])
          have hlast := hide (show ∀ j, (if j = k then PG.blank p else PG.lpart f K c m p k j) = PG.lpart f K c m p (k + 1) j from fun j => by
            rw [← PG.lpart_next (f := f) (K := K) (c := c) (i := k) (n := m) (p := p) j, HF.out])
          have hcs : (k : Int) - m < c ∨ ((c : Int) ≤ k - m ∧ (K : Int) ≤ k - m) := by omega
          clear hin HF
          rcases hcs with c1' | ⟨c1', c2'⟩
          all_goals
            go_wp2_with fail
            go_roundw
            case rel => exact ⟨k + 1, by omega, by omega, by go_num, H.out, by rw [← List.map_congr_left (fun j _ => hlast.out j)]; exact ho.out⟩
            case measure => exact meas_in8 HKK.out
      · obtain rfl : k = K := by omega
        rw [List.map_congr_left (fun j hj => PG.lpart_end (f := f) (c := c) (n := m) (p := p) (List.mem_range.1 hj))] at ho
        obtain ⟨x0, x1, x2, -, hb⟩ := H
        have lb := hb.size
        have l1 := x1.lt
        clear hck hkK
        have hwl : ((List.range k).map (PG.shifted f k c m p)).length = k := by simp
        generalize (List.range k).map (PG.shifted f k c m p) = lw at ho FS hwl
        have MD := hide (fun w' (h : InReg wr w') => rmend_any k cap2 wr.heap.size (some ⟨g2, 0, none⟩) lw w' ((SeenC.of_own ho).below h) h.size g3 (by omega))
        have ST := hide (fun w' (h : InReg wr w') (A2 : Option Addr) (c2 : Nat) (h2 : SeenC w' w'.heap.size A2 k (mendL lw)) => FS.out w' (hb.trans (Below.mono h lb)) A2 c2 w'.heap.size h2 (Nat.le_refl _) (by have := h.size; omega))
        have R0 : ∀ w', Box w' w.heap.size 24 #[.int .i64 R, .int .i64 k, .slice A n cp] → w'.cell? ⟨w.heap.size, 0, none⟩ = some (.int .i64 R) := fun w' h => h.three.1
        have R1 : ∀ w', Box w' w.heap.size 24 #[.int .i64 R, .int .i64 k, .slice A n cp] → w'.cell? ⟨w.heap.size, 1, none⟩ = some (.int .i64 k) := fun w' h => h.three.2.1
        have R2 : ∀ w', Box w' w.heap.size 24 #[.int .i64 R, .int .i64 k, .slice A n cp] → w'.cell? ⟨w.heap.size, 2, none⟩ = some (.slice A n cp) := fun w' h => h.three.2.2.1
        have kb0 : Box wr.drew w.heap.size 24 #[.int .i64 R, .int .i64 k, .slice A n cp] := x0
        have X0 := hide x0
        have Q0 : ∀ w', InReg wr w' → w'.cell? ⟨w.heap.size + 1 + 1, 0, none⟩ = some (.int .i64 0) := fun w' h => (h.box x2).three.1
        have Q1 : ∀ w', InReg wr w' → w'.cell? ⟨w.heap.size + 1 + 1, 1, none⟩ = some (.int .i64 0) := fun w' h => (h.box x2).three.2.1
        have Q2 : ∀ w', InReg wr w' → w'.cell? ⟨w.heap.size + 1 + 1, 2, none⟩ = some (.slice none 0 0) := fun w' h => (h.box x2).three.2.2.1
        have Q3 : ∀ w', InReg wr w' → w'.frozen? ⟨w.heap.size + 1 + 1, 0, none⟩ = false := fun w' h => (h.box x2).three.2.2.2.1
        have Q4 : ∀ w', InReg wr w' → w'.frozen? ⟨w.heap.size + 1 + 1, 1, none⟩ = false := fun w' h => (h.box x2).three.2.2.2.2.1
        have Q5 : ∀ w', InReg wr w' → w'.frozen? ⟨w.heap.size + 1 + 1, 2, none⟩ = false := fun w' h => (h.box x2).three.2.2.2.2.2
        have X2 := hide x2
        have HB := hide hb
        have hd0 : InReg wr wr.drew := (InReg.refl _).drew
        have hX := Lib.hid hd0
        have hbx := kb0
        have hby := kb0
        clear FS BC ho x0 x1 x2 hb
        go_wp2_with fail
        clear a0 a1 a2
        go_region_held_law (fun w' => Box w' w.heap.size 24 #[.int .i64 R, .int .i64 k, .slice A n cp]) (first | with_reducible exact kb0 | with_reducible exact hbx | with_reducible exact hby)
          (first
            | (go_at_call 100; refine (MD.out _ (by assumption)).mono ?_; rintro e wm ⟨vm, rfl, om, bm⟩; obtain ⟨Am, cm, rfl, _⟩ := own_form' om; have sm := SeenC.of_own om; have hX := Lib.hid (InReg.call (show InReg wr _ from by assumption) bm); have hbx := hX.out.box X0.out)
            | (go_at_call 67; refine (ST.out _ hX.out _ _ sm).mono ?_; rintro e ws ⟨vs, rfl, os, bs⟩; obtain ⟨As, cs, rfl, _⟩ := own_form' os; have hX := Lib.hid (InReg.call hX.out bs); have hbx := hX.out.box X0.out; have hby := ((hbx.far (p := ⟨w.heap.size + 1 + 1, 0, none⟩) (by show w.heap.size ≠ w.heap.size + 1 + 1; omega) (.int .i64 R)).far (p := ⟨w.heap.size + 1 + 1, 1, none⟩) (by show w.heap.size ≠ w.heap.size + 1 + 1; omega) (.int .i64 k)).far (p := ⟨w.heap.size + 1 + 1, 2, none⟩) (by show w.heap.size ≠ w.heap.size + 1 + 1; omega) (.slice As out.length cs); have j0 := Q0 _ hX.out; have j1 := Q1 _ hX.out; have j2 := Q2 _ hX.out; have j3 := Q3 _ hX.out; have j4 := Q4 _ hX.out; have j5 := Q5 _ hX.out))
        have xr := hX.out.box X2.out
        have Z := xr.set3 (.int .i64 R) (.int .i64 k) (.slice As out.length cs)
        have m' := own_ne_box os xr (by decide)
        have O := own_base' (ownsRow_setCell_other (ownsRow_setCell_other (ownsRow_setCell_other os (a := ⟨w.heap.size + 1 + 1, 0, none⟩) m' (.int .i64 R)) (a := ⟨w.heap.size + 1 + 1, 1, none⟩) m' (.int .i64 k)) (a := ⟨w.heap.size + 1 + 1, 2, none⟩) m' (.slice As out.length cs)) (Nat.le_trans lb bm.size)
        have bz := below_set3 (HB.out.trans (Below.mono hX.out lb)) (show w.heap.size ≤ w.heap.size + 1 + 1 by omega) (.int .i64 R) (.int .i64 k) (.slice As out.length cs)
        obtain ⟨e0, e1, e2, _⟩ := Z.three
        have O := hide O
        have bz := hide bz
        clear R0 R1 R2 Q0 Q1 Q2 Q3 Q4 Q5 j0 j1 j2 j3 j4 j5 hbx hby MD ST os om bm bs
        go_wp2_with fail
        refine bodyPost_ret (v := .agg #[.int .i64 R, .int .i64 k, .slice As out.length cs]) (by simp [results, Tryd.results81, go_sem, e0, e1, e2]) rfl ⟨_, rfl, O.out, bz.out⟩
end Go.Proofs.YtbhnipepbckalaaDoor
set_option maxRecDepth 100000
namespace Go.Proofs.YtbhnipepbckalaaDoor
open Go.RowKit
set_option linter.unusedVariables false
set_option maxHeartbeats 4000000 in
theorem rshift_not (R K n cp : Nat) (r c m : Int) (p : PG.Pn) (A : Option Addr) (w : World) (ho : ¬ (0 ≤ r ∧ r < R ∧ 0 ≤ c ∧ c < K)) :
    Calls Tryd.prog 81 #[gv R K (.slice A n cp), .int .i64 r, .int .i64 c, .int .i64 m, pv p] w fun e w' => e = .returned (gv R K (.slice A n cp)) ∧ Below w.heap.size w w' := by
  have cs : r < 0 ∨ (0 ≤ r ∧ (R : Int) ≤ r) ∨ (0 ≤ r ∧ r < R ∧ c < 0) ∨ (0 ≤ r ∧ r < R ∧ 0 ≤ c ∧ (K : Int) ≤ c) := by omega
  clear ho
  unfold gv pv
  rcases cs with h | ⟨h, h'⟩ | ⟨h, h', h''⟩ | ⟨h, h', h'', h3⟩
  all_goals
    go_enter Tryd.func81, Tryd.ntmps81
    go_wp2_with fail
    refine bodyPost_ret (v := .agg #[.int .i64 R, .int .i64 K, .slice A n cp]) (by simp [results, Tryd.results81, go_sem]) rfl ⟨rfl, ?_⟩
    exact (((Below.refl _ _).alloc (Nat.le_refl _) _).alloc (by simp) _).alloc (by simp; omega) _
theorem r_shift {G : PG.Gr} {v : Value} {w : World} (hG : PG.RightG G) (h : IsG w G v) (r c m : Int) (p : PG.Pn) (hm : -100000 ≤ m ∧ m ≤ 100000) :
    Calls Tryd.prog 81 #[v, .int .i64 r, .int .i64 c, .int .i64 m, pv p] w (GotG w (PG.shiftI G r c m p)) := by
  obtain ⟨A, cp, rfl, hl, h1, h2⟩ := h.open_
  by_cases hi : 0 ≤ r ∧ r < G.rows ∧ 0 ≤ c ∧ c < G.cols
  · obtain ⟨q, rfl⟩ := Int.eq_ofNat_of_zero_le hi.1
    obtain ⟨k, rfl⟩ := Int.eq_ofNat_of_zero_le hi.2.2.1
    have e : PG.shiftI G q k m p = PG.shiftG G q k m p := by unfold PG.shiftI; rw [if_pos (by omega)]; rfl
    rw [e]
    refine (rshift_t G _ cp w.heap.size q k m p A w hl (Nat.le_refl _) rfl h1 h2 (by omega) hG.2.1 (by omega) hG.2.2.2.1 hm).mono fun e w' hm => ?_
    exact got_gave hm rfl (PG.shift_size ..).1 (PG.shift_size ..).2
  · rw [PG.shiftI_out hi]
    refine (rshift_not G.rows G.cols _ cp r c m p A w hi).mono ?_
    rintro e w' ⟨rfl, b⟩
    exact ⟨_, rfl, h.low b, b⟩
set_option maxHeartbeats 4000000 in
theorem rscroll_not (R K n cp : Nat) (t b m : Int) (p : PG.Pn) (A : Option Addr) (w : World) (ho : ¬ (0 ≤ t ∧ t ≤ b ∧ b < R)) :
    Calls Tryd.prog 43 #[gv R K (.slice A n cp), .int .i64 t, .int .i64 b, .int .i64 m, pv p] w fun e w' => e = .returned (gv R K (.slice A n cp)) ∧ Below w.heap.size w w' := by
  have cs : t < 0 ∨ (0 ≤ t ∧ (R : Int) ≤ b) ∨ (0 ≤ t ∧ b < R ∧ b < t) := by omega
  clear ho
  unfold gv pv
  rcases cs with h | ⟨h, h'⟩ | ⟨h, h', h''⟩
  all_goals
    go_enter Tryd.func43, Tryd.ntmps43
    go_wp2_with fail
    refine bodyPost_ret (v := .agg #[.int .i64 R, .int .i64 K, .slice A n cp]) (by simp [results, Tryd.results43, go_sem]) rfl ⟨rfl, ?_⟩
    exact (((Below.refl _ _).alloc (Nat.le_refl _) _).alloc (by simp) _).alloc (by simp; omega) _
theorem r_scroll {G : PG.Gr} {v : Value} {w : World} (hG : PG.RightG G) (h : IsG w G v) (t b m : Int) (p : PG.Pn) (hm : -100000 ≤ m ∧ m ≤ 100000) :
    Calls Tryd.prog 43 #[v, .int .i64 t, .int .i64 b, .int .i64 m, pv p] w (GotG w (PG.scrollI G t b m p)) := by
  obtain ⟨A, cp, rfl, hl, h1, h2⟩ := h.open_
  by_cases hi : 0 ≤ t ∧ t ≤ b ∧ b < G.rows
  · obtain ⟨q, rfl⟩ := Int.eq_ofNat_of_zero_le hi.1
    obtain ⟨k, rfl⟩ := Int.eq_ofNat_of_zero_le (show 0 ≤ b by omega)
    have e : PG.scrollI G q k m p = PG.scrollG G q k m p := by unfold PG.scrollI; rw [if_pos (by omega)]; rfl
    rw [e]
    refine (rscroll_t G _ cp w.heap.size q k m p A w hl (Nat.le_refl _) rfl h1 h2 (by omega) (by omega) hG.2.1 hG.2.2.1 hG.2.2.2.1 hm).mono fun e w' hm => ?_
    exact got_gave hm rfl (PG.scroll_size ..).1 (PG.scroll_size ..).2
  · rw [PG.scrollI_out hi]
    refine (rscroll_not G.rows G.cols _ cp t b m p A w hi).mono ?_
    rintro e w' ⟨rfl, b⟩
    exact ⟨_, rfl, h.low b, b⟩
end Go.Proofs.YtbhnipepbckalaaDoor
