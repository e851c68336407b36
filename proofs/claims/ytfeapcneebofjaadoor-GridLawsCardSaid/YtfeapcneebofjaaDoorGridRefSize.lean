/- The contract of the document's own Resize. -/
import Derived.Test.YtfeapcneebofjaaDoorGridRefNot
set_option maxRecDepth 100000
namespace Go.Proofs.YtfeapcneebofjaaDoor
open Go.RowKit
set_option linter.unusedVariables false
namespace PG
theorem halfR_row {g : Gr} {R K k : Nat} (hk : k < R) : ((cells (halfR g R K k)).drop (k * K)).take K = (List.range K).map (fun _ => blank plain) := by
  have h := row_cut (g := halfR g R K k) (r := k) hk
  rw [show (halfR g R K k).cols = K from rfl] at h
  rw [h]
  refine List.map_congr_left fun j _ => ?_
  show (if k < k then _ else blank plain) = blank plain
  rw [if_neg (Nat.lt_irrefl k)]
theorem halfR_next {g : Gr} {R K k : Nat} (hk : k < R) : spl (cells (halfR g R K k)) (k * K) (mendL ((List.range K).map (under g k))) = cells (halfR g R K (k + 1)) := by
  rw [mendL_range]
  have e3 := spl_cells (g := halfR g R K k) (r := k) (m := (List.range K).map (mend (under g k) K)) (h := mend (under g k) K) hk (by simp; rfl) (fun j hj => range_at hj)
  rw [show (halfR g R K k).cols = K from rfl] at e3
  rw [e3]
  refine cells_ext ⟨rfl, rfl, fun i j hi hj => ?_⟩
  show (if i = k then mend (under g k) K j else if i < k then mend (under g i) K j else blank plain) = if i < k + 1 then mend (under g i) K j else blank plain
  by_cases e : i = k
  · subst e
    rw [if_pos rfl, if_pos (by omega)]
  · rw [if_neg e]
    by_cases h : i < k
    · rw [if_pos h, if_pos (by omega)]
    · rw [if_neg h, if_neg (by omega)]
theorem halfR_stop {g : Gr} {R K k : Nat} (hk : k = R ∨ k = g.rows) : cells (halfR g R K k) = cells (resizeG g R K) := by
  refine cells_ext ⟨rfl, rfl, fun i j hi hj => ?_⟩
  have hi : i < R := hi
  show (if i < k then mend (under g i) K j else blank plain) = mend (under g i) K j
  by_cases h : i < k
  · rw [if_pos h]
  · rw [if_neg h]
    have hg : g.rows ≤ i := by omega
    have hu : ∀ m, under g i m = blank plain := fun m => by unfold under; rw [if_neg (by omega)]
    unfold mend
    rw [hu j, if_neg]
    rw [kd_blank]
    omega
end PG
/-- the first c cells of a row taken over -/
def part (f : Nat → PG.Cl) (c j : Nat) : PG.Cl := if j < c then f j else PG.blank PG.plain
theorem part_set (f : Nat → PG.Cl) (n c : Nat) : ((List.range n).map (part f c)).set c (f c) = (List.range n).map (part f (c + 1)) := by
  rw [range_set]
  refine List.map_congr_left fun j _ => ?_
  unfold part
  by_cases e : j = c
  · subst e
    rw [if_pos rfl, if_pos (by omega)]
  · rw [if_neg e]
    by_cases h : j < c
    · rw [if_pos h, if_pos (by omega)]
    · rw [if_neg h, if_neg (by omega)]
theorem part_zero (f : Nat → PG.Cl) (n : Nat) : (List.range n).map (part f 0) = (List.range n).map (fun _ => PG.blank PG.plain) := List.map_congr_left fun j _ => if_neg (Nat.not_lt_zero j)
theorem part_all (G : PG.Gr) {k K : Nat} (hk : k < G.rows) : (List.range K).map (part (G.f k) (min K G.cols)) = (List.range K).map (PG.under G k) := List.map_congr_left fun j hj => by
  have hj := List.mem_range.1 hj
  unfold part PG.under
  by_cases h : j < G.cols
  · rw [if_pos (by omega), if_pos ⟨hk, h⟩]
  · rw [if_neg (by omega), if_neg (fun x => h x.2)]
/-- where the document's Resize stands between its rounds -/
structure RSize (w : World) (G : PG.Gr) (n cp R K N gt k : Nat) (ad : Addr) (v : Value) (wx : World) : Prop where
  box0 : Box wx w.heap.size 26 #[.int .i64 G.rows, .int .i64 G.cols, .slice (some ad) n cp]
  box1 : Box wx (w.heap.size + 1) 26 #[.int .i64 0, .int .i64 0, .slice none 0 0]
  boxT : Box wx gt 26 #[.int .i64 R, .int .i64 K, v]
  own : wx.ownsRow w.heap.size 32 5 v N (ccells (PG.cells (PG.halfR G R K k)))
  below : Below w.heap.size w wx
theorem RSize.call {w wx wy : World} {G : PG.Gr} {n cp R K N gt k : Nat} {ad : Addr} {v : Value} (h : RSize w G n cp R K N gt k ad v wx) (b : Below wx.heap.size wx wy) : RSize w G n cp R K N gt k ad v wy :=
  ⟨h.box0.below b h.box0.lt, h.box1.below b h.box1.lt, h.boxT.below b h.boxT.lt, own_low h.own b, h.below.trans (b.mono h.below.size)⟩
theorem RSize.grown {w wx wy : World} {G : PG.Gr} {n cp R K N gt k : Nat} {ad : Addr} {v : Value} (h : RSize w G n cp R K N gt k ad v wx) {g' n' m : Nat} {v' : Value} {xs : List Value} (o : wx.ownsRow m 32 5 v' n' xs) (hv : v'.ownBlock = some g') (hne : v.ownBlock ≠ some g') (hm : w.heap.size ≤ g') (b : wx.grownBy wy (some g')) : RSize w G n cp R K N gt k ad v wy :=
  ⟨h.box0.grown b (fun e => own_ne_box o h.box0 (by decide) (hv.trans e.symm)), h.box1.grown b (fun e => own_ne_box o h.box1 (by decide) (hv.trans e.symm)), h.boxT.grown b (fun e => own_ne_box o h.boxT (by decide) (hv.trans e.symm)),
    own_kept h.own (Kept.of_grown b) (fun q hq hm => hne (by simp at hm; rw [hq, hm])), h.below.grown b h.below.size (by rintro _ ⟨⟩; exact hm)⟩
set_option maxHeartbeats 8000000 in
theorem rresize_any (G : PG.Gr) (n cp B R K : Nat) (A : Option Addr) (w : World) (hl : SeenC w B A n (PG.cells G)) (hB : B ≤ w.heap.size) (hn : n = G.rows * G.cols) (hnc : n ≤ cp) (hcp : cp ≤ maxLen) (g1 : 1 ≤ G.rows) (g2 : G.rows ≤ 40) (g3 : 1 ≤ G.cols) (g4 : G.cols ≤ 60)
    (r1 : 1 ≤ R) (r2 : R ≤ 40) (k1 : 1 ≤ K) (k2 : K ≤ 60) :
    Calls Tryd.prog 19 #[gv G.rows G.cols (.slice A n cp), .int .i64 R, .int .i64 K] w (GaveG w R K (PG.cells (PG.resizeG G R K))) := by
  obtain ⟨i0, hi, hz0, hz1, hz2⟩ := info_parts info_cell
  have hN1 : 1 ≤ R * K := Nat.mul_le_mul r1 k1
  have hN2 : R * K ≤ 2400 := Nat.mul_le_mul r2 k2
  have hnn : 1 ≤ n := by rw [hn]; exact Nat.mul_le_mul g1 g3
  obtain ⟨c0, hc0'⟩ : ∃ c0, (PG.cells G)[0]? = some c0 := ⟨_, List.getElem?_eq_getElem (by rw [PG.cells_len]; omega)⟩
  obtain ⟨ad, rfl, hadB, _⟩ := hl.at_ hc0'
  clear hc0'
  have PL := hide (fun w' => rplain_any w')
  have NW := hide (fun w' => rnew_any R K PG.plain w' r2 k2)
  -- the other grid's row
  have RG : ∀ (w' : World) (k : Nat), Below w.heap.size w w' → k < G.rows → Calls Tryd.prog 36 #[gv G.rows G.cols (.slice (some ad) n cp), .int .i64 k] w' fun e w'' => ∃ A' c', e = .returned (.slice A' G.cols c') ∧ G.cols ≤ c' ∧ SeenC w'' w.heap.size A' G.cols ((List.range G.cols).map (G.f k)) ∧ Below w'.heap.size w' w'' := fun w' k hb hk => by
    have h := rrow_any G.rows G.cols k n cp B (some ad) (PG.cells G) w' (hl.below (hb.mono hB)) hn hnc hcp hk g2 g4
    rw [PG.row_cut hk] at h
    refine h.mono ?_
    rintro e w'' ⟨⟨A', c', rfl, hs, h1, h2⟩, bb⟩
    exact ⟨A', c', rfl, h1, (hs.below (bb.mono (Nat.le_trans hB hb.size))).more hB, bb⟩
  have RG := hide RG
  -- the row of what is made
  have RO : ∀ (w' : World) (k c' : Nat) (A' : Option Addr), k < R → SeenC w' w'.heap.size A' (R * K) (PG.cells (PG.halfR G R K k)) → R * K ≤ c' → c' ≤ maxLen →
      Calls Tryd.prog 36 #[gv R K (.slice A' (R * K) c'), .int .i64 k] w' fun e w'' => (∃ A2 c2, e = .returned (.slice A2 K c2) ∧ K ≤ c2 ∧ SeenC w'' w'.heap.size A2 K ((List.range K).map (fun _ => PG.blank PG.plain))) ∧ Below w'.heap.size w' w'' := fun w' k c' A' hk h h1 h2 => by
    have h := rrow_any R K k (R * K) c' w'.heap.size A' _ w' h rfl h1 h2 hk r2 k2
    rw [PG.halfR_row hk] at h
    refine h.mono ?_
    rintro e w'' ⟨⟨A2, c2, rfl, hs, h3, h4⟩, bb⟩
    exact ⟨⟨A2, c2, rfl, h3, hs.below bb⟩, bb⟩
  have RO := hide RO
  have MD := hide (fun (w' : World) (B' : Nat) (A' : Option Addr) (c' k : Nat) (h : SeenC w' B' A' K ((List.range K).map (PG.under G k))) (hB' : B' ≤ w'.heap.size) => rmend_any K c' B' A' _ w' h hB' (by omega) (by omega))
  have ST : ∀ (w' : World) (k c' c2 : Nat) (A' A2 : Option Addr), k < R → SeenC w' w'.heap.size A' (R * K) (PG.cells (PG.halfR G R K k)) → SeenC w' w'.heap.size A2 K (mendL ((List.range K).map (PG.under G k))) →
      Calls Tryd.prog 37 #[gv R K (.slice A' (R * K) c'), .int .i64 k, .slice A2 K c2] w' fun e w'' => ∃ vs, e = .returned (gv R K vs) ∧ w''.ownsRow w'.heap.size 32 5 vs (R * K) (ccells (PG.cells (PG.halfR G R K (k + 1)))) ∧ Below w'.heap.size w' w'' := fun w' k c' c2 A' A2 hk h1 h2 => by
    have h := rset_any R K k (R * K) c' K c2 w'.heap.size A' A2 _ _ w' h1 h2 (Nat.le_refl _) rfl hk (Nat.le_refl _) r2 k1 k2
    rw [PG.halfR_next hk] at h
    refine h.mono ?_
    rintro e w'' ⟨vs, rfl, o, bb⟩
    rw [PG.cells_len, show (PG.halfR G R K (k + 1)).rows * (PG.halfR G R K (k + 1)).cols = R * K from rfl] at o
    exact ⟨vs, rfl, o, bb⟩
  have ST := hide ST
  have R0 := hide (PG.halfR_zero G R K)
  have RS := hide (fun k (hk : k = R ∨ k = G.rows) => PG.halfR_stop (g := G) (R := R) (K := K) hk)
  have PA := hide (fun k (hk : k < G.rows) => part_all G (K := K) hk)
  obtain ⟨M, hM⟩ : ∃ M, min R G.rows = M := ⟨_, rfl⟩
  obtain ⟨Q, hQ⟩ : ∃ Q, min K G.cols = Q := ⟨_, rfl⟩
  have m1 : (if G.rows < R then (G.rows : Int) else (R : Int)) = (M : Int) := by split <;> omega
  have q1 : (if G.cols < K then (G.cols : Int) else (K : Int)) = (Q : Int) := by split <;> omega
  have hM1 : M ≤ R ∧ M ≤ G.rows ∧ (M = R ∨ M = G.rows) := by omega
  have hQ1 : Q ≤ K ∧ Q ≤ G.cols := by omega
  have hQ := hide hQ
  unfold gv at *
  unfold GaveG pv PG.plain at *
  unfold gv at *
  generalize hNN : R * K = N at *
  have hNN := hide hNN
  clear hl hn hM hnc hcp
  go_enter Tryd.func19, Tryd.ntmps19
  go_wp2_with (first
    | (go_at_call 26
       go_must (refine (PL.out _).mono ?_)
       rintro e w1 ⟨rfl, h1⟩
       have b1 := (((Below.refl w.heap.size w).alloc (Nat.le_refl _) (.cells #[.int .i64 G.rows, .int .i64 G.cols, .slice (some ad) n cp] 26)).alloc (by simp) (.cells #[.int .i64 0, .int .i64 0, .slice none 0 0] 26)).trans (h1.mono (by simp; omega))
       have x0 := ((Box.new w 26 #[.int .i64 G.rows, .int .i64 G.cols, .slice (some ad) n cp]).alloc (.cells #[.int .i64 0, .int .i64 0, .slice none 0 0] 26)).below h1 (by simp; omega)
       have x1 := (Box.new (w.alloc (.cells #[.int .i64 G.rows, .int .i64 G.cols, .slice (some ad) n cp] 26)) 26 #[.int .i64 0, .int .i64 0, .slice none 0 0]).below h1 (by simp)
       rw [World.size_alloc] at x1
       have b1 := hide b1
       have x0 := hide x0
       have x1 := hide x1
       clear h1 PL)
    | (go_at_call 14
       go_must (refine (NW.out _).mono ?_)
       rintro e w2 ⟨v2, rfl, o2, b2⟩
       have x0 := x0.out.below b2 x0.out.lt
       have x1 := x1.out.below b2 x1.out.lt
       have o2 := own_base' o2 b1.out.size
       rw [List.length_replicate] at o2
       have bb := b1.out.trans (b2.mono b1.out.size)
       have hs2 := bb.size
       obtain ⟨Av, cv, rfl, _⟩ := own_form' o2
       have RS0 : RSize w G n cp R K N w2.heap.size 0 ad (.slice Av N cv) (w2.alloc (.cells #[.int .i64 R, .int .i64 K, .slice Av N cv] 26)) := ⟨x0.alloc _, x1.alloc _, Box.new w2 _ _, by rw [R0.out]; exact o2.alloc _, bb.alloc hs2 _⟩
       have RS0 := hide RS0
       have lt2 := Nat.le_trans x1.lt (Nat.le_refl _)
       clear b1 b2 bb x0 x1 o2 NW))
  go_loopw [8] (fun i wr => ∃ (k : Nat) (v : Value), k ≤ M ∧ i = .int .i64 k ∧ RSize w G n cp R K N w2.heap.size k ad v wr) (fun i _ => M - (intOf i).toNat)
  case atStart => exact ⟨0, _, Nat.zero_le _, rfl, RS0.out⟩
  case round =>
    clear RS0
    obtain ⟨k, v, hk, rfl, H⟩ := hrel
    obtain ⟨a0, a1, a2, _⟩ := H.box0.three
    obtain ⟨t0, t1, t2, _⟩ := H.boxT.three
    obtain ⟨Aw, cw, rfl, hcw, hcm, hblk⟩ := own_form' H.own
    have l0 := H.box0.lt
    have l1 := H.box1.lt
    have lT := H.boxT.lt
    have lb := H.below.size
    by_cases hlt : k < M
    · have H := hide H
      have hblk := hide hblk
      go_wp2_with (first
        | (go_at_call 36
           go_must (refine (RO.out _ k _ _ (by omega) (((SeenC.of_own H.out.own).below ((Below.refl _ _).alloc (Nat.le_refl _) _)).more (by simp)) hcw hcm).mono ?_)
           rintro e w3 ⟨⟨A3, c3, rfl, hc3, hs3⟩, b3⟩
           have OL := hide (own_low (own_lit5 (w := wr) (base := wr.heap.size) 32 rfl (Nat.le_refl _)) b3)
           have b3' : Below wr.heap.size wr w3 := ((Below.refl _ _).alloc (Nat.le_refl _) _).trans (b3.mono (by simp))
           have hs3 := hide hs3
           clear b3)
        | (at_builtin
           go_must (refine wpList_appC rfl (.tmp 23) (.tmp 26) 24 rfl wr.heap.size 32 i0 _ 40 Tryd.underlying24 hi hz0 hz1 hz2 rfl (.slice (some ⟨wr.heap.size, 0, none⟩) 0 0) 0 [] rfl OL.out _ A3 K c3 ((List.range K).map (fun _ => PG.blank PG.plain)) rfl hs3.out (by omega) (by omega) b3'.size ?_)
           intro v4 w4 hown4 hg4 hm4
           simp only [Nat.zero_add, List.nil_append] at hown4
           obtain ⟨gl, capl, rfl, hgb, hgc, hgm⟩ := own_at hown4 k1
           have H3 := H.out.call b3'
           have H4 : RSize w G n cp R K N w2.heap.size k ad (.slice Aw N cw) w4 := by
             have hne : some wr.heap.size ≠ (Value.slice Aw N cw).ownBlock := fun e => by have := (hblk.out _ e.symm).2; omega
             exact ⟨H3.box0.grown hg4 (by simp [Value.ownBlock]; omega), H3.box1.grown hg4 (by simp [Value.ownBlock]; omega), H3.boxT.grown hg4 (by simp [Value.ownBlock]; omega), own_kept H3.own (Kept.of_grown hg4) (fun q hq hm => hne (by simp [Value.ownBlock] at hm; rw [hq, hm])), H3.below.grown hg4 H3.below.size (by rintro _ ⟨⟩; exact lb)⟩
           rw [← part_zero (G.f k) K] at hown4
           have H4 := hide H4
           have hown4 := hide hown4
           clear hg4 hm4 b3' OL hs3 H H3 a0 a1 a2 t0 t1 t2))
      have lw : wr.heap.size ≤ w4.heap.size := by have := (hown4.out.lt gl rfl).2; omega
      go_loopw [10] (fun i wi => ∃ c : Nat, c ≤ Q ∧ i = .int .i64 c ∧ RSize w G n cp R K N w2.heap.size k ad (.slice Aw N cw) wi ∧ wi.ownsRow wr.heap.size 32 5 (.slice (some ⟨gl, 0, none⟩) K capl) K (ccells ((List.range K).map (part (G.f k) c)))) (fun i _ => Q - (intOf i).toNat)
      case atStart => exact ⟨0, Nat.zero_le _, rfl, H4.out, hown4.out⟩
      case round =>
        clear H4 hown4
        obtain ⟨c, hc, rfl, H, ho⟩ := hrel
        obtain ⟨a0, a1, a2, _⟩ := H.box0.three
        have lO0 := H.box0.lt
        have lO1 := H.box1.lt
        have lOT := H.boxT.lt
        rename World => wi
        by_cases hlc : c < Q
        · have HF := hide (PG.range_at (f := G.f k) (show c < G.cols by omega))
          have hpart := hide (part_set (G.f k) K c)
          have H := hide H
          have ho := hide ho
          generalize G.f k c = F at *
          go_wp2_with (
            go_at_call 36
            go_must (refine (RG.out _ k H.out.below (by omega)).mono ?_)
            rintro e w5 ⟨A5, c5, rfl, hc5, hs5, b5⟩
            obtain ⟨ad5, rfl, had5, d0, d1, d2, d3, d4⟩ := hs5.five HF.out
            have o5 := own_low ho.out b5
            have H5 := H.out.call b5
            obtain ⟨v0, v1, v2, v3, v4, f0, f1, f2, f3, f4⟩ := own_five o5 (k := c) (PG.range_at (show c < K by omega))
            have S := own_store5 o5 (k := c) F (by omega) (by simp)
            have hne : (Value.slice Aw N cw).ownBlock ≠ some gl := fun e => by have := (hblk.out _ e).2; omega
            have H6 := hide (H5.grown (g' := gl) o5 rfl hne (by omega) S.2)
            have S1 := S.1
            rw [hpart.out] at S1
            have S1 := hide S1
            clear hs5 b5 o5 H5 S hne H ho a0 a1 a2)
          go_roundw
          case rel => exact ⟨c + 1, by omega, by go_num, H6.out, S1.out⟩
          case measure => simp [intOf]; omega
        · obtain rfl : c = Q := by omega
          rw [← hQ.out, PA.out k (by omega)] at ho
          obtain ⟨t0, t1, t2, _⟩ := H.boxT.three
          have hsz := hide H.below.size
          have HD : RSize w G n cp R K N w2.heap.size k ad (.slice Aw N cw) wi.drew := ⟨H.box0, H.box1, H.boxT, H.own, H.below.drew⟩
          have HD := hide HD
          have SD := hide (show SeenC wi.drew wi.drew.heap.size (some ⟨gl, 0, none⟩) K ((List.range K).map (PG.under G k)) from SeenC.of_own ho)
          clear H ho
          go_wp2_with fail
          clear a0 a1 a2
          go_region_law (first
            | (go_simp; go_at_call 38; refine (MD.out _ _ _ capl k SD.out (Nat.le_refl _)).mono ?_; rintro e wm ⟨vm, rfl, om, bm⟩
               (obtain ⟨Am, cm, rfl, _⟩ := own_form' om)
               have Hm := hide (HD.out.call bm)
               have sm := hide (SeenC.of_own om)
               obtain ⟨t0m, t1m, t2m, _⟩ := Hm.out.boxT.three)
            | (go_simp; go_at_call 37; refine (ST.out _ k _ _ _ _ (by omega) (SeenC.of_own Hm.out.own) sm.out).mono ?_; rintro e ws ⟨vs, rfl, os, bs⟩
               (obtain ⟨As, cs, rfl, _⟩ := own_form' os)
               have Hs := Hm.out.call bs
               obtain ⟨t0s, t1s, t2s, f0s, f1s, f2s⟩ := Hs.boxT.three))
          all_goals
            have nT := own_ne_box os Hs.boxT (by decide)
            have hne0 : w.heap.size ≠ w2.heap.size := by omega
            have hne1 : w.heap.size + 1 ≠ w2.heap.size := by omega
            have hws : w.heap.size ≤ wm.heap.size := Hm.out.below.size
            have HN : RSize w G n cp R K N w2.heap.size (k + 1) ad (.slice As N cs) (((ws.setCell ⟨w2.heap.size, 0, none⟩ (.int .i64 R)).setCell ⟨w2.heap.size, 1, none⟩ (.int .i64 K)).setCell ⟨w2.heap.size, 2, none⟩ (.slice As N cs)) :=
              ⟨Hs.box0.far3 hne0 _ _ _, Hs.box1.far3 hne1 _ _ _, Hs.boxT.set3 _ _ _, own_base' (ownsRow_setCell_other (ownsRow_setCell_other (ownsRow_setCell_other os (a := ⟨w2.heap.size, 0, none⟩) nT _) (a := ⟨w2.heap.size, 1, none⟩) nT _) (a := ⟨w2.heap.size, 2, none⟩) nT _) hws, below_set3 Hs.below (by omega) _ _ _⟩
            have HN := hide HN
            clear HD SD Hm sm om bm os bs Hs nT t0 t1 t2 t0m t1m t2m t0s t1s t2s f0s f1s f2s
            go_wp2_with fail
            go_roundw
            case rel => exact ⟨k + 1, _, by omega, by go_num, HN.out⟩
            case measure => simp [intOf]; omega
    · obtain rfl : k = M := by omega
      have ho := H.own
      rw [RS.out k hM1.2.2] at ho
      have x1 := H.box1
      have hb := H.below
      have n1 := own_ne_box ho x1 (by decide)
      have X := x1.set3 (.int .i64 R) (.int .i64 K) (.slice Aw N cw)
      have O := ownsRow_setCell_other (ownsRow_setCell_other (ownsRow_setCell_other ho (a := ⟨w.heap.size + 1, 0, none⟩) n1 (.int .i64 R)) (a := ⟨w.heap.size + 1, 1, none⟩) n1 (.int .i64 K)) (a := ⟨w.heap.size + 1, 2, none⟩) n1 (.slice Aw N cw)
      have bz := below_set3 hb (show w.heap.size ≤ w.heap.size + 1 by omega) (.int .i64 R) (.int .i64 K) (.slice Aw N cw)
      obtain ⟨j0, j1, j2, _⟩ := X.three
      obtain ⟨q0, q1, q2, q3, q4, q5⟩ := x1.three
      have O := hide O
      have bz := hide bz
      have hlenR := hide (PG.cells_len (PG.resizeG G R K))
      clear ho RO RG ST MD PA RS H x1 hb
      go_wp2_with fail
      refine bodyPost_ret (v := .agg #[.int .i64 R, .int .i64 K, .slice Aw N cw]) (by simp [results, Tryd.results19, go_sem, j0, j1, j2]) rfl ⟨_, rfl, ?_, bz.out⟩
      rw [hlenR.out]
      have e : (PG.resizeG G R K).rows * (PG.resizeG G R K).cols = N := hNN.out
      rw [e]
      exact O.out
end Go.Proofs.YtfeapcneebofjaaDoor
