/- The contract of the document's own Put, where x stands then. -/
import Derived.Test.YtfeapcneebofjaaDoorGridPure
import Derived.Test.YtfeapcneebofjaaDoorGridRefNew
import Derived.Test.YtfeapcneebofjaaDoorRefWidth
import Derived.Deep.DeepCutAuto
set_option maxRecDepth 100000
namespace Go.Proofs.YtfeapcneebofjaaDoor
open Go.RowKit
set_option linter.unusedVariables false
theorem range_set {n k : Nat} (h : Nat → PG.Cl) (v : PG.Cl) : ((List.range n).map h).set k v = (List.range n).map (fun j => if j = k then v else h j) := by
  refine List.ext_getElem? fun j => ?_
  by_cases hj : j < n
  · by_cases e : j = k
    · subst e
      rw [List.getElem?_set_self (by simpa using hj), PG.range_at hj, if_pos rfl]
    · rw [List.getElem?_set_ne (by omega), PG.range_at hj, PG.range_at hj, if_neg e]
  · rw [List.getElem?_eq_none (by rw [List.length_set]; simp; omega), List.getElem?_eq_none (by simp; omega)]
/-- a kind alone written anew -/
theorem kind_set : ∀ (l : List PG.Cl) (k : Nat) (x d : Int) (p : PG.Pn) (d' : Int), l[k]? = some (x, d, p) → (ccells l).set (k * 5 + 1) (.int .i64 d') = ccells (l.set k (x, d', p))
  | [], k, x, d, p, d', h => by simp at h
  | c :: l, 0, x, d, p, d', h => by
    simp at h
    subst h
    rfl
  | c :: l, k + 1, x, d, p, d', h => by
    have ih := kind_set l k x d p d' (by simpa using h)
    rw [List.set_cons_succ, ccells_cons, ccells_cons, ← ih, List.set_append_right _ _ (by show 5 ≤ _; omega)]
    congr 2
    show (k + 1) * 5 + 1 - 5 = k * 5 + 1
    omega
theorem own_kind {w : World} {base n g cap : Nat} {e : TypeId} {l : List PG.Cl} (h : w.ownsRow base e 5 (.slice (some ⟨g, 0, none⟩) n cap) n (ccells l)) {k : Nat} {x d : Int} {p : PG.Pn} (hk : l[k]? = some (x, d, p)) (d' : Int) :
    (w.setCell ⟨g, k * 5 + 1, none⟩ (.int .i64 d')).ownsRow base e 5 (.slice (some ⟨g, 0, none⟩) n cap) n (ccells (l.set k (x, d', p))) ∧ w.grownBy (w.setCell ⟨g, k * 5 + 1, none⟩ (.int .i64 d')) (some g) := by
  have s := h.stored (k * 5 + 1) (.int .i64 d')
  rw [kind_set l k x d p d' hk] at s
  exact s
/-- x put over it, and the cell ahead of it blank, if it was half of a wide rune -/
def mid (f : Nat → PG.Cl) (c : Nat) (x : Int) (p : PG.Pn) (w : Nat) (j : Nat) : PG.Cl := if j + 1 = c ∧ PG.kd (f c) = 2 then PG.blank (PG.pn (f j)) else PG.over f c x p w j
theorem mid_put (f : Nat → PG.Cl) (c : Nat) (x : Int) (p : PG.Pn) (w j : Nat) (hw : 1 ≤ w) (hw2 : w ≤ 2) : PG.putRow f c x p w j = if j = c + w ∧ PG.kd (f (c + w - 1)) = 1 then PG.blank (PG.pn (f j)) else mid f c x p w j := by
  unfold PG.putRow mid PG.over
  by_cases h1 : j = c
  · rw [if_pos h1, if_neg (c := j = c + w ∧ _) (by omega), if_neg (c := j + 1 = c ∧ _) (by omega), if_pos h1]
  by_cases h2 : w = 2 ∧ j = c + 1
  · rw [if_neg h1, if_pos h2, if_neg (c := j = c + w ∧ _) (by omega), if_neg (c := j + 1 = c ∧ _) (by omega), if_neg h1, if_pos h2]
  by_cases h3 : j + 1 = c ∧ PG.kd (f c) = 2
  · rw [if_neg h1, if_neg h2, if_pos h3, if_neg (c := j = c + w ∧ _) (by omega), if_pos h3]
  rw [if_neg h1, if_neg h2, if_neg h3]
  by_cases h4 : j = c + w ∧ PG.kd (f (c + w - 1)) = 1
  · rw [if_pos h4, if_pos h4]
  · rw [if_neg h4, if_neg h4, if_neg h3, if_neg h1, if_neg h2]
/-- where the document's Put stands between its ifs -/
def RPut (w : World) (R K n cp g cap : Nat) (A : Option Addr) (p : PG.Pn) (h : Nat → PG.Cl) (wx : World) : Prop :=
  Box wx w.heap.size 26 #[.int .i64 R, .int .i64 K, .slice A n cp] ∧ Box wx (w.heap.size + 1) 23 #[.int .i64 p.1, .int .i64 p.2.1, .int .i64 p.2.2] ∧ Box wx (w.heap.size + 1 + 1) 26 #[.int .i64 0, .int .i64 0, .slice none 0 0] ∧
    wx.ownsRow w.heap.size 32 5 (.slice (some ⟨g, 0, none⟩) K cap) K (ccells ((List.range K).map h)) ∧ Below w.heap.size w wx
theorem RPut.set {w wx : World} {R K n cp g cap : Nat} {A : Option Addr} {p : PG.Pn} {h : Nat → PG.Cl} (H : RPut w R K n cp g cap A p h wx) {k : Nat} (hk : k < K) (v : PG.Cl) :
    RPut w R K n cp g cap A p (fun j => if j = k then v else h j) (store5 wx g (k * 5) v) := by
  obtain ⟨x0, x1, x2, ho, hb⟩ := H
  have S := own_store5 ho (k := k) v hk (by simp)
  refine ⟨x0.grown S.2 (fun e => own_ne_box ho x0 (by decide) e.symm), x1.grown S.2 (fun e => own_ne_box ho x1 (by decide) e.symm), x2.grown S.2 (fun e => own_ne_box ho x2 (by decide) e.symm), ?_, hb.grown S.2 hb.size (by rintro _ ⟨⟩; exact (ho.lt g rfl).1)⟩
  rw [← range_set]
  exact S.1
theorem RPut.kind {w wx : World} {R K n cp g cap : Nat} {A : Option Addr} {p : PG.Pn} {h : Nat → PG.Cl} (H : RPut w R K n cp g cap A p h wx) {k : Nat} (hk : k < K) {x d : Int} {q : PG.Pn} (e : h k = (x, d, q)) (d' : Int) :
    RPut w R K n cp g cap A p (fun j => if j = k then (x, d', q) else h j) (wx.setCell ⟨g, k * 5 + 1, none⟩ (.int .i64 d')) := by
  obtain ⟨x0, x1, x2, ho, hb⟩ := H
  have S := own_kind ho (k := k) (x := x) (d := d) (p := q) (by rw [PG.range_at hk, e]) d'
  refine ⟨x0.grown S.2 (fun e => own_ne_box ho x0 (by decide) e.symm), x1.grown S.2 (fun e => own_ne_box ho x1 (by decide) e.symm), x2.grown S.2 (fun e => own_ne_box ho x2 (by decide) e.symm), ?_, hb.grown S.2 hb.size (by rintro _ ⟨⟩; exact (ho.lt g rfl).1)⟩
  rw [← range_set]
  exact S.1
theorem RPut.congr {w wx : World} {R K n cp g cap : Nat} {A : Option Addr} {p : PG.Pn} {h h' : Nat → PG.Cl} (H : RPut w R K n cp g cap A p h wx) (e : ∀ j, j < K → h j = h' j) : RPut w R K n cp g cap A p h' wx := by
  obtain ⟨x0, x1, x2, ho, hb⟩ := H
  refine ⟨x0, x1, x2, ?_, hb⟩
  rw [← List.map_congr_left (fun j hj => e j (List.mem_range.1 hj))]
  exact ho
theorem RPut.call {w wx wy : World} {R K n cp g cap : Nat} {A : Option Addr} {p : PG.Pn} {h : Nat → PG.Cl} (H : RPut w R K n cp g cap A p h wx) (b : Below wx.heap.size wx wy) : RPut w R K n cp g cap A p h wy := by
  obtain ⟨x0, x1, x2, ho, hb⟩ := H
  exact ⟨x0.below b x0.lt, x1.below b x1.lt, x2.below b x2.lt, own_low ho b, hb.trans (b.mono hb.size)⟩
/-- what the walk asks of it -/
theorem RPut.five {w wx : World} {R K n cp g cap : Nat} {A : Option Addr} {p : PG.Pn} {h : Nat → PG.Cl} (H : RPut w R K n cp g cap A p h wx) {k : Nat} (hk : k < K) :
    wx.cell? ⟨g, k * 5, none⟩ = some (.int .i32 (PG.rn (h k))) ∧ wx.cell? ⟨g, k * 5 + 1, none⟩ = some (.int .i64 (PG.kd (h k))) ∧ wx.cell? ⟨g, k * 5 + 2, none⟩ = some (.int .i64 (PG.pn (h k)).1) ∧ wx.cell? ⟨g, k * 5 + 3, none⟩ = some (.int .i64 (PG.pn (h k)).2.1) ∧ wx.cell? ⟨g, k * 5 + 4, none⟩ = some (.int .i64 (PG.pn (h k)).2.2) ∧
    wx.frozen? ⟨g, k * 5, none⟩ = false ∧ wx.frozen? ⟨g, k * 5 + 1, none⟩ = false ∧ wx.frozen? ⟨g, k * 5 + 2, none⟩ = false ∧ wx.frozen? ⟨g, k * 5 + 3, none⟩ = false ∧ wx.frozen? ⟨g, k * 5 + 4, none⟩ = false :=
  own_five H.2.2.2.1 (PG.range_at hk)
theorem seen_back {w w1 w2 : World} {B n : Nat} {A : Option Addr} {l : List PG.Cl} (h : SeenC w1 B A n l) (h1 : Below B w w1) (h2 : Below B w w2) : SeenC w2 B A n l := Seen.keep h (fun p hp => (h2.cell hp).trans (h1.cell hp).symm)
set_option maxHeartbeats 8000000 in
theorem rput_t (G : PG.Gr) (n cp B r c wv : Nat) (x : Int) (p : PG.Pn) (A : Option Addr) (w : World) (hl : SeenC w B A n (PG.cells G)) (hB : B ≤ w.heap.size) (hn : n = G.rows * G.cols) (hnc : n ≤ cp) (hcp : cp ≤ maxLen) (hr : r < G.rows) (g2 : G.rows ≤ 40) (g4 : G.cols ≤ 60)
    (hx0 : -2147483648 ≤ x) (hx1 : x ≤ 2147483647) (hw : C.width x = (wv : Int)) (hw1 : wv = 1 ∨ wv = 2) (hc : c + wv ≤ G.cols) :
    Calls Tryd.prog 15 #[gv G.rows G.cols (.slice A n cp), .int .i64 r, .int .i64 c, .int .i32 x, pv p] w (GaveG w G.rows G.cols (PG.cells (PG.putG G r c x p))) := by
  have g3 : 1 ≤ G.cols := by omega
  have hRK : G.rows * G.cols ≤ 2400 := Nat.mul_le_mul g2 g4
  obtain ⟨i0, hi, hz0, hz1, hz2⟩ := info_parts info_cell
  have WD := hide (fun w' => (show Calls Tryd.prog 24 #[.int .i32 x] w' fun e w'' => e = .returned (.int .i64 (wv : Int)) ∧ Below w'.heap.size w' w'' by rw [← hw]; exact refWidth_any x w' hx0 hx1))
  have FR := hide (fun w' (hb : Below w.heap.size w w') => rrow_any G.rows G.cols r n cp B A (PG.cells G) w' (hl.below (Below.mono hb hB)) hn hnc hcp hr g2 g4)
  rw [PG.row_cut hr] at FR
  have hfin : spl (PG.cells G) (r * G.cols) ((List.range G.cols).map (PG.putRow (G.f r) c x p wv)) = PG.cells (PG.putG G r c x p) := by
    rw [PG.spl_cells (g := G) (h := PG.putRow (G.f r) c x p wv) hr (by simp) (fun j hj => PG.range_at hj)]
    unfold PG.putG
    have hwn : (C.width x).toNat = wv := by omega
    rw [if_pos ⟨hr, by omega, by omega⟩, hwn]
  have FS := hide (fun w' (hb : Below w.heap.size w w') (A2 : Option Addr) (c2 : Nat) (B2 : Nat) (h2 : SeenC w' B2 A2 G.cols ((List.range G.cols).map (PG.putRow (G.f r) c x p wv))) (hB2 : B2 ≤ w'.heap.size) (hBB : B ≤ B2) => rset_any G.rows G.cols r n cp G.cols c2 B2 A A2 (PG.cells G) _ w' ((hl.below (Below.mono hb hB)).more hBB) h2 hB2 hn hr (Nat.le_refl _) g2 g3 g4)
  rw [hfin] at FS
  have BC : ∀ (p : PG.Pn) (w' : World), Calls Tryd.prog 35 #[.agg #[.int .i64 p.1, .int .i64 p.2.1, .int .i64 p.2.2]] w' fun e w'' => e = .returned (.agg #[.int .i32 32, .int .i64 0, .int .i64 p.1, .int .i64 p.2.1, .int .i64 p.2.2]) ∧ Below w'.heap.size w' w'' := fun p w' => rblank_any p w'
  have BC := hide BC
  generalize PG.cells (PG.putG G r c x p) = out at *
  unfold GaveG gv pv at *
  have hr40 : r ≤ 40 := by omega
  have hnn : n ≤ 2400 := by omega
  have hrG : (r : Int) < (G.rows : Int) := by omega
  have hw12 : 1 ≤ wv ∧ wv ≤ 2 := by omega
  clear hfin hl hn hRK hnc hcp hw hx0 hx1
  generalize G.f r = f at *
  generalize hRR : G.rows = R at *
  generalize hKK : G.cols = K at *
  clear hRR hKK
  go_enter Tryd.func15, Tryd.ntmps15
  go_upto_if 53 with (first
    | (go_at_call 24
       go_must (refine (WD.out _).mono ?_)
       rintro e w1 ⟨rfl, b1⟩
       obtain ⟨x0, x1, x2, bw⟩ := boxes3 (w := w) (t0 := 26) (t1 := 23) (t2 := 26) (cs := #[.int .i64 R, .int .i64 K, .slice A n cp]) (ds := #[.int .i64 p.1, .int .i64 p.2.1, .int .i64 p.2.2]) (es := #[.int .i64 0, .int .i64 0, .slice none 0 0])
       have x0 := x0.below b1 x0.lt
       have x1 := x1.below b1 x1.lt
       have x2 := x2.below b1 x2.lt
       have bb := bw.trans (b1.mono bw.size)
       obtain ⟨a0, a1, a2, _⟩ := x0.three
       have l0 := x0.lt
       have l1 := x1.lt
       have l2 := x2.lt
       have X0 := hide x0
       have X1 := hide x1
       have X2 := hide x2
       have HB := hide bb
       clear b1 bw WD x0 x1 x2 bb)
    | (go_at_call 36
       go_must (refine (FR.out _ (HB.out.alloc HB.out.size _)).mono ?_)
       rintro e w2 ⟨⟨A1, c1, rfl, hs1, hk1, hk2⟩, b2⟩
       have hs1 := hs1.below (b2.mono (show B ≤ _ by rw [World.size_alloc]; have := HB.out.size; omega))
       have OL := own_low (own_lit5 (w := w1) (base := w.heap.size) 32 rfl HB.out.size) b2
       have b1' : Below w1.heap.size w1 w2 := ((Below.refl _ _).alloc (Nat.le_refl _) _).trans (b2.mono (by rw [World.size_alloc]; omega))
       have hs1 := hide hs1
       have OL := hide OL
       clear b2)
    | (at_builtin
       go_must (refine wpList_appC rfl (.tmp 41) (.tmp 44) 24 rfl w.heap.size 32 i0 _ 40 Tryd.underlying24 hi hz0 hz1 hz2 rfl (.slice (some ⟨w1.heap.size, 0, none⟩) 0 0) 0 [] rfl OL.out B A1 K c1 ((List.range K).map f) rfl hs1.out (by omega) (by omega) (Nat.le_trans HB.out.size b1'.size) ?_)
       intro v4 w4 hown4 hg4 hm4
       simp only [Nat.zero_add, List.nil_append] at hown4
       obtain ⟨g, cap, rfl, hgb, hgc, hgm⟩ := own_at hown4 g3
       have H4 : RPut w R K n cp g cap A p f w4 := ⟨(X0.out.below b1' l0).grown hg4 (by simp [Value.ownBlock]; omega), (X1.out.below b1' l1).grown hg4 (by simp [Value.ownBlock]; omega), (X2.out.below b1' l2).grown hg4 (by simp [Value.ownBlock]; omega), hown4, (HB.out.trans (b1'.mono HB.out.size)).grown hg4 (Nat.le_trans HB.out.size b1'.size) (by rintro _ ⟨⟩; exact HB.out.size)⟩
       obtain ⟨q0, q1, q2, _⟩ := H4.2.1.three
       obtain ⟨v0, v1, v2, v3, v4, f0, f1, f2, f3, f4⟩ := H4.five (k := c) (by omega)
       have H4 := hide H4
       clear hg4 hm4 b1' OL hs1 X0 X1 X2 HB l0 l1 l2 hown4 a0 a1 a2))
  have H5 : RPut w R K n cp g cap A p (fun j => if j = c then (x, 0, p) else f j) (((((w4.setCell ⟨g, c * 5, none⟩ (.int .i32 x)).setCell ⟨g, c * 5 + 1, none⟩ (.int .i64 0)).setCell ⟨g, c * 5 + 2, none⟩ (.int .i64 p.1)).setCell ⟨g, c * 5 + 3, none⟩ (.int .i64 p.2.1)).setCell ⟨g, c * 5 + 4, none⟩ (.int .i64 p.2.2)) := H4.out.set (k := c) (by omega) (x, 0, p)
  have H5 := hide H5
  go_cut [] (fun wx => RPut w R K n cp g cap A p (PG.over f c x p wv) wx)
  case first =>
    clear v0 v1 v2 v3 v4 f0 f1 f2 f3 f4 q0 q1 q2
    have H5 := H5.out
    generalize (((((w4.setCell ⟨g, c * 5, none⟩ (.int .i32 x)).setCell ⟨g, c * 5 + 1, none⟩ (.int .i64 0)).setCell ⟨g, c * 5 + 2, none⟩ (.int .i64 p.1)).setCell ⟨g, c * 5 + 3, none⟩ (.int .i64 p.2.1)).setCell ⟨g, c * 5 + 4, none⟩ (.int .i64 p.2.2)) = w5 at H5 ⊢
    rcases hw1 with rfl | rfl
    · go_wp2_with fail
      go_meet
      exact H5.congr (fun j hj => by
        unfold PG.over
        by_cases e : j = c
        · rw [if_pos e, if_pos e, if_neg (by omega)]
        · rw [if_neg e, if_neg e, if_neg (by omega)])
    · obtain ⟨v0, v1, v2, v3, v4, f0, f1, f2, f3, f4⟩ := H5.five (k := c) (by omega)
      have H6 := hide (H5.kind (k := c) (x := x) (d := 0) (q := p) (by omega) (if_pos rfl) 1)
      clear H5 v0 v2 v3 v4 f0 f2 f3 f4
      go_upto_region 7 with fail
      go_cut [] (fun wx => RPut w R K n cp g cap A p (fun j => if j = c then (x, 1, p) else if j = c then (x, 0, p) else f j) wx)
      case first =>
        go_wp2_with fail
        go_meet
        exact H6.out
      case rest =>
        obtain ⟨v0, v1, v2, v3, v4, f0, f1, f2, f3, f4⟩ := hcut.five (k := c + 1) (by omega)
        obtain ⟨q0, q1, q2, _⟩ := hcut.2.1.three
        have H7 := hide (hcut.set (k := c + 1) (by omega) (0, 2, p))
        clear hcut
        go_wp2_with fail
        go_meet
        exact H7.out.congr (fun j hj => by
          unfold PG.over
          by_cases e : j = c
          · rw [if_neg (by omega), if_pos e, if_pos e, if_pos rfl]
          · by_cases e2 : j = c + 1
            · rw [if_pos e2, if_neg e, if_pos ⟨rfl, e2⟩]
            · rw [if_neg e2, if_neg e, if_neg e, if_neg e, if_neg (by omega)])
  case rest =>
    clear H4 H5 v0 v1 v2 v3 v4 f0 f1 f2 f3 f4 q0 q1 q2 hw1
    obtain ⟨x0, x1, x2, ho, hb⟩ := id hcut
    obtain ⟨a0, a1, a2, _⟩ := x0.three
    have l0 := x0.lt
    have HC := hide hcut
    have HB := hide hb
    clear x0 x1 x2 ho hb hcut
    go_upto_region 10 with (
      go_at_call 36
      go_must (refine (FR.out _ HB.out).mono ?_)
      rintro e w6 ⟨⟨A2, c2, rfl, hs2, hk3, hk4⟩, b6⟩
      have H6 := hide (HC.out.call b6)
      have hs2 := hide (hs2.below (b6.mono (show B ≤ _ from Nat.le_trans hB HB.out.size)))
      clear b6 FR a0 a1 a2 l0)
    go_cut [76] (fun u wx => ∃ b : Bool, u = .bool b ∧ (b = true ↔ 0 < c ∧ PG.kd (f c) = 2) ∧ wx = w6)
    case first =>
      obtain ⟨ad2, rfl, _, d0, d1, _⟩ := hs2.out.five (PG.range_at (f := f) (show c < K by omega))
      by_cases hc0 : 0 < c
      · by_cases hk2 : PG.kd (f c) = 2
        · have hq : (PG.kd (f c) == 2) = true := by simpa using hk2
          have hiff := hide (show true = true ↔ 0 < c ∧ PG.kd (f c) = 2 from ⟨fun _ => ⟨hc0, hk2⟩, fun _ => rfl⟩)
          clear hk2 d0
          go_wp2_with fail
          go_meet
          exact ⟨true, rfl, by simpa using hiff.out, rfl⟩
        · have hq : (PG.kd (f c) == 2) = false := by simpa using hk2
          have hiff := hide (show false = true ↔ 0 < c ∧ PG.kd (f c) = 2 from ⟨(fun h => by cases h), fun h => absurd h.2 hk2⟩)
          clear hk2 d0
          go_wp2_with fail
          go_meet
          exact ⟨false, rfl, by simpa using hiff.out, rfl⟩
      · have hiff := hide (show false = true ↔ 0 < c ∧ PG.kd (f c) = 2 from ⟨(fun h => by cases h), fun h => absurd h.1 hc0⟩)
        have hd : decide (0 < c) = false := by simpa using hc0
        have hd' : decide ((0 : Int) < (c : Int)) = false := by simp; omega
        clear d0 d1 hc0
        go_wp2_with fail
        go_meet
        exact ⟨false, rfl, by simpa using hiff.out, rfl⟩
    case rest =>
      obtain ⟨b, rfl, hiff, rfl⟩ := hcut
      go_upto_if 76 with fail
      go_cut [] (fun wx => RPut w R K n cp g cap A p (mid f c x p wv) wx)
      case first =>
        rcases b with _ | _
        · have hno : ¬ (0 < c ∧ PG.kd (f c) = 2) := fun h => by have := hiff.2 h; cases this
          have HM := hide (H6.out.congr (h' := mid f c x p wv) (fun j hj => by
            unfold mid
            rw [if_neg]
            rintro ⟨h1, h2⟩
            exact hno ⟨by omega, h2⟩))
          clear hno hiff
          go_wp2_with fail
          go_meet
          exact HM.out
        · obtain ⟨hc0, hk2⟩ := hiff.1 rfl
          obtain ⟨ad2, rfl, hadB, d0, d1, d2, d3, d4⟩ := hs2.out.five (PG.range_at (f := f) (show c - 1 < K by omega))
          have BP := hide (fun w' => BC.out (PG.pn (f (c - 1))) w')
          have hlast := hide (show ∀ j, (if j = c - 1 then PG.blank (PG.pn (f (c - 1))) else PG.over f c x p wv j) = mid f c x p wv j from fun j => by
            unfold mid
            by_cases e : j = c - 1
            · rw [if_pos e, if_pos ⟨by omega, hk2⟩, e]
            · rw [if_neg e, if_neg (by omega)])
          clear hiff hk2
          generalize f (c - 1) = F at *
          go_wp2_with (
            go_at_call 35
            go_must (refine (BP.out _).mono ?_)
            rintro e w7 ⟨rfl, b7⟩
            have H7 := H6.out.call b7
            obtain ⟨v0, v1, v2, v3, v4, f0, f1, f2, f3, f4⟩ := H7.five (k := c - 1) (by omega)
            have H8 := hide (H7.set (k := c - 1) (by omega) (PG.blank (PG.pn F)))
            clear b7 H7 BP)
          go_meet
          exact H8.out.congr (fun j _ => hlast.out j)
      case rest =>
        rename World => w7
        have hs3 := hide (seen_back hs2.out (H6.out.2.2.2.2.mono hB) (hcut.2.2.2.2.mono hB))
        obtain ⟨x0, x1, x2, ho, hb⟩ := id hcut
        obtain ⟨a0, a1, a2, _⟩ := x0.three
        have HC := hide hcut
        clear x0 x1 x2 ho hb hcut hs2 H6 hiff b
        go_upto_region 12 with fail
        go_cut [104] (fun u wx => ∃ b : Bool, u = .bool b ∧ (b = true ↔ c + wv < K ∧ PG.kd (f (c + wv - 1)) = 1) ∧ wx = w7)
        case first =>
          obtain ⟨ad2, rfl, _, d0, d1, _⟩ := hs3.out.five (PG.range_at (f := f) (show c + wv - 1 < K by omega))
          have i1 : ((c : Int) + (wv : Int) - 1).toNat = c + wv - 1 := by omega
          by_cases hc0 : c + wv < K
          · by_cases hk2 : PG.kd (f (c + wv - 1)) = 1
            · have hq : (PG.kd (f (c + wv - 1)) == 1) = true := by simpa using hk2
              have hiff := hide (show c + wv < K ∧ PG.kd (f (c + wv - 1)) = 1 from ⟨hc0, hk2⟩)
              clear hk2 d0
              go_wp2_with fail
              go_meet
              exact ⟨true, rfl, ⟨fun _ => hiff.out, fun _ => rfl⟩, rfl⟩
            · have hq : (PG.kd (f (c + wv - 1)) == 1) = false := by simpa using hk2
              have hiff := hide (show ¬ (c + wv < K ∧ PG.kd (f (c + wv - 1)) = 1) from fun h => hk2 h.2)
              clear hk2 d0
              go_wp2_with fail
              go_meet
              exact ⟨false, rfl, ⟨(fun h => by cases h), fun h => absurd h hiff.out⟩, rfl⟩
          · have hiff := hide (show ¬ (c + wv < K ∧ PG.kd (f (c + wv - 1)) = 1) from fun h => hc0 h.1)
            have hd : decide (c + wv < K) = false := by simpa using hc0
            have hd' : decide ((c : Int) + (wv : Int) < (K : Int)) = false := by simp; omega
            clear d0 d1 hc0
            go_wp2_with fail
            go_meet
            exact ⟨false, rfl, ⟨(fun h => by cases h), fun h => absurd h hiff.out⟩, rfl⟩
        case rest =>
          obtain ⟨b, rfl, hiff, rfl⟩ := hcut
          go_upto_if 104 with fail
          go_cut [] (fun wx => RPut w R K n cp g cap A p (PG.putRow f c x p wv) wx)
          case first =>
            rcases b with _ | _
            · have hno : ¬ (c + wv < K ∧ PG.kd (f (c + wv - 1)) = 1) := fun h => by have := hiff.2 h; cases this
              have HM := hide (HC.out.congr (h' := PG.putRow f c x p wv) (fun j hj => by
                rw [mid_put f c x p wv j hw12.1 hw12.2, if_neg]
                rintro ⟨h1, h2⟩
                exact hno ⟨by omega, h2⟩))
              clear hno hiff
              go_wp2_with fail
              go_meet
              exact HM.out
            · obtain ⟨hc0, hk2⟩ := hiff.1 rfl
              obtain ⟨ad2, rfl, hadB, d0, d1, d2, d3, d4⟩ := hs3.out.five (PG.range_at (f := f) (show c + wv < K by omega))
              have BP := hide (fun w' => BC.out (PG.pn (f (c + wv))) w')
              have hlast := hide (show ∀ j, (if j = c + wv then PG.blank (PG.pn (f (c + wv))) else mid f c x p wv j) = PG.putRow f c x p wv j from fun j => by
                rw [mid_put f c x p wv j hw12.1 hw12.2]
                by_cases e : j = c + wv
                · rw [if_pos e, if_pos ⟨e, hk2⟩, e]
                · rw [if_neg e, if_neg (fun h => e h.1)])
              clear hiff hk2
              generalize f (c + wv) = F at *
              go_wp2_with (
                go_at_call 35
                go_must (refine (BP.out _).mono ?_)
                rintro e w8 ⟨rfl, b8⟩
                have H7 := HC.out.call b8
                obtain ⟨v0, v1, v2, v3, v4, f0, f1, f2, f3, f4⟩ := H7.five (k := c + wv) (by omega)
                have H8 := hide (H7.set (k := c + wv) (by omega) (PG.blank (PG.pn F)))
                clear b8 H7 BP)
              go_meet
              exact H8.out.congr (fun j _ => hlast.out j)
          case rest =>
            obtain ⟨x0, x1, x2, ho, hb⟩ := hcut
            obtain ⟨a0, a1, a2, _⟩ := x0.three
            have l2 := x2.lt
            have X2 := hide x2
            have S := hide (SeenC.of_own ho)
            have HB := hide hb
            clear x0 x1 x2 ho hb HC hiff hs3 b BC
            go_wp2_with (
              go_at_call 37
              go_must (refine (FS.out _ HB.out _ _ _ S.out (Nat.le_refl _) (Nat.le_trans hB HB.out.size)).mono ?_)
              rintro e w9 ⟨v9, rfl, o9, b9⟩
              obtain ⟨A9, c9, rfl, _⟩ := own_form' o9
              have Z := X2.out.below b9 X2.out.lt
              obtain ⟨q0, q1, q2, q3, q4, q5⟩ := Z.three
              have Z := hide Z
              have o9 := hide (own_base' o9 HB.out.size)
              have HB := hide (HB.out.trans (b9.mono HB.out.size))
              clear b9 S X2 FS)
            have m := own_ne_box o9.out Z.out (by decide)
            have X := Z.out.set3 (.int .i64 R) (.int .i64 K) (.slice A9 out.length c9)
            obtain ⟨j0, j1, j2, _⟩ := X.three
            refine bodyPost_ret (v := .agg #[.int .i64 R, .int .i64 K, .slice A9 out.length c9]) (by simp [results, Tryd.results15, go_sem, j0, j1, j2]) rfl ⟨_, rfl, ?_, ?_⟩
            · exact ownsRow_setCell_other (ownsRow_setCell_other (ownsRow_setCell_other o9.out (a := ⟨w.heap.size + 1 + 1, 0, none⟩) m _) (a := ⟨w.heap.size + 1 + 1, 1, none⟩) m _) (a := ⟨w.heap.size + 1 + 1, 2, none⟩) m _
            · exact below_set3 HB.out (by omega) _ _ _
end Go.Proofs.YtfeapcneebofjaaDoor
