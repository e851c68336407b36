/- The contract of the document's own Put, where x stands then. The contracts of the document's own Put and Wipe, where they give what they were given. The contract of the document's own Resize. -/
import Derived.Test.YtfeapcneebofjaaDoorGridPure
import Derived.Test.YtfeapcneebofjaaDoorGridRefNew
import Derived.Test.YtfeapcneebofjaaDoorRefWidth
import Derived.Deep.DeepCutAuto
set_option maxRecDepth 100000
namespace Go.Proofs.YtfeapcneebofjaaDoor
open Go.RowKit
set_option linter.unusedVariables false
theorem range_set {n k : Nat} (h : Nat → PG.Cl) (v : PG.Cl) : ((List.range n).map h).set k v = (List.range n).map (fun j => if j = k then v else h j) := by
  refine List.ext_getElem? fun j => ?_
  by_cases hj : j < n
  · by_cases e : j = k
    · subst e
      rw [List.getElem?_set_self (by simpa using hj), PG.range_at hj, if_pos rfl]
    · rw [List.getElem?_set_ne (by omega), PG.range_at hj, PG.range_at hj, if_neg e]
  · rw [List.getElem?_eq_none (by rw [List.length_set]; simp; omega), List.getElem?_eq_none (by simp; omega)]
/-- a kind alone written anew -/
theorem kind_set : ∀ (l : List PG.Cl) (k : Nat) (x d : Int) (p : PG.Pn) (d' : Int), l[k]? = some (x, d, p) → (ccells l).set (k * 5 + 1) (.int .i64 d') = ccells (l.set k (x, d', p))
  | [], k, x, d, p, d', h => by simp at h
  | c :: l, 0, x, d, p, d', h => by
    simp at h
    subst h
    rfl
  | c :: l, k + 1, x, d, p, d', h => by
    have ih := kind_set l k x d p d' (by simpa using h)
    rw [List.set_cons_succ, ccells_cons, ccells_cons, ← ih, List.set_append_right _ _ (by show 5 ≤ _; omega)]
    congr 2
    show (k + 1) * 5 + 1 - 5 = k * 5 + 1
    omega
theorem own_kind {w : World} {base n g cap : Nat} {e : TypeId} {l : List PG.Cl} (h : w.ownsRow base e 5 (.slice (some ⟨g, 0, none⟩) n cap) n (ccells l)) {k : Nat} {x d : Int} {p : PG.Pn} (hk : l[k]? = some (x, d, p)) (d' : Int) :
    (w.setCell ⟨g, k * 5 + 1, none⟩ (.int .i64 d')).ownsRow base e 5 (.slice (some ⟨g, 0, none⟩) n cap) n (ccells (l.set k (x, d', p))) ∧ w.grownBy (w.setCell ⟨g, k * 5 + 1, none⟩ (.int .i64 d')) (some g) := by
  have s := h.stored (k * 5 + 1) (.int .i64 d')
  rw [kind_set l k x d p d' hk] at s
  exact s
/-- x put over it, and the cell ahead of it blank, if it was half of a wide rune -/
def mid (f : Nat → PG.Cl) (c : Nat) (x : Int) (p : PG.Pn) (w : Nat) (j : Nat) : PG.Cl := if j + 1 = c ∧ PG.kd (f c) = 2 then PG.blank (PG.pn (f j)) else PG.over f c x p w j
theorem mid_put (f : Nat → PG.Cl) (c : Nat) (x : Int) (p : PG.Pn) (w j : Nat) (hw : 1 ≤ w) (hw2 : w ≤ 2) : PG.putRow f c x p w j = if j = c + w ∧ PG.kd (f (c + w - 1)) = 1 then PG.blank (PG.pn (f j)) else mid f c x p w j := by
  unfold PG.putRow mid PG.over
  by_cases h1 : j = c
  · rw [if_pos h1, if_neg (c := j = c + w ∧ _) (by omega), if_neg (c := j + 1 = c ∧ _) (by omega), if_pos h1]
  by_cases h2 : w = 2 ∧ j = c + 1
  · rw [if_neg h1, if_pos h2, if_neg (c := j = c + w ∧ _) (by omega), if_neg (c := j + 1 = c ∧ _) (by omega), if_neg h1, if_pos h2]
  by_cases h3 : j + 1 = c ∧ PG.kd (f c) = 2
  · rw [if_neg h1, if_neg h2, if_pos h3, if_neg (c := j = c + w ∧ _) (by omega), if_pos h3]
  rw [if_neg h1, if_neg h2, if_neg h3]
  by_cases h4 : j = c + w ∧ PG.kd (f (c + w - 1)) = 1
  · rw [if_pos h4, if_pos h4]
  · rw [if_neg h4, if_neg h4, if_neg h3, if_neg h1, if_neg h2]
/-- where the document's Put stands between its ifs -/
def RPut (w : World) (R K n cp g cap : Nat) (A : Option Addr) (p : PG.Pn) (h : Nat → PG.Cl) (wx : World) : Prop :=
  Box wx w.heap.size 26 #[.int .i64 R, .int .i64 K, .slice A n cp] ∧ Box wx (w.heap.size + 1) 23 #[.int .i64 p.1, .int .i64 p.2.1, .int .i64 p.2.2] ∧ Box wx (w.heap.size + 1 + 1) 26 #[.int .i64 0, .int .i64 0, .slice none 0 0] ∧
    wx.ownsRow w.heap.size 32 5 (.slice (some ⟨g, 0, none⟩) K cap) K (ccells ((List.range K).map h)) ∧ Below w.heap.size w wx
theorem RPut.set {w wx : World} {R K n cp g cap : Nat} {A : Option Addr} {p : PG.Pn} {h : Nat → PG.Cl} (H : RPut w R K n cp g cap A p h wx) {k : Nat} (hk : k < K) (v : PG.Cl) :
    RPut w R K n cp g cap A p (fun j => if j = k then v else h j) (store5 wx g (k * 5) v) := by
  obtain ⟨x0, x1, x2, ho, hb⟩ := H
  have S := own_store5 ho (k := k) v hk (by simp)
  refine ⟨x0.grown S.2 (fun e => own_ne_box ho x0 (by decide) e.symm), x1.grown S.2 (fun e => own_ne_box ho x1 (by decide) e.symm), x2.grown S.2 (fun e => own_ne_box ho x2 (by decide) e.symm), ?_, hb.grown S.2 hb.size (by rintro _ ⟨⟩; exact (ho.lt g rfl).1)⟩
  rw [← range_set]
  exact S.1
theorem RPut.kind {w wx : World} {R K n cp g cap : Nat} {A : Option Addr} {p : PG.Pn} {h : Nat → PG.Cl} (H : RPut w R K n cp g cap A p h wx) {k : Nat} (hk : k < K) {x d : Int} {q : PG.Pn} (e : h k = (x, d, q)) (d' : Int) :
    RPut w R K n cp g cap A p (fun j => if j = k then (x, d', q) else h j) (wx.setCell ⟨g, k * 5 + 1, none⟩ (.int .i64 d')) := by
  obtain ⟨x0, x1, x2, ho, hb⟩ := H
  have S := own_kind ho (k := k) (x := x) (d := d) (p := q) (by rw [PG.range_at hk, e]) d'
  refine ⟨x0.grown S.2 (fun e => own_ne_box ho x0 (by decide) e.symm), x1.grown S.2 (fun e => own_ne_box ho x1 (by decide) e.symm), x2.grown S.2 (fun e => own_ne_box ho x2 (by decide) e.symm), ?_, hb.grown S.2 hb.size (by rintro _ ⟨⟩; exact (ho.lt g rfl).1)⟩
  rw [← range_set]
  exact S.1
theorem RPut.congr {w wx : World} {R K n cp g cap : Nat} {A : Option Addr} {p : PG.Pn} {h h' : Nat → PG.Cl} (H : RPut w R K n cp g cap A p h wx) (e : ∀ j, j < K → h j = h' j) : RPut w R K n cp g cap A p h' wx := by
  obtain ⟨x0, x1, x2, ho, hb⟩ := H
  refine ⟨x0, x1, x2, ?_, hb⟩
  rw [← List.map_congr_left (fun j hj => e j (List.mem_range.1 hj))]
  exact ho
theorem RPut.call {w wx wy : World} {R K n cp g cap : Nat} {A : Option Addr} {p : PG.Pn} {h : Nat → PG.Cl} (H : RPut w R K n cp g cap A p h wx) (b : Below wx.heap.size wx wy) : RPut w R K n cp g cap A p h wy := by
  obtain ⟨x0, x1, x2, ho, hb⟩ := H
  exact ⟨x0.below b x0.lt, x1.below b x1.lt, x2.below b x2.lt, own_low ho b, hb.trans (b.mono hb.size)⟩
/-- what the walk asks of it -/
theorem RPut.five {w wx : World} {R K n cp g cap : Nat} {A : Option Addr} {p : PG.Pn} {h : Nat → PG.Cl} (H : RPut w R K n cp g cap A p h wx) {k : Nat} (hk : k < K) :
    wx.cell? ⟨g, k * 5, none⟩ = some (.int .i32 (PG.rn (h k))) ∧ wx.cell? ⟨g, k * 5 + 1, none⟩ = some (.int .i64 (PG.kd (h k))) ∧ wx.cell? ⟨g, k * 5 + 2, none⟩ = some (.int .i64 (PG.pn (h k)).1) ∧ wx.cell? ⟨g, k * 5 + 3, none⟩ = some (.int .i64 (PG.pn (h k)).2.1) ∧ wx.cell? ⟨g, k * 5 + 4, none⟩ = some (.int .i64 (PG.pn (h k)).2.2) ∧
    wx.frozen? ⟨g, k * 5, none⟩ = false ∧ wx.frozen? ⟨g, k * 5 + 1, none⟩ = false ∧ wx.frozen? ⟨g, k * 5 + 2, none⟩ = false ∧ wx.frozen? ⟨g, k * 5 + 3, none⟩ = false ∧ wx.frozen? ⟨g, k * 5 + 4, none⟩ = false :=
  own_five H.2.2.2.1 (PG.range_at hk)
theorem seen_back {w w1 w2 : World} {B n : Nat} {A : Option Addr} {l : List PG.Cl} (h : SeenC w1 B A n l) (h1 : Below B w w1) (h2 : Below B w w2) : SeenC w2 B A n l := Seen.keep h (fun p hp => (h2.cell hp).trans (h1.cell hp).symm)
set_option maxHeartbeats 8000000 in
theorem rput_t (G : PG.Gr) (n cp B r c wv : Nat) (x : Int) (p : PG.Pn) (A : Option Addr) (w : World) (hl : SeenC w B A n (PG.cells G)) (hB : B ≤ w.heap.size) (hn : n = G.rows * G.cols) (hnc : n ≤ cp) (hcp : cp ≤ maxLen) (hr : r < G.rows) (g2 : G.rows ≤ 40) (g4 : G.cols ≤ 60)
    (hx0 : -2147483648 ≤ x) (hx1 : x ≤ 2147483647) (hw : C.width x = (wv : Int)) (hw1 : wv = 1 ∨ wv = 2) (hc : c + wv ≤ G.cols) :
    Calls Tryd.prog 15 #[gv G.rows G.cols (.slice A n cp), .int .i64 r, .int .i64 c, .int .i32 x, pv p] w (GaveG w G.rows G.cols (PG.cells (PG.putG G r c x p))) := by
  have g3 : 1 ≤ G.cols := by omega
  have hRK : G.rows * G.cols ≤ 2400 := Nat.mul_le_mul g2 g4
  obtain ⟨i0, hi, hz0, hz1, hz2⟩ := info_parts info_cell
  have WD := hide (fun w' => (show Calls Tryd.prog 24 #[.int .i32 x] w' fun e w'' => e = .returned (.int .i64 (wv : Int)) ∧ Below w'.heap.size w' w'' by rw [← hw]; exact refWidth_any x w' hx0 hx1))
  have FR := hide (fun w' (hb : Below w.heap.size w w') => rrow_any G.rows G.cols r n cp B A (PG.cells G) w' (hl.below (Below.mono hb hB)) hn hnc hcp hr g2 g4)
  rw [PG.row_cut hr] at FR
  have hfin : spl (PG.cells G) (r * G.cols) ((List.range G.cols).map (PG.putRow (G.f r) c x p wv)) = PG.cells (PG.putG G r c x p) := by
    rw [PG.spl_cells (g := G) (h := PG.putRow (G.f r) c x p wv) hr (by simp) (fun j hj => PG.range_at hj)]
    unfold PG.putG
    have hwn : (C.width x).toNat = wv := by omega
    rw [if_pos ⟨hr, by omega, by omega⟩, hwn]
  have FS := hide (fun w' (hb : Below w.heap.size w w') (A2 : Option Addr) (c2 : Nat) (B2 : Nat) (h2 : SeenC w' B2 A2 G.cols ((List.range G.cols).map (PG.putRow (G.f r) c x p wv))) (hB2 : B2 ≤ w'.heap.size) (hBB : B ≤ B2) => rset_any G.rows G.cols r n cp G.cols c2 B2 A A2 (PG.cells G) _ w' ((hl.below (Below.mono hb hB)).more hBB) h2 hB2 hn hr (Nat.le_refl _) g2 g3 g4)
  rw [hfin] at FS
  have BC : ∀ (p : PG.Pn) (w' : World), Calls Tryd.prog 35 #[.agg #[.int .i64 p.1, .int .i64 p.2.1, .int .i64 p.2.2]] w' fun e w'' => e = .returned (.agg #[.int .i32 32, .int .i64 0, .int .i64 p.1, .int .i64 p.2.1, .int .i64 p.2.2]) ∧ Below w'.heap.size w' w'' := fun p w' => rblank_any p w'
  have BC := hide BC
  generalize PG.cells (PG.putG G r c x p) = out at *
  unfold GaveG gv pv at *
  have hr40 : r ≤ 40 := by omega
  have hnn : n ≤ 2400 := by omega
  have hrG : (r : Int) < (G.rows : Int) := by omega
  have hw12 : 1 ≤ wv ∧ wv ≤ 2 := by omega
  clear hfin hl hn hRK hnc hcp hw hx0 hx1
  generalize G.f r = f at *
  generalize hRR : G.rows = R at *
  generalize hKK : G.cols = K at *
  clear hRR hKK
  go_enter Tryd.func15, Tryd.ntmps15
  go_upto_if 53 with (first
    | (go_at_call 24
       go_must (refine (WD.out _).mono ?_)
       rintro e w1 ⟨rfl, b1⟩
       obtain ⟨x0, x1, x2, bw⟩ := boxes3 (w := w) (t0 := 26) (t1 := 23) (t2 := 26) (cs := #[.int .i64 R, .int .i64 K, .slice A n cp]) (ds := #[.int .i64 p.1, .int .i64 p.2.1, .int .i64 p.2.2]) (es := #[.int .i64 0, .int .i64 0, .slice none 0 0])
       have x0 := x0.below b1 x0.lt
       have x1 := x1.below b1 x1.lt
       have x2 := x2.below b1 x2.lt
       have bb := bw.trans (b1.mono bw.size)
       obtain ⟨a0, a1, a2, _⟩ := x0.three
       have l0 := x0.lt
       have l1 := x1.lt
       have l2 := x2.lt
       have X0 := hide x0
       have X1 := hide x1
       have X2 := hide x2
       have HB := hide bb
       clear b1 bw WD x0 x1 x2 bb)
    | (go_at_call 36
       go_must (refine (FR.out _ (HB.out.alloc HB.out.size _)).mono ?_)
       rintro e w2 ⟨⟨A1, c1, rfl, hs1, hk1, hk2⟩, b2⟩
       have hs1 := hs1.below (b2.mono (show B ≤ _ by rw [World.size_alloc]; have := HB.out.size; omega))
       have OL := own_low (own_lit5 (w := w1) (base := w.heap.size) 32 rfl HB.out.size) b2
       have b1' : Below w1.heap.size w1 w2 := ((Below.refl _ _).alloc (Nat.le_refl _) _).trans (b2.mono (by rw [World.size_alloc]; omega))
       have hs1 := hide hs1
       have OL := hide OL
       clear b2)
    | (at_builtin
       go_must (refine wpList_appC rfl (.tmp 41) (.tmp 44) 24 rfl w.heap.size 32 i0 _ 40 Tryd.underlying24 hi hz0 hz1 hz2 rfl (.slice (some ⟨w1.heap.size, 0, none⟩) 0 0) 0 [] rfl OL.out B A1 K c1 ((List.range K).map f) rfl hs1.out (by omega) (by omega) (Nat.le_trans HB.out.size b1'.size) ?_)
       intro v4 w4 hown4 hg4 hm4
       simp only [Nat.zero_add, List.nil_append] at hown4
       obtain ⟨g, cap, rfl, hgb, hgc, hgm⟩ := own_at hown4 g3
       have H4 : RPut w R K n cp g cap A p f w4 := ⟨(X0.out.below b1' l0).grown hg4 (by simp [Value.ownBlock]; omega), (X1.out.below b1' l1).grown hg4 (by simp [Value.ownBlock]; omega), (X2.out.below b1' l2).grown hg4 (by simp [Value.ownBlock]; omega), hown4, (HB.out.trans (b1'.mono HB.out.size)).grown hg4 (Nat.le_trans HB.out.size b1'.size) (by rintro _ ⟨⟩; exact HB.out.size)⟩
       obtain ⟨q0, q1, q2, _⟩ := H4.2.1.three
       obtain ⟨v0, v1, v2, v3, v4, f0, f1, f2, f3, f4⟩ := H4.five (k := c) (by omega)
       have H4 := hide H4
       clear hg4 hm4 b1' OL hs1 X0 X1 X2 HB l0 l1 l2 hown4 a0 a1 a2))
  have H5 : RPut w R K n cp g cap A p (fun j => if j = c then (x, 0, p) else f j) (((((w4.setCell ⟨g, c * 5, none⟩ (.int .i32 x)).setCell ⟨g, c * 5 + 1, none⟩ (.int .i64 0)).setCell ⟨g, c * 5 + 2, none⟩ (.int .i64 p.1)).setCell ⟨g, c * 5 + 3, none⟩ (.int .i64 p.2.1)).setCell ⟨g, c * 5 + 4, none⟩ (.int .i64 p.2.2)) := H4.out.set (k := c) (by omega) (x, 0, p)
  have H5 := hide H5
  go_cut [] (fun wx => RPut w R K n cp g cap A p (PG.over f c x p wv) wx)
  case first =>
    clear v0 v1 v2 v3 v4 f0 f1 f2 f3 f4 q0 q1 q2
    have H5 := H5.out
    generalize (((((w4.setCell ⟨g, c * 5, none⟩ (.int .i32 x)).setCell ⟨g, c * 5 + 1, none⟩ (.int .i64 0)).setCell ⟨g, c * 5 + 2, none⟩ (.int .i64 p.1)).setCell ⟨g, c * 5 + 3, none⟩ (.int .i64 p.2.1)).setCell ⟨g, c * 5 + 4, none⟩ (.int .i64 p.2.2)) = w5 at H5 ⊢
    rcases hw1 with rfl | rfl
    · go_wp2_with fail
      go_meet
      exact H5.congr (fun j hj => by
        unfold PG.over
        by_cases e : j = c
        · rw [if_pos e, if_pos e, if_neg (by omega)]
        · rw [if_neg e, if_neg e, if_neg (by omega)])
    · obtain ⟨v0, v1, v2, v3, v4, f0, f1, f2, f3, f4⟩ := H5.five (k := c) (by omega)
      have H6 := hide (H5.kind (k := c) (x := x) (d := 0) (q := p) (by omega) (if_pos rfl) 1)
      clear H5 v0 v2 v3 v4 f0 f2 f3 f4
      go_upto_region 7 with fail
      go_cut [] (fun wx => RPut w R K n cp g cap A p (fun j => if j = c then (x, 1, p) else if j = c then (x, 0, p) else f j) wx)
      case first =>
        go_wp2_with fail
        go_meet
        exact H6.out
      case rest =>
        obtain ⟨v0, v1, v2, v3, v4, f0, f1, f2, f3, f4⟩ := hcut.five (k := c + 1) (by omega)
        obtain ⟨q0, q1, q2, _⟩ := hcut.2.1.three
        have H7 := hide (hcut.set (k := c + 1) (by omega) (0, 2, p))
        clear hcut
        go_wp2_with fail
        go_meet
        exact H7.out.congr (fun j hj => by
          unfold PG.over
          by_cases e : j = c
          · rw [if_neg (by omega), if_pos e, if_pos e, if_pos rfl]
          · by_cases e2 : j = c + 1
            · rw [if_pos e2, if_neg e, if_pos ⟨rfl, e2⟩]
            · rw [if_neg e2, if_neg e, if_neg e, if_neg e, if_neg (by omega)])
  case rest =>
    clear H4 H5 v0 v1 v2 v3 v4 f0 f1 f2 f3 f4 q0 q1 q2 hw1
    obtain ⟨x0, x1, x2, ho, hb⟩ := id hcut
    obtain ⟨a0, a1, a2, _⟩ := x0.three
    have l0 := x0.lt
    have HC := hide hcut
    have HB := hide hb
    clear x0 x1 x2 ho hb hcut
    go_upto_region 10 with (
      go_at_call 36
      go_must (refine (FR.out _ HB.out).mono ?_)
      rintro e w6 ⟨⟨A2, c2, rfl, hs2, hk3, hk4⟩, b6⟩
      have H6 := hide (HC.out.call b6)
      have hs2 := hide (hs2.below (b6.mono (show B ≤ _ from Nat.le_trans hB HB.out.size)))
      clear b6 FR a0 a1 a2 l0)
    go_cut [76] (fun u wx => ∃ b : Bool, u = .bool b ∧ (b = true ↔ 0 < c ∧ PG.kd (f c) = 2) ∧ wx = w6)
    case first =>
      obtain ⟨ad2, rfl, _, d0, d1, _⟩ := hs2.out.five (PG.range_at (f := f) (show c < K by omega))
      by_cases hc0 : 0 < c
      · by_cases hk2 : PG.kd (f c) = 2
        · have hq : (PG.kd (f c) == 2) = true := by simpa using hk2
          have hiff := hide (show true = true ↔ 0 < c ∧ PG.kd (f c) = 2 from ⟨fun _ => ⟨hc0, hk2⟩, fun _ => rfl⟩)
          clear hk2 d0
          go_wp2_with fail
          go_meet
          exact ⟨true, rfl, by simpa using hiff.out, rfl⟩
        · have hq : (PG.kd (f c) == 2) = false := by simpa using hk2
          have hiff := hide (show false = true ↔ 0 < c ∧ PG.kd (f c) = 2 from ⟨(fun h => by cases h), fun h => absurd h.2 hk2⟩)
          clear hk2 d0
          go_wp2_with fail
          go_meet
          exact ⟨false, rfl, by simpa using hiff.out, rfl⟩
      · have hiff := hide (show false = true ↔ 0 < c ∧ PG.kd (f c) = 2 from ⟨(fun h => by cases h), fun h => absurd h.1 hc0⟩)
        have hd : decide (0 < c) = false := by simpa using hc0
        have hd' : decide ((0 : Int) < (c : Int)) = false := by simp; omega
        clear d0 d1 hc0
        go_wp2_with fail
        go_meet
        exact ⟨false, rfl, by simpa using hiff.out, rfl⟩
    case rest =>
      obtain ⟨b, rfl, hiff, rfl⟩ := hcut
      go_upto_if 76 with fail
      go_cut [] (fun wx => RPut w R K n cp g cap A p (mid f c x p wv) wx)
      case first =>
        rcases b with _ | _
        · have hno : ¬ (0 < c ∧ PG.kd (f c) = 2) := fun h => by have := hiff.2 h; cases this
          have HM := hide (H6.out.congr (h' := mid f c x p wv) (fun j hj => by
            unfold mid
            rw [if_neg]
            rintro ⟨h1, h2⟩
            exact hno ⟨by omega, h2⟩))
          clear hno hiff
          go_wp2_with fail
          go_meet
          exact HM.out
        · obtain ⟨hc0, hk2⟩ := hiff.1 rfl
          obtain ⟨ad2, rfl, hadB, d0, d1, d2, d3, d4⟩ := hs2.out.five (PG.range_at (f := f) (show c - 1 < K by omega))
          have BP := hide (fun w' => BC.out (PG.pn (f (c - 1))) w')
          have hlast := hide (show ∀ j, (if j = c - 1 then PG.blank (PG.pn (f (c - 1))) else PG.over f c x p wv j) = mid f c x p wv j from fun j => by
            unfold mid
            by_cases e : j = c - 1
            · rw [if_pos e, if_pos ⟨by omega, hk2⟩, e]
            · rw [if_neg e, if_neg (by omega)])
          clear hiff hk2
          generalize f (c - 1) = F at *
          go_wp2_with (
            go_at_call 35
            go_must (refine (BP.out _).mono ?_)
            rintro e w7 ⟨rfl, b7⟩
            have H7 := H6.out.call b7
            obtain ⟨v0, v1, v2, v3, v4, f0, f1, f2, f3, f4⟩ := H7.five (k := c - 1) (by omega)
            have H8 := hide (H7.set (k := c - 1) (by omega) (PG.blank (PG.pn F)))
            clear b7 H7 BP)
          go_meet
          exact H8.out.congr (fun j _ => hlast.out j)
      case rest =>
        rename World => w7
        have hs3 := hide (seen_back hs2.out (H6.out.2.2.2.2.mono hB) (hcut.2.2.2.2.mono hB))
        obtain ⟨x0, x1, x2, ho, hb⟩ := id hcut
        obtain ⟨a0, a1, a2, _⟩ := x0.three
        have HC := hide hcut
        clear x0 x1 x2 ho hb hcut hs2 H6 hiff b
        go_upto_region 12 with fail
        go_cut [104] (fun u wx => ∃ b : Bool, u = .bool b ∧ (b = true ↔ c + wv < K ∧ PG.kd (f (c + wv - 1)) = 1) ∧ wx = w7)
        case first =>
          obtain ⟨ad2, rfl, _, d0, d1, _⟩ := hs3.out.five (PG.range_at (f := f) (show c + wv - 1 < K by omega))
          have i1 : ((c : Int) + (wv : Int) - 1).toNat = c + wv - 1 := by omega
          by_cases hc0 : c + wv < K
          · by_cases hk2 : PG.kd (f (c + wv - 1)) = 1
            · have hq : (PG.kd (f (c + wv - 1)) == 1) = true := by simpa using hk2
              have hiff := hide (show c + wv < K ∧ PG.kd (f (c + wv - 1)) = 1 from ⟨hc0, hk2⟩)
              clear hk2 d0
              go_wp2_with fail
              go_meet
              exact ⟨true, rfl, ⟨fun _ => hiff.out, fun _ => rfl⟩, rfl⟩
            · have hq : (PG.kd (f (c + wv - 1)) == 1) = false := by simpa using hk2
              have hiff := hide (show ¬ (c + wv < K ∧ PG.kd (f (c + wv - 1)) = 1) from fun h => hk2 h.2)
              clear hk2 d0
              go_wp2_with fail
              go_meet
              exact ⟨false, rfl, ⟨(fun h => by cases h), fun h => absurd h hiff.out⟩, rfl⟩
          · have hiff := hide (show ¬ (c + wv < K ∧ PG.kd (f (c + wv - 1)) = 1) from fun h => hc0 h.1)
            have hd : decide (c + wv < K) = false := by simpa using hc0
            have hd' : decide ((c : Int) + (wv : Int) < (K : Int)) = false := by simp; omega
            clear d0 d1 hc0
            go_wp2_with fail
            go_meet
            exact ⟨false, rfl, ⟨(fun h => by cases h), fun h => absurd h hiff.out⟩, rfl⟩
        case rest =>
          obtain ⟨b, rfl, hiff, rfl⟩ := hcut
          go_upto_if 104 with fail
          go_cut [] (fun wx => RPut w R K n cp g cap A p (PG.putRow f c x p wv) wx)
          case first =>
            rcases b with _ | _
            · have hno : ¬ (c + wv < K ∧ PG.kd (f (c + wv - 1)) = 1) := fun h => by have := hiff.2 h; cases this
              have HM := hide (HC.out.congr (h' := PG.putRow f c x p wv) (fun j hj => by
                rw [mid_put f c x p wv j hw12.1 hw12.2, if_neg]
                rintro ⟨h1, h2⟩
                exact hno ⟨by omega, h2⟩))
              clear hno hiff
              go_wp2_with fail
              go_meet
              exact HM.out
            · obtain ⟨hc0, hk2⟩ := hiff.1 rfl
              obtain ⟨ad2, rfl, hadB, d0, d1, d2, d3, d4⟩ := hs3.out.five (PG.range_at (f := f) (show c + wv < K by omega))
              have BP := hide (fun w' => BC.out (PG.pn (f (c + wv))) w')
              have hlast := hide (show ∀ j, (if j = c + wv then PG.blank (PG.pn (f (c + wv))) else mid f c x p wv j) = PG.putRow f c x p wv j from fun j => by
                rw [mid_put f c x p wv j hw12.1 hw12.2]
                by_cases e : j = c + wv
                · rw [if_pos e, if_pos ⟨e, hk2⟩, e]
                · rw [if_neg e, if_neg (fun h => e h.1)])
              clear hiff hk2
              generalize f (c + wv) = F at *
              go_wp2_with (
                go_at_call 35
                go_must (refine (BP.out _).mono ?_)
                rintro e w8 ⟨rfl, b8⟩
                have H7 := HC.out.call b8
                obtain ⟨v0, v1, v2, v3, v4, f0, f1, f2, f3, f4⟩ := H7.five (k := c + wv) (by omega)
                have H8 := hide (H7.set (k := c + wv) (by omega) (PG.blank (PG.pn F)))
                clear b8 H7 BP)
              go_meet
              exact H8.out.congr (fun j _ => hlast.out j)
          case rest =>
            obtain ⟨x0, x1, x2, ho, hb⟩ := hcut
            obtain ⟨a0, a1, a2, _⟩ := x0.three
            have l2 := x2.lt
            have X2 := hide x2
            have S := hide (SeenC.of_own ho)
            have HB := hide hb
            clear x0 x1 x2 ho hb HC hiff hs3 b BC
            go_wp2_with (
              go_at_call 37
              go_must (refine (FS.out _ HB.out _ _ _ S.out (Nat.le_refl _) (Nat.le_trans hB HB.out.size)).mono ?_)
              rintro e w9 ⟨v9, rfl, o9, b9⟩
              obtain ⟨A9, c9, rfl, _⟩ := own_form' o9
              have Z := X2.out.below b9 X2.out.lt
              obtain ⟨q0, q1, q2, q3, q4, q5⟩ := Z.three
              have Z := hide Z
              have o9 := hide (own_base' o9 HB.out.size)
              have HB := hide (HB.out.trans (b9.mono HB.out.size))
              clear b9 S X2 FS)
            have m := own_ne_box o9.out Z.out (by decide)
            have X := Z.out.set3 (.int .i64 R) (.int .i64 K) (.slice A9 out.length c9)
            obtain ⟨j0, j1, j2, _⟩ := X.three
            refine bodyPost_ret (v := .agg #[.int .i64 R, .int .i64 K, .slice A9 out.length c9]) (by simp [results, Tryd.results15, go_sem, j0, j1, j2]) rfl ⟨_, rfl, ?_, ?_⟩
            · exact ownsRow_setCell_other (ownsRow_setCell_other (ownsRow_setCell_other o9.out (a := ⟨w.heap.size + 1 + 1, 0, none⟩) m _) (a := ⟨w.heap.size + 1 + 1, 1, none⟩) m _) (a := ⟨w.heap.size + 1 + 1, 2, none⟩) m _
            · exact below_set3 HB.out (by omega) _ _ _
end Go.Proofs.YtfeapcneebofjaaDoor
set_option maxRecDepth 100000
namespace Go.Proofs.YtfeapcneebofjaaDoor
open Go.RowKit
set_option linter.unusedVariables false
set_option maxHeartbeats 4000000 in
theorem rput_not (R K n cp wv : Nat) (r c x : Int) (p : PG.Pn) (A : Option Addr) (w : World) (hR : R ≤ 40) (hK : K ≤ 60) (hr : -1000 ≤ r ∧ r ≤ 1000) (hc : -1000 ≤ c ∧ c ≤ 1000)
    (hx0 : -2147483648 ≤ x) (hx1 : x ≤ 2147483647) (hw : C.width x = (wv : Int)) (ho : r < 0 ∨ (R : Int) ≤ r ∨ c < 0 ∨ wv = 0 ∨ (K : Int) < c + wv) :
    Calls Tryd.prog 15 #[gv R K (.slice A n cp), .int .i64 r, .int .i64 c, .int .i32 x, pv p] w fun e w' => e = .returned (gv R K (.slice A n cp)) ∧ Below w.heap.size w w' := by
  have WD := hide (fun w' => (show Calls Tryd.prog 24 #[.int .i32 x] w' fun e w'' => e = .returned (.int .i64 (wv : Int)) ∧ Below w'.heap.size w' w'' by rw [← hw]; exact refWidth_any x w' hx0 hx1))
  have hw2 : wv ≤ 2 := by have := PG.width_bd x; omega
  have cs : r < 0 ∨ (0 ≤ r ∧ (R : Int) ≤ r) ∨ (0 ≤ r ∧ r < R ∧ c < 0) ∨ (0 ≤ r ∧ r < R ∧ 0 ≤ c ∧ wv = 0) ∨ (0 ≤ r ∧ r < R ∧ 0 ≤ c ∧ 1 ≤ wv ∧ (K : Int) < c + wv) := by omega
  clear hw hx0 hx1 ho
  unfold gv pv
  rcases cs with h | ⟨h, h'⟩ | ⟨h, h', h2⟩ | ⟨h, h', h2, h3⟩ | ⟨h, h', h2, h3, h4⟩
  case inr.inr.inr.inl =>
    subst h3
    go_enter Tryd.func15, Tryd.ntmps15
    go_wp2_with (
      go_at_call 24
      go_must (refine (WD.out _).mono ?_)
      rintro e w1 ⟨rfl, b1⟩
      obtain ⟨x0, x1, x2, bw⟩ := boxes3 (w := w) (t0 := 26) (t1 := 23) (t2 := 26) (cs := #[.int .i64 R, .int .i64 K, .slice A n cp]) (ds := #[.int .i64 p.1, .int .i64 p.2.1, .int .i64 p.2.2]) (es := #[.int .i64 0, .int .i64 0, .slice none 0 0])
      have x0 := x0.below b1 x0.lt
      have x2 := x2.below b1 x2.lt
      have bb := bw.trans (b1.mono bw.size)
      obtain ⟨a0, a1, a2, _⟩ := x0.three
      obtain ⟨q0, q1, q2, q3, q4, q5⟩ := x2.three
      have X2 := hide x2
      clear b1 bw WD x0 x1 x2)
    have X := X2.out.set3 (.int .i64 R) (.int .i64 K) (.slice A n cp)
    obtain ⟨j0, j1, j2, _⟩ := X.three
    exact bodyPost_ret (v := .agg #[.int .i64 R, .int .i64 K, .slice A n cp]) (by simp [results, Tryd.results15, go_sem, j0, j1, j2]) rfl ⟨rfl, below_set3 bb (by omega) _ _ _⟩
  all_goals
    go_enter Tryd.func15, Tryd.ntmps15
    go_wp2_with (
      go_at_call 24
      go_must (refine (WD.out _).mono ?_)
      rintro e w1 ⟨rfl, b1⟩
      obtain ⟨x0, x1, x2, bw⟩ := boxes3 (w := w) (t0 := 26) (t1 := 23) (t2 := 26) (cs := #[.int .i64 R, .int .i64 K, .slice A n cp]) (ds := #[.int .i64 p.1, .int .i64 p.2.1, .int .i64 p.2.2]) (es := #[.int .i64 0, .int .i64 0, .slice none 0 0])
      have x0 := x0.below b1 x0.lt
      have x2 := x2.below b1 x2.lt
      have bb := bw.trans (b1.mono bw.size)
      obtain ⟨a0, a1, a2, _⟩ := x0.three
      obtain ⟨q0, q1, q2, q3, q4, q5⟩ := x2.three
      have X2 := hide x2
      clear b1 bw WD x0 x1 x2)
    have X := X2.out.set3 (.int .i64 R) (.int .i64 K) (.slice A n cp)
    obtain ⟨j0, j1, j2, _⟩ := X.three
    exact bodyPost_ret (v := .agg #[.int .i64 R, .int .i64 K, .slice A n cp]) (by simp [results, Tryd.results15, go_sem, j0, j1, j2]) rfl ⟨rfl, below_set3 bb (by omega) _ _ _⟩
set_option maxHeartbeats 4000000 in
theorem rwipe_not (R K n cp : Nat) (r a b : Int) (p : PG.Pn) (A : Option Addr) (w : World) (hR : R ≤ 40) (ho : r < 0 ∨ (R : Int) ≤ r) :
    Calls Tryd.prog 17 #[gv R K (.slice A n cp), .int .i64 r, .int .i64 a, .int .i64 b, pv p] w fun e w' => e = .returned (gv R K (.slice A n cp)) ∧ Below w.heap.size w w' := by
  have cs : r < 0 ∨ (0 ≤ r ∧ (R : Int) ≤ r) := by omega
  clear ho
  unfold gv pv
  rcases cs with h | ⟨h, h'⟩
  all_goals
    go_enter Tryd.func17, Tryd.ntmps17
    go_wp2_with fail
    refine bodyPost_ret (v := .agg #[.int .i64 R, .int .i64 K, .slice A n cp]) (by simp [results, Tryd.results17, go_sem]) rfl ⟨rfl, ?_⟩
    exact (((Below.refl _ _).alloc (Nat.le_refl _) _).alloc (by simp) _).alloc (by simp; omega) _
end Go.Proofs.YtfeapcneebofjaaDoor
set_option maxRecDepth 100000
namespace Go.Proofs.YtfeapcneebofjaaDoor
open Go.RowKit
set_option linter.unusedVariables false
namespace PG
theorem halfR_row {g : Gr} {R K k : Nat} (hk : k < R) : ((cells (halfR g R K k)).drop (k * K)).take K = (List.range K).map (fun _ => blank plain) := by
  have h := row_cut (g := halfR g R K k) (r := k) hk
  rw [show (halfR g R K k).cols = K from rfl] at h
  rw [h]
  refine List.map_congr_left fun j _ => ?_
  show (if k < k then _ else blank plain) = blank plain
  rw [if_neg (Nat.lt_irrefl k)]
theorem halfR_next {g : Gr} {R K k : Nat} (hk : k < R) : spl (cells (halfR g R K k)) (k * K) (mendL ((List.range K).map (under g k))) = cells (halfR g R K (k + 1)) := by
  rw [mendL_range]
  have e3 := spl_cells (g := halfR g R K k) (r := k) (m := (List.range K).map (mend (under g k) K)) (h := mend (under g k) K) hk (by simp; rfl) (fun j hj => range_at hj)
  rw [show (halfR g R K k).cols = K from rfl] at e3
  rw [e3]
  refine cells_ext ⟨rfl, rfl, fun i j hi hj => ?_⟩
  show (if i = k then mend (under g k) K j else if i < k then mend (under g i) K j else blank plain) = if i < k + 1 then mend (under g i) K j else blank plain
  by_cases e : i = k
  · subst e
    rw [if_pos rfl, if_pos (by omega)]
  · rw [if_neg e]
    by_cases h : i < k
    · rw [if_pos h, if_pos (by omega)]
    · rw [if_neg h, if_neg (by omega)]
theorem halfR_stop {g : Gr} {R K k : Nat} (hk : k = R ∨ k = g.rows) : cells (halfR g R K k) = cells (resizeG g R K) := by
  refine cells_ext ⟨rfl, rfl, fun i j hi hj => ?_⟩
  have hi : i < R := hi
  show (if i < k then mend (under g i) K j else blank plain) = mend (under g i) K j
  by_cases h : i < k
  · rw [if_pos h]
  · rw [if_neg h]
    have hg : g.rows ≤ i := by omega
    have hu : ∀ m, under g i m = blank plain := fun m => by unfold under; rw [if_neg (by omega)]
    unfold mend
    rw [hu j, if_neg]
    rw [kd_blank]
    omega
end PG
/-- the first c cells of a row taken over -/
def part (f : Nat → PG.Cl) (c j : Nat) : PG.Cl := if j < c then f j else PG.blank PG.plain
theorem part_set (f : Nat → PG.Cl) (n c : Nat) : ((List.range n).map (part f c)).set c (f c) = (List.range n).map (part f (c + 1)) := by
  rw [range_set]
  refine List.map_congr_left fun j _ => ?_
  unfold part
  by_cases e : j = c
  · subst e
    rw [if_pos rfl, if_pos (by omega)]
  · rw [if_neg e]
    by_cases h : j < c
    · rw [if_pos h, if_pos (by omega)]
    · rw [if_neg h, if_neg (by omega)]
theorem part_zero (f : Nat → PG.Cl) (n : Nat) : (List.range n).map (part f 0) = (List.range n).map (fun _ => PG.blank PG.plain) := List.map_congr_left fun j _ => if_neg (Nat.not_lt_zero j)
theorem part_all (G : PG.Gr) {k K : Nat} (hk : k < G.rows) : (List.range K).map (part (G.f k) (min K G.cols)) = (List.range K).map (PG.under G k) := List.map_congr_left fun j hj => by
  have hj := List.mem_range.1 hj
  unfold part PG.under
  by_cases h : j < G.cols
  · rw [if_pos (by omega), if_pos ⟨hk, h⟩]
  · rw [if_neg (by omega), if_neg (fun x => h x.2)]
/-- where the document's Resize stands between its rounds -/
structure RSize (w : World) (G : PG.Gr) (n cp R K N gt k : Nat) (ad : Addr) (v : Value) (wx : World) : Prop where
  box0 : Box wx w.heap.size 26 #[.int .i64 G.rows, .int .i64 G.cols, .slice (some ad) n cp]
  box1 : Box wx (w.heap.size + 1) 26 #[.int .i64 0, .int .i64 0, .slice none 0 0]
  boxT : Box wx gt 26 #[.int .i64 R, .int .i64 K, v]
  own : wx.ownsRow w.heap.size 32 5 v N (ccells (PG.cells (PG.halfR G R K k)))
  below : Below w.heap.size w wx
theorem RSize.call {w wx wy : World} {G : PG.Gr} {n cp R K N gt k : Nat} {ad : Addr} {v : Value} (h : RSize w G n cp R K N gt k ad v wx) (b : Below wx.heap.size wx wy) : RSize w G n cp R K N gt k ad v wy :=
  ⟨h.box0.below b h.box0.lt, h.box1.below b h.box1.lt, h.boxT.below b h.boxT.lt, own_low h.own b, h.below.trans (b.mono h.below.size)⟩
theorem RSize.grown {w wx wy : World} {G : PG.Gr} {n cp R K N gt k : Nat} {ad : Addr} {v : Value} (h : RSize w G n cp R K N gt k ad v wx) {g' n' m : Nat} {v' : Value} {xs : List Value} (o : wx.ownsRow m 32 5 v' n' xs) (hv : v'.ownBlock = some g') (hne : v.ownBlock ≠ some g') (hm : w.heap.size ≤ g') (b : wx.grownBy wy (some g')) : RSize w G n cp R K N gt k ad v wy :=
  ⟨h.box0.grown b (fun e => own_ne_box o h.box0 (by decide) (hv.trans e.symm)), h.box1.grown b (fun e => own_ne_box o h.box1 (by decide) (hv.trans e.symm)), h.boxT.grown b (fun e => own_ne_box o h.boxT (by decide) (hv.trans e.symm)),
    own_kept h.own (Kept.of_grown b) (fun q hq hm => hne (by simp at hm; rw [hq, hm])), h.below.grown b h.below.size (by rintro _ ⟨⟩; exact hm)⟩
set_option maxHeartbeats 8000000 in
theorem rresize_any (G : PG.Gr) (n cp B R K : Nat) (A : Option Addr) (w : World) (hl : SeenC w B A n (PG.cells G)) (hB : B ≤ w.heap.size) (hn : n = G.rows * G.cols) (hnc : n ≤ cp) (hcp : cp ≤ maxLen) (g1 : 1 ≤ G.rows) (g2 : G.rows ≤ 40) (g3 : 1 ≤ G.cols) (g4 : G.cols ≤ 60)
    (r1 : 1 ≤ R) (r2 : R ≤ 40) (k1 : 1 ≤ K) (k2 : K ≤ 60) :
    Calls Tryd.prog 19 #[gv G.rows G.cols (.slice A n cp), .int .i64 R, .int .i64 K] w (GaveG w R K (PG.cells (PG.resizeG G R K))) := by
  obtain ⟨i0, hi, hz0, hz1, hz2⟩ := info_parts info_cell
  have hN1 : 1 ≤ R * K := Nat.mul_le_mul r1 k1
  have hN2 : R * K ≤ 2400 := Nat.mul_le_mul r2 k2
  have hnn : 1 ≤ n := by rw [hn]; exact Nat.mul_le_mul g1 g3
  obtain ⟨c0, hc0'⟩ : ∃ c0, (PG.cells G)[0]? = some c0 := ⟨_, List.getElem?_eq_getElem (by rw [PG.cells_len]; omega)⟩
  obtain ⟨ad, rfl, hadB, _⟩ := hl.at_ hc0'
  clear hc0'
  have PL := hide (fun w' => rplain_any w')
  have NW := hide (fun w' => rnew_any R K PG.plain w' r2 k2)
  -- the other grid's row
  have RG : ∀ (w' : World) (k : Nat), Below w.heap.size w w' → k < G.rows → Calls Tryd.prog 36 #[gv G.rows G.cols (.slice (some ad) n cp), .int .i64 k] w' fun e w'' => ∃ A' c', e = .returned (.slice A' G.cols c') ∧ G.cols ≤ c' ∧ SeenC w'' w.heap.size A' G.cols ((List.range G.cols).map (G.f k)) ∧ Below w'.heap.size w' w'' := fun w' k hb hk => by
    have h := rrow_any G.rows G.cols k n cp B (some ad) (PG.cells G) w' (hl.below (hb.mono hB)) hn hnc hcp hk g2 g4
    rw [PG.row_cut hk] at h
    refine h.mono ?_
    rintro e w'' ⟨⟨A', c', rfl, hs, h1, h2⟩, bb⟩
    exact ⟨A', c', rfl, h1, (hs.below (bb.mono (Nat.le_trans hB hb.size))).more hB, bb⟩
  have RG := hide RG
  -- the row of what is made
  have RO : ∀ (w' : World) (k c' : Nat) (A' : Option Addr), k < R → SeenC w' w'.heap.size A' (R * K) (PG.cells (PG.halfR G R K k)) → R * K ≤ c' → c' ≤ maxLen →
      Calls Tryd.prog 36 #[gv R K (.slice A' (R * K) c'), .int .i64 k] w' fun e w'' => (∃ A2 c2, e = .returned (.slice A2 K c2) ∧ K ≤ c2 ∧ SeenC w'' w'.heap.size A2 K ((List.range K).map (fun _ => PG.blank PG.plain))) ∧ Below w'.heap.size w' w'' := fun w' k c' A' hk h h1 h2 => by
    have h := rrow_any R K k (R * K) c' w'.heap.size A' _ w' h rfl h1 h2 hk r2 k2
    rw [PG.halfR_row hk] at h
    refine h.mono ?_
    rintro e w'' ⟨⟨A2, c2, rfl, hs, h3, h4⟩, bb⟩
    exact ⟨⟨A2, c2, rfl, h3, hs.below bb⟩, bb⟩
  have RO := hide RO
  have MD := hide (fun (w' : World) (B' : Nat) (A' : Option Addr) (c' k : Nat) (h : SeenC w' B' A' K ((List.range K).map (PG.under G k))) (hB' : B' ≤ w'.heap.size) => rmend_any K c' B' A' _ w' h hB' (by omega) (by omega))
  have ST : ∀ (w' : World) (k c' c2 : Nat) (A' A2 : Option Addr), k < R → SeenC w' w'.heap.size A' (R * K) (PG.cells (PG.halfR G R K k)) → SeenC w' w'.heap.size A2 K (mendL ((List.range K).map (PG.under G k))) →
      Calls Tryd.prog 37 #[gv R K (.slice A' (R * K) c'), .int .i64 k, .slice A2 K c2] w' fun e w'' => ∃ vs, e = .returned (gv R K vs) ∧ w''.ownsRow w'.heap.size 32 5 vs (R * K) (ccells (PG.cells (PG.halfR G R K (k + 1)))) ∧ Below w'.heap.size w' w'' := fun w' k c' c2 A' A2 hk h1 h2 => by
    have h := rset_any R K k (R * K) c' K c2 w'.heap.size A' A2 _ _ w' h1 h2 (Nat.le_refl _) rfl hk (Nat.le_refl _) r2 k1 k2
    rw [PG.halfR_next hk] at h
    refine h.mono ?_
    rintro e w'' ⟨vs, rfl, o, bb⟩
    rw [PG.cells_len, show (PG.halfR G R K (k + 1)).rows * (PG.halfR G R K (k + 1)).cols = R * K from rfl] at o
    exact ⟨vs, rfl, o, bb⟩
  have ST := hide ST
  have R0 := hide (PG.halfR_zero G R K)
  have RS := hide (fun k (hk : k = R ∨ k = G.rows) => PG.halfR_stop (g := G) (R := R) (K := K) hk)
  have PA := hide (fun k (hk : k < G.rows) => part_all G (K := K) hk)
  obtain ⟨M, hM⟩ : ∃ M, min R G.rows = M := ⟨_, rfl⟩
  obtain ⟨Q, hQ⟩ : ∃ Q, min K G.cols = Q := ⟨_, rfl⟩
  have m1 : (if G.rows < R then (G.rows : Int) else (R : Int)) = (M : Int) := by split <;> omega
  have q1 : (if G.cols < K then (G.cols : Int) else (K : Int)) = (Q : Int) := by split <;> omega
  have hM1 : M ≤ R ∧ M ≤ G.rows ∧ (M = R ∨ M = G.rows) := by omega
  have hQ1 : Q ≤ K ∧ Q ≤ G.cols := by omega
  have hQ := hide hQ
  unfold gv at *
  unfold GaveG pv PG.plain at *
  unfold gv at *
  generalize hNN : R * K = N at *
  have hNN := hide hNN
  clear hl hn hM hnc hcp
  go_enter Tryd.func19, Tryd.ntmps19
  go_wp2_with (first
    | (go_at_call 26
       go_must (refine (PL.out _).mono ?_)
       rintro e w1 ⟨rfl, h1⟩
       have b1 := (((Below.refl w.heap.size w).alloc (Nat.le_refl _) (.cells #[.int .i64 G.rows, .int .i64 G.cols, .slice (some ad) n cp] 26)).alloc (by simp) (.cells #[.int .i64 0, .int .i64 0, .slice none 0 0] 26)).trans (h1.mono (by simp; omega))
       have x0 := ((Box.new w 26 #[.int .i64 G.rows, .int .i64 G.cols, .slice (some ad) n cp]).alloc (.cells #[.int .i64 0, .int .i64 0, .slice none 0 0] 26)).below h1 (by simp; omega)
       have x1 := (Box.new (w.alloc (.cells #[.int .i64 G.rows, .int .i64 G.cols, .slice (some ad) n cp] 26)) 26 #[.int .i64 0, .int .i64 0, .slice none 0 0]).below h1 (by simp)
       rw [World.size_alloc] at x1
       have b1 := hide b1
       have x0 := hide x0
       have x1 := hide x1
       clear h1 PL)
    | (go_at_call 14
       go_must (refine (NW.out _).mono ?_)
       rintro e w2 ⟨v2, rfl, o2, b2⟩
       have x0 := x0.out.below b2 x0.out.lt
       have x1 := x1.out.below b2 x1.out.lt
       have o2 := own_base' o2 b1.out.size
       rw [List.length_replicate] at o2
       have bb := b1.out.trans (b2.mono b1.out.size)
       have hs2 := bb.size
       obtain ⟨Av, cv, rfl, _⟩ := own_form' o2
       have RS0 : RSize w G n cp R K N w2.heap.size 0 ad (.slice Av N cv) (w2.alloc (.cells #[.int .i64 R, .int .i64 K, .slice Av N cv] 26)) := ⟨x0.alloc _, x1.alloc _, Box.new w2 _ _, by rw [R0.out]; exact o2.alloc _, bb.alloc hs2 _⟩
       have RS0 := hide RS0
       have lt2 := Nat.le_trans x1.lt (Nat.le_refl _)
       clear b1 b2 bb x0 x1 o2 NW))
  go_loopw [8] (fun i wr => ∃ (k : Nat) (v : Value), k ≤ M ∧ i = .int .i64 k ∧ RSize w G n cp R K N w2.heap.size k ad v wr) (fun i _ => M - (intOf i).toNat)
  case atStart => exact ⟨0, _, Nat.zero_le _, rfl, RS0.out⟩
  case round =>
    clear RS0
    obtain ⟨k, v, hk, rfl, H⟩ := hrel
    obtain ⟨a0, a1, a2, _⟩ := H.box0.three
    obtain ⟨t0, t1, t2, _⟩ := H.boxT.three
    obtain ⟨Aw, cw, rfl, hcw, hcm, hblk⟩ := own_form' H.own
    have l0 := H.box0.lt
    have l1 := H.box1.lt
    have lT := H.boxT.lt
    have lb := H.below.size
    by_cases hlt : k < M
    · have H := hide H
      have hblk := hide hblk
      go_wp2_with (first
        | (go_at_call 36
           go_must (refine (RO.out _ k _ _ (by omega) (((SeenC.of_own H.out.own).below ((Below.refl _ _).alloc (Nat.le_refl _) _)).more (by simp)) hcw hcm).mono ?_)
           rintro e w3 ⟨⟨A3, c3, rfl, hc3, hs3⟩, b3⟩
           have OL := hide (own_low (own_lit5 (w := wr) (base := wr.heap.size) 32 rfl (Nat.le_refl _)) b3)
           have b3' : Below wr.heap.size wr w3 := ((Below.refl _ _).alloc (Nat.le_refl _) _).trans (b3.mono (by simp))
           have hs3 := hide hs3
           clear b3)
        | (at_builtin
           go_must (refine wpList_appC rfl (.tmp 23) (.tmp 26) 24 rfl wr.heap.size 32 i0 _ 40 Tryd.underlying24 hi hz0 hz1 hz2 rfl (.slice (some ⟨wr.heap.size, 0, none⟩) 0 0) 0 [] rfl OL.out _ A3 K c3 ((List.range K).map (fun _ => PG.blank PG.plain)) rfl hs3.out (by omega) (by omega) b3'.size ?_)
           intro v4 w4 hown4 hg4 hm4
           simp only [Nat.zero_add, List.nil_append] at hown4
           obtain ⟨gl, capl, rfl, hgb, hgc, hgm⟩ := own_at hown4 k1
           have H3 := H.out.call b3'
           have H4 : RSize w G n cp R K N w2.heap.size k ad (.slice Aw N cw) w4 := by
             have hne : some wr.heap.size ≠ (Value.slice Aw N cw).ownBlock := fun e => by have := (hblk.out _ e.symm).2; omega
             exact ⟨H3.box0.grown hg4 (by simp [Value.ownBlock]; omega), H3.box1.grown hg4 (by simp [Value.ownBlock]; omega), H3.boxT.grown hg4 (by simp [Value.ownBlock]; omega), own_kept H3.own (Kept.of_grown hg4) (fun q hq hm => hne (by simp [Value.ownBlock] at hm; rw [hq, hm])), H3.below.grown hg4 H3.below.size (by rintro _ ⟨⟩; exact lb)⟩
           rw [← part_zero (G.f k) K] at hown4
           have H4 := hide H4
           have hown4 := hide hown4
           clear hg4 hm4 b3' OL hs3 H H3 a0 a1 a2 t0 t1 t2))
      have lw : wr.heap.size ≤ w4.heap.size := by have := (hown4.out.lt gl rfl).2; omega
      go_loopw [10] (fun i wi => ∃ c : Nat, c ≤ Q ∧ i = .int .i64 c ∧ RSize w G n cp R K N w2.heap.size k ad (.slice Aw N cw) wi ∧ wi.ownsRow wr.heap.size 32 5 (.slice (some ⟨gl, 0, none⟩) K capl) K (ccells ((List.range K).map (part (G.f k) c)))) (fun i _ => Q - (intOf i).toNat)
      case atStart => exact ⟨0, Nat.zero_le _, rfl, H4.out, hown4.out⟩
      case round =>
        clear H4 hown4
        obtain ⟨c, hc, rfl, H, ho⟩ := hrel
        obtain ⟨a0, a1, a2, _⟩ := H.box0.three
        have lO0 := H.box0.lt
        have lO1 := H.box1.lt
        have lOT := H.boxT.lt
        rename World => wi
        by_cases hlc : c < Q
        · have HF := hide (PG.range_at (f := G.f k) (show c < G.cols by omega))
          have hpart := hide (part_set (G.f k) K c)
          have H := hide H
          have ho := hide ho
          generalize G.f k c = F at *
          go_wp2_with (
            go_at_call 36
            go_must (refine (RG.out _ k H.out.below (by omega)).mono ?_)
            rintro e w5 ⟨A5, c5, rfl, hc5, hs5, b5⟩
            obtain ⟨ad5, rfl, had5, d0, d1, d2, d3, d4⟩ := hs5.five HF.out
            have o5 := own_low ho.out b5
            have H5 := H.out.call b5
            obtain ⟨v0, v1, v2, v3, v4, f0, f1, f2, f3, f4⟩ := own_five o5 (k := c) (PG.range_at (show c < K by omega))
            have S := own_store5 o5 (k := c) F (by omega) (by simp)
            have hne : (Value.slice Aw N cw).ownBlock ≠ some gl := fun e => by have := (hblk.out _ e).2; omega
            have H6 := hide (H5.grown (g' := gl) o5 rfl hne (by omega) S.2)
            have S1 := S.1
            rw [hpart.out] at S1
            have S1 := hide S1
            clear hs5 b5 o5 H5 S hne H ho a0 a1 a2)
          go_roundw
          case rel => exact ⟨c + 1, by omega, by go_num, H6.out, S1.out⟩
          case measure => simp [intOf]; omega
        · obtain rfl : c = Q := by omega
          rw [← hQ.out, PA.out k (by omega)] at ho
          obtain ⟨t0, t1, t2, _⟩ := H.boxT.three
          have hsz := hide H.below.size
          have HD : RSize w G n cp R K N w2.heap.size k ad (.slice Aw N cw) wi.drew := ⟨H.box0, H.box1, H.boxT, H.own, H.below.drew⟩
          have HD := hide HD
          have SD := hide (show SeenC wi.drew wi.drew.heap.size (some ⟨gl, 0, none⟩) K ((List.range K).map (PG.under G k)) from SeenC.of_own ho)
          clear H ho
          go_wp2_with fail
          clear a0 a1 a2
          go_region_law (first
            | (go_simp; go_at_call 38; refine (MD.out _ _ _ capl k SD.out (Nat.le_refl _)).mono ?_; rintro e wm ⟨vm, rfl, om, bm⟩
               (obtain ⟨Am, cm, rfl, _⟩ := own_form' om)
               have Hm := hide (HD.out.call bm)
               have sm := hide (SeenC.of_own om)
               obtain ⟨t0m, t1m, t2m, _⟩ := Hm.out.boxT.three)
            | (go_simp; go_at_call 37; refine (ST.out _ k _ _ _ _ (by omega) (SeenC.of_own Hm.out.own) sm.out).mono ?_; rintro e ws ⟨vs, rfl, os, bs⟩
               (obtain ⟨As, cs, rfl, _⟩ := own_form' os)
               have Hs := Hm.out.call bs
               obtain ⟨t0s, t1s, t2s, f0s, f1s, f2s⟩ := Hs.boxT.three))
          all_goals
            have nT := own_ne_box os Hs.boxT (by decide)
            have hne0 : w.heap.size ≠ w2.heap.size := by omega
            have hne1 : w.heap.size + 1 ≠ w2.heap.size := by omega
            have hws : w.heap.size ≤ wm.heap.size := Hm.out.below.size
            have HN : RSize w G n cp R K N w2.heap.size (k + 1) ad (.slice As N cs) (((ws.setCell ⟨w2.heap.size, 0, none⟩ (.int .i64 R)).setCell ⟨w2.heap.size, 1, none⟩ (.int .i64 K)).setCell ⟨w2.heap.size, 2, none⟩ (.slice As N cs)) :=
              ⟨Hs.box0.far3 hne0 _ _ _, Hs.box1.far3 hne1 _ _ _, Hs.boxT.set3 _ _ _, own_base' (ownsRow_setCell_other (ownsRow_setCell_other (ownsRow_setCell_other os (a := ⟨w2.heap.size, 0, none⟩) nT _) (a := ⟨w2.heap.size, 1, none⟩) nT _) (a := ⟨w2.heap.size, 2, none⟩) nT _) hws, below_set3 Hs.below (by omega) _ _ _⟩
            have HN := hide HN
            clear HD SD Hm sm om bm os bs Hs nT t0 t1 t2 t0m t1m t2m t0s t1s t2s f0s f1s f2s
            go_wp2_with fail
            go_roundw
            case rel => exact ⟨k + 1, _, by omega, by go_num, HN.out⟩
            case measure => simp [intOf]; omega
    · obtain rfl : k = M := by omega
      have ho := H.own
      rw [RS.out k hM1.2.2] at ho
      have x1 := H.box1
      have hb := H.below
      have n1 := own_ne_box ho x1 (by decide)
      have X := x1.set3 (.int .i64 R) (.int .i64 K) (.slice Aw N cw)
      have O := ownsRow_setCell_other (ownsRow_setCell_other (ownsRow_setCell_other ho (a := ⟨w.heap.size + 1, 0, none⟩) n1 (.int .i64 R)) (a := ⟨w.heap.size + 1, 1, none⟩) n1 (.int .i64 K)) (a := ⟨w.heap.size + 1, 2, none⟩) n1 (.slice Aw N cw)
      have bz := below_set3 hb (show w.heap.size ≤ w.heap.size + 1 by omega) (.int .i64 R) (.int .i64 K) (.slice Aw N cw)
      obtain ⟨j0, j1, j2, _⟩ := X.three
      obtain ⟨q0, q1, q2, q3, q4, q5⟩ := x1.three
      have O := hide O
      have bz := hide bz
      have hlenR := hide (PG.cells_len (PG.resizeG G R K))
      clear ho RO RG ST MD PA RS H x1 hb
      go_wp2_with fail
      refine bodyPost_ret (v := .agg #[.int .i64 R, .int .i64 K, .slice Aw N cw]) (by simp [results, Tryd.results19, go_sem, j0, j1, j2]) rfl ⟨_, rfl, ?_, bz.out⟩
      rw [hlenR.out]
      have e : (PG.resizeG G R K).rows * (PG.resizeG G R K).cols = N := hNN.out
      rw [e]
      exact O.out
end Go.Proofs.YtfeapcneebofjaaDoor
