/- The contract of the document's own Put, where x stands then. The contracts of the document's own Put and Wipe, where they give what they were given. The contract of the document's own Resize. -/
import Derived.Test.YtcbmjdacdjcggaaDoorGridPure
import Derived.Test.YtcbmjdacdjcggaaDoorGridRefNew
import Derived.Test.YtcbmjdacdjcggaaDoorRefWidth
import Derived.Deep.DeepCutAuto
set_option maxRecDepth 100000
namespace Go.Proofs.YtcbmjdacdjcggaaDoor
open Go.RowKit
set_option linter.unusedVariables false
theorem range_set {n k : Nat} (h : Nat → PG.Cl) (v : PG.Cl) : ((List.range n).map h).set k v = (List.range n).map (fun j => if j = k then v else h j) := by
  refine List.ext_getElem? fun j => ?_
  by_cases hj : j < n
  · by_cases e : j = k
    · subst e
      rw [List.getElem?_set_self (by simpa using hj), PG.range_at hj, if_pos rfl]
    · rw [List.getElem?_set_ne (by omega), PG.range_at hj, PG.range_at hj, if_neg e]
  · rw [List.getElem?_eq_none (by rw [List.length_set]; simp; omega), List.getElem?_eq_none (by simp; omega)]
/-- a kind alone written anew -/
theorem kind_set : ∀ (l : List PG.Cl) (k : Nat) (x d : Int) (p : PG.Pn) (d' : Int), l[k]? = some (x, d, p) → (ccells l).set (k * 5 + 1) (.int .i64 d') = ccells (l.set k (x, d', p))
  | [], k, x, d, p, d', h => by simp at h
  | c :: l, 0, x, d, p, d', h => by
    simp at h
    subst h
    rfl
  | c :: l, k + 1, x, d, p, d', h => by
    have ih := kind_set l k x d p d' (by simpa using h)
    rw [List.set_cons_succ, ccells_cons, ccells_cons, ← ih, List.set_append_right _ _ (by show 5 ≤ _; omega)]
    congr 2
    show (k + 1) * 5 + 1 - 5 = k * 5 + 1
    omega
theorem own_kind {w : World} {base n g cap : Nat} {e : TypeId} {l : List PG.Cl} (h : w.ownsRow base e 5 (.slice (some ⟨g, 0, none⟩) n cap) n (ccells l)) {k : Nat} {x d : Int} {p : PG.Pn} (hk : l[k]? = some (x, d, p)) (d' : Int) :
    (w.setCell ⟨g, k * 5 + 1, none⟩ (.int .i64 d')).ownsRow base e 5 (.slice (some ⟨g, 0, none⟩) n cap) n (ccells (l.set k (x, d', p))) ∧ w.grownBy (w.setCell ⟨g, k * 5 + 1, none⟩ (.int .i64 d')) (some g) := by
  have s := h.stored (k * 5 + 1) (.int .i64 d')
  rw [kind_set l k x d p d' hk] at s
  exact s
/-- x put over it, and the cell ahead of it blank, if it was half of a wide rune -/
def mid (f : Nat → PG.Cl) (c : Nat) (x : Int) (p : PG.Pn) (w : Nat) (j : Nat) : PG.Cl := if j + 1 = c ∧ PG.kd (f c) = 2 then PG.blank (PG.pn (f j)) else PG.over f c x p w j
theorem mid_put (f : Nat → PG.Cl) (c : Nat) (x : Int) (p : PG.Pn) (w j : Nat) (hw : 1 ≤ w) (hw2 : w ≤ 2) : PG.putRow f c x p w j = if j = c + w ∧ PG.kd (f (c + w - 1)) = 1 then PG.blank (PG.pn (f j)) else mid f c x p w j := by
  unfold PG.putRow mid PG.over
  by_cases h1 : j = c
  · rw [if_pos h1, if_neg (c := j = c + w ∧ _) (by omega), if_neg (c := j + 1 = c ∧ _) (by omega), if_pos h1]
  by_cases h2 : w = 2 ∧ j = c + 1
  · rw [if_neg h1, if_pos h2, if_neg (c := j = c + w ∧ _) (by omega), if_neg (c := j + 1 = c ∧ _) (by omega), if_neg h1, if_pos h2]
  by_cases h3 : j + 1 = c ∧ PG.kd (f c) = 2
  · rw [if_neg h1, if_neg h2, if_pos h3, if_neg (c := j = c + w ∧ _) (by omega), if_pos h3]
  rw [if_neg h1, if_neg h2, if_neg h3]
  by_cases h4 : j = c + w ∧ PG.kd (f (c + w - 1)) = 1
  · rw [if_pos h4, if_pos h4]
  · rw [if_neg h4, if_neg h4, if_neg h3, if_neg h1, if_neg h2]
/-- where the document's Put stands between its ifs -/
def RPut (w : World) (R K n cp g cap : Nat) (A : Option Addr) (p : PG.Pn) (h : Nat → PG.Cl) (wx : World) : Prop :=
  Box wx w.heap.size 27 #[.int .i64 R, .int .i64 K, .slice A n cp] ∧ Box wx (w.heap.size + 1) 23 #[.int .i64 p.1, .int .i64 p.2.1, .int .i64 p.2.2] ∧ Box wx (w.heap.size + 1 + 1) 27 #[.int .i64 0, .int .i64 0, .slice none 0 0] ∧
    wx.ownsRow w.heap.size 45 5 (.slice (some ⟨g, 0, none⟩) K cap) K (ccells ((List.range K).map h)) ∧ Below w.heap.size w wx
theorem RPut.set {w wx : World} {R K n cp g cap : Nat} {A : Option Addr} {p : PG.Pn} {h : Nat → PG.Cl} (H : RPut w R K n cp g cap A p h wx) {k : Nat} (hk : k < K) (v : PG.Cl) :
    RPut w R K n cp g cap A p (fun j => if j = k then v else h j) (store5 wx g (k * 5) v) := by
  obtain ⟨x0, x1, x2, ho, hb⟩ := H
  have S := own_store5 ho (k := k) v hk (by simp)
  refine ⟨x0.grown S.2 (fun e => own_ne_box ho x0 (by decide) e.symm), x1.grown S.2 (fun e => own_ne_box ho x1 (by decide) e.symm), x2.grown S.2 (fun e => own_ne_box ho x2 (by decide) e.symm), ?_, hb.grown S.2 hb.size (by rintro _ ⟨⟩; exact (ho.lt g rfl).1)⟩
  rw [← range_set]
  exact S.1
theorem RPut.kind {w wx : World} {R K n cp g cap : Nat} {A : Option Addr} {p : PG.Pn} {h : Nat → PG.Cl} (H : RPut w R K n cp g cap A p h wx) {k : Nat} (hk : k < K) {x d : Int} {q : PG.Pn} (e : h k = (x, d, q)) (d' : Int) :
    RPut w R K n cp g cap A p (fun j => if j = k then (x, d', q) else h j) (wx.setCell ⟨g, k * 5 + 1, none⟩ (.int .i64 d')) := by
  obtain ⟨x0, x1, x2, ho, hb⟩ := H
  have S := own_kind ho (k := k) (x := x) (d := d) (p := q) (by rw [PG.range_at hk, e]) d'
  refine ⟨x0.grown S.2 (fun e => own_ne_box ho x0 (by decide) e.symm), x1.grown S.2 (fun e => own_ne_box ho x1 (by decide) e.symm), x2.grown S.2 (fun e => own_ne_box ho x2 (by decide) e.symm), ?_, hb.grown S.2 hb.size (by rintro _ ⟨⟩; exact (ho.lt g rfl).1)⟩
  rw [← range_set]
  exact S.1
theorem RPut.congr {w wx : World} {R K n cp g cap : Nat} {A : Option Addr} {p : PG.Pn} {h h' : Nat → PG.Cl} (H : RPut w R K n cp g cap A p h wx) (e : ∀ j, j < K → h j = h' j) : RPut w R K n cp g cap A p h' wx := by
  obtain ⟨x0, x1, x2, ho, hb⟩ := H
  refine ⟨x0, x1, x2, ?_, hb⟩
  rw [← List.map_congr_left (fun j hj => e j (List.mem_range.1 hj))]
  exact ho
theorem RPut.call {w wx wy : World} {R K n cp g cap : Nat} {A : Option Addr} {p : PG.Pn} {h : Nat → PG.Cl} (H : RPut w R K n cp g cap A p h wx) (b : Below wx.heap.size wx wy) : RPut w R K n cp g cap A p h wy := by
  obtain ⟨x0, x1, x2, ho, hb⟩ := H
  exact ⟨x0.below b x0.lt, x1.below b x1.lt, x2.below b x2.lt, own_low ho b, hb.trans (b.mono hb.size)⟩
/-- what the walk asks of it -/
theorem RPut.five {w wx : World} {R K n cp g cap : Nat} {A : Option Addr} {p : PG.Pn} {h : Nat → PG.Cl} (H : RPut w R K n cp g cap A p h wx) {k : Nat} (hk : k < K) :
    wx.cell? ⟨g, k * 5, none⟩ = some (.int .i32 (PG.rn (h k))) ∧ wx.cell? ⟨g, k * 5 + 1, none⟩ = some (.int .i64 (PG.kd (h k))) ∧ wx.cell? ⟨g, k * 5 + 2, none⟩ = some (.int .i64 (PG.pn (h k)).1) ∧ wx.cell? ⟨g, k * 5 + 3, none⟩ = some (.int .i64 (PG.pn (h k)).2.1) ∧ wx.cell? ⟨g, k * 5 + 4, none⟩ = some (.int .i64 (PG.pn (h k)).2.2) ∧
    wx.frozen? ⟨g, k * 5, none⟩ = false ∧ wx.frozen? ⟨g, k * 5 + 1, none⟩ = false ∧ wx.frozen? ⟨g, k * 5 + 2, none⟩ = false ∧ wx.frozen? ⟨g, k * 5 + 3, none⟩ = false ∧ wx.frozen? ⟨g, k * 5 + 4, none⟩ = false :=
  own_five H.2.2.2.1 (PG.range_at hk)
theorem seen_back {w w1 w2 : World} {B n : Nat} {A : Option Addr} {l : List PG.Cl} (h : SeenC w1 B A n l) (h1 : Below B w w1) (h2 : Below B w w2) : SeenC w2 B A n l := Seen.keep h (fun p hp => (h2.cell hp).trans (h1.cell hp).symm)
end Go.Proofs.YtcbmjdacdjcggaaDoor
set_option maxRecDepth 100000
namespace Go.Proofs.YtcbmjdacdjcggaaDoor
open Go.RowKit
set_option linter.unusedVariables false
set_option maxHeartbeats 4000000 in
theorem rwipe_not (R K n cp : Nat) (r a b : Int) (p : PG.Pn) (A : Option Addr) (w : World) (hR : R ≤ 40) (ho : r < 0 ∨ (R : Int) ≤ r) :
    Calls Tryd.prog 23 #[gv R K (.slice A n cp), .int .i64 r, .int .i64 a, .int .i64 b, pv p] w fun e w' => e = .returned (gv R K (.slice A n cp)) ∧ Below w.heap.size w w' := by
  have cs : r < 0 ∨ (0 ≤ r ∧ (R : Int) ≤ r) := by omega
  clear ho
  unfold gv pv
  rcases cs with h | ⟨h, h'⟩
  all_goals
    go_enter Tryd.func23, Tryd.ntmps23
    go_wp2_with fail
    refine bodyPost_ret (v := .agg #[.int .i64 R, .int .i64 K, .slice A n cp]) (by simp [results, Tryd.results23, go_sem]) rfl ⟨rfl, ?_⟩
    exact (((Below.refl _ _).alloc (Nat.le_refl _) _).alloc (by simp) _).alloc (by simp; omega) _
end Go.Proofs.YtcbmjdacdjcggaaDoor
set_option maxRecDepth 100000
namespace Go.Proofs.YtcbmjdacdjcggaaDoor
open Go.RowKit
set_option linter.unusedVariables false
namespace PG
theorem halfR_row {g : Gr} {R K k : Nat} (hk : k < R) : ((cells (halfR g R K k)).drop (k * K)).take K = (List.range K).map (fun _ => blank plain) := by
  have h := row_cut (g := halfR g R K k) (r := k) hk
  rw [show (halfR g R K k).cols = K from rfl] at h
  rw [h]
  refine List.map_congr_left fun j _ => ?_
  show (if k < k then _ else blank plain) = blank plain
  rw [if_neg (Nat.lt_irrefl k)]
theorem halfR_next {g : Gr} {R K k : Nat} (hk : k < R) : spl (cells (halfR g R K k)) (k * K) (mendL ((List.range K).map (under g k))) = cells (halfR g R K (k + 1)) := by
  rw [mendL_range]
  have e3 := spl_cells (g := halfR g R K k) (r := k) (m := (List.range K).map (mend (under g k) K)) (h := mend (under g k) K) hk (by simp; rfl) (fun j hj => range_at hj)
  rw [show (halfR g R K k).cols = K from rfl] at e3
  rw [e3]
  refine cells_ext ⟨rfl, rfl, fun i j hi hj => ?_⟩
  show (if i = k then mend (under g k) K j else if i < k then mend (under g i) K j else blank plain) = if i < k + 1 then mend (under g i) K j else blank plain
  by_cases e : i = k
  · subst e
    rw [if_pos rfl, if_pos (by omega)]
  · rw [if_neg e]
    by_cases h : i < k
    · rw [if_pos h, if_pos (by omega)]
    · rw [if_neg h, if_neg (by omega)]
theorem halfR_stop {g : Gr} {R K k : Nat} (hk : k = R ∨ k = g.rows) : cells (halfR g R K k) = cells (resizeG g R K) := by
  refine cells_ext ⟨rfl, rfl, fun i j hi hj => ?_⟩
  have hi : i < R := hi
  show (if i < k then mend (under g i) K j else blank plain) = mend (under g i) K j
  by_cases h : i < k
  · rw [if_pos h]
  · rw [if_neg h]
    have hg : g.rows ≤ i := by omega
    have hu : ∀ m, under g i m = blank plain := fun m => by unfold under; rw [if_neg (by omega)]
    unfold mend
    rw [hu j, if_neg]
    rw [kd_blank]
    omega
end PG
/-- the first c cells of a row taken over -/
def part (f : Nat → PG.Cl) (c j : Nat) : PG.Cl := if j < c then f j else PG.blank PG.plain
theorem part_set (f : Nat → PG.Cl) (n c : Nat) : ((List.range n).map (part f c)).set c (f c) = (List.range n).map (part f (c + 1)) := by
  rw [range_set]
  refine List.map_congr_left fun j _ => ?_
  unfold part
  by_cases e : j = c
  · subst e
    rw [if_pos rfl, if_pos (by omega)]
  · rw [if_neg e]
    by_cases h : j < c
    · rw [if_pos h, if_pos (by omega)]
    · rw [if_neg h, if_neg (by omega)]
theorem part_zero (f : Nat → PG.Cl) (n : Nat) : (List.range n).map (part f 0) = (List.range n).map (fun _ => PG.blank PG.plain) := List.map_congr_left fun j _ => if_neg (Nat.not_lt_zero j)
theorem part_all (G : PG.Gr) {k K : Nat} (hk : k < G.rows) : (List.range K).map (part (G.f k) (min K G.cols)) = (List.range K).map (PG.under G k) := List.map_congr_left fun j hj => by
  have hj := List.mem_range.1 hj
  unfold part PG.under
  by_cases h : j < G.cols
  · rw [if_pos (by omega), if_pos ⟨hk, h⟩]
  · rw [if_neg (by omega), if_neg (fun x => h x.2)]
/-- where the document's Resize stands between its rounds -/
structure RSize (w : World) (G : PG.Gr) (n cp R K N gt k : Nat) (ad : Addr) (v : Value) (wx : World) : Prop where
  box0 : Box wx w.heap.size 27 #[.int .i64 G.rows, .int .i64 G.cols, .slice (some ad) n cp]
  box1 : Box wx (w.heap.size + 1) 27 #[.int .i64 0, .int .i64 0, .slice none 0 0]
  boxT : Box wx gt 27 #[.int .i64 R, .int .i64 K, v]
  own : wx.ownsRow w.heap.size 45 5 v N (ccells (PG.cells (PG.halfR G R K k)))
  below : Below w.heap.size w wx
theorem RSize.call {w wx wy : World} {G : PG.Gr} {n cp R K N gt k : Nat} {ad : Addr} {v : Value} (h : RSize w G n cp R K N gt k ad v wx) (b : Below wx.heap.size wx wy) : RSize w G n cp R K N gt k ad v wy :=
  ⟨h.box0.below b h.box0.lt, h.box1.below b h.box1.lt, h.boxT.below b h.boxT.lt, own_low h.own b, h.below.trans (b.mono h.below.size)⟩
theorem RSize.grown {w wx wy : World} {G : PG.Gr} {n cp R K N gt k : Nat} {ad : Addr} {v : Value} (h : RSize w G n cp R K N gt k ad v wx) {g' n' m : Nat} {v' : Value} {xs : List Value} (o : wx.ownsRow m 45 5 v' n' xs) (hv : v'.ownBlock = some g') (hne : v.ownBlock ≠ some g') (hm : w.heap.size ≤ g') (b : wx.grownBy wy (some g')) : RSize w G n cp R K N gt k ad v wy :=
  ⟨h.box0.grown b (fun e => own_ne_box o h.box0 (by decide) (hv.trans e.symm)), h.box1.grown b (fun e => own_ne_box o h.box1 (by decide) (hv.trans e.symm)), h.boxT.grown b (fun e => own_ne_box o h.boxT (by decide) (hv.trans e.symm)),
    own_kept h.own (Kept.of_grown b) (fun q hq hm => hne (by simp at hm; rw [hq, hm])), h.below.grown b h.below.size (by rintro _ ⟨⟩; exact hm)⟩
end Go.Proofs.YtcbmjdacdjcggaaDoor
