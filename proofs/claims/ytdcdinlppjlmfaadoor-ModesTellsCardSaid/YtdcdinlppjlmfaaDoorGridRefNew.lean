/- The contract of the document's own New. The contract of the document's own Put, where x stands then. The contracts of the document's own Put and Wipe, where they give what they were given. The contract of the document's own Resize. linguistbook's Same, of rows of cells that are the same: true; it only draws. linguistlaw7's own same, of grids that are the same: true. linguistkeep's pick. A region that draws its order, of loads, calls that make grids, new boxes and stores into boxes: one relation, kept by each operation. Names no function of a program but the types. The contract of the given grids that statements make of numbers. -/
import Derived.Test.YtdcdinlppjlmfaaDoorGridPut
import Derived.Test.YtdcdinlppjlmfaaDoorKept
import Derived.Deep.RegionLaw
import Derived.Test.YtdcdinlppjlmfaaDoorRefWidth
import Derived.Deep.DeepCutAuto
import Derived.Test.YtdcdinlppjlmfaaDoorGridMem
import Derived.Test.YtdcdinlppjlmfaaDoorRows
import Derived.BigQuiet
import Derived.Deep.QuietTactic
import Derived.WalkSpells
import Derived.WalkLawsBesides
import Derived.Test.YtdcdinlppjlmfaaDoorLib
import Derived.Test.YtdcdinlppjlmfaaDoorCellSpec
import Derived.Deep.RegionHeld3
import Derived.Deep.RegionHeldLaw
import Derived.IntWalk
set_option maxRecDepth 100000
namespace Go.Proofs.YtdcdinlppjlmfaaDoor
open Go.RowKit
set_option linter.unusedVariables false
/-- a row that is owned, behind what changed nothing that was there -/
theorem own_low {w w' : World} {base size n : Nat} {e : TypeId} {v : Value} {xs : List Value} (h : w.ownsRow base e size v n xs) (hb : Below w.heap.size w w') : w'.ownsRow base e size v n xs := own_kept h (Kept.of_below (L := []) hb) (by simp)
set_option maxHeartbeats 4000000 in
theorem rnew_any (R K : Nat) (p : PG.Pn) (w : World) (hR : R ≤ 40) (hK : K ≤ 60) :
    Calls Tryd.prog 74 #[.int .i64 R, .int .i64 K, pv p] w (GaveG w R K (List.replicate (R * K) (PG.blank p))) := by
  obtain ⟨i0, hi, hz0, hz1, hz2⟩ := info_parts info_cell
  have BC : ∀ (p : PG.Pn) (w' : World), Calls Tryd.prog 72 #[.agg #[.int .i64 p.1, .int .i64 p.2.1, .int .i64 p.2.2]] w' fun e w'' => e = .returned (.agg #[.int .i32 32, .int .i64 0, .int .i64 p.1, .int .i64 p.2.1, .int .i64 p.2.2]) ∧ Below w'.heap.size w' w'' := fun p w' => rblank_any p w'
  have BC := hide BC
  have hN : R * K ≤ 2400 := Nat.mul_le_mul hR hK
  have eN : (R : Int) * (K : Int) = ((R * K : Nat) : Int) := by simp
  generalize R * K = N at *
  unfold GaveG gv pv
  go_enter Tryd.func74, Tryd.ntmps74
  go_wp2_with fail
  go_loopw [14] (fun i wr => ∃ (k : Nat) (v : Value), k ≤ N ∧ i = .int .i64 k ∧ Box wr w.heap.size 26 #[.int .i64 p.1, .int .i64 p.2.1, .int .i64 p.2.2] ∧ Box wr (w.heap.size + 1) 24 #[.int .i64 0, .int .i64 0, .slice none 0 0] ∧ Box wr (w.heap.size + 1 + 1) 24 #[.int .i64 R, .int .i64 K, v] ∧
      wr.ownsRow w.heap.size 58 5 v k (ccells (List.replicate k (PG.blank p))) ∧ Below w.heap.size w wr)
    (fun i _ => N - (intOf i).toNat)
  case atStart =>
    refine ⟨0, _, Nat.zero_le _, rfl, ((Box.new w _ _).alloc _).alloc _, ?_, ?_, World.ownsRow_nil _ _ _ _, (((Below.refl _ _).alloc (Nat.le_refl _) _).alloc (by simp) _).alloc (by simp; omega) _⟩
    · have h := (Box.new (w.alloc (.cells #[.int .i64 p.1, .int .i64 p.2.1, .int .i64 p.2.2] 26)) 24 #[.int .i64 0, .int .i64 0, .slice none 0 0]).alloc (.cells #[.int .i64 R, .int .i64 K, .slice none 0 0] 24)
      rw [World.size_alloc] at h
      exact h
    · have h := Box.new ((w.alloc (.cells #[.int .i64 p.1, .int .i64 p.2.1, .int .i64 p.2.2] 26)).alloc (.cells #[.int .i64 0, .int .i64 0, .slice none 0 0] 24)) 24 #[.int .i64 R, .int .i64 K, .slice none 0 0]
      rw [World.size_alloc, World.size_alloc] at h
      exact h
  case round =>
    obtain ⟨k, v, hk, rfl, x0, x1, x2, ho, hb⟩ := hrel
    obtain ⟨Av, cv, rfl, _, _, hblk⟩ := own_form' ho
    by_cases hlt : k < N
    · obtain ⟨y0, y1, y2, _⟩ := x0.three
      obtain ⟨z0, z1, z2, _⟩ := x2.three
      have l0 := x0.lt
      have l1 := x1.lt
      have l2 := x2.lt
      have n0 := own_ne_box ho x0 (by decide)
      have n1 := own_ne_box ho x1 (by decide)
      have n2 := own_ne_box ho x2 (by decide)
      have HX0 := hide x0
      have HX1 := hide x1
      have HX2 := hide x2
      have HO := hide ho
      have HB := hide hb
      have hblk := hide hblk
      have hrep := hide (show ccells (List.replicate k (PG.blank p)) ++ [.int .i32 32, .int .i64 0, .int .i64 p.1, .int .i64 p.2.1, .int .i64 p.2.2] = ccells (List.replicate (k + 1) (PG.blank p)) by rw [List.replicate_succ' (n := k), ccells_append]; rfl)
      clear ho hb x0 x1 x2
      go_wp2_with fail
      go_region_law (first
        | (go_simp; go_at_call 72; refine (BC.out p _).mono ?_; rintro e wB ⟨rfl, bB⟩
           have sB : wr.heap.size ≤ wB.heap.size := bB.size
           have X0 := hide (HX0.out.drew.below bB l0)
           have X1 := hide (HX1.out.drew.below bB l1)
           have X2 := hide (HX2.out.drew.below bB l2)
           have O := hide (own_low (w := wr.drew) HO.out bB)
           have BB := hide (HB.out.drew.trans (bB.mono HB.out.size))
           have z2B := X2.out.three.2.2.1
           have z2o : ∀ o, (wB.alloc o).cell? ⟨w.heap.size + 1 + 1, 2, none⟩ = some (.slice Av k cv) := fun o => (World.cell?_alloc_lt wB o ⟨w.heap.size + 1 + 1, 2, none⟩ X2.out.lt).trans X2.out.three.2.2.1)
        | (refine step_appB (by rfl) (.tmp 17) (.tmp 20) 22 (by rfl) w.heap.size 58 i0 _ 5 40 Tryd.underlying22 hi hz0 hz1 hz2 zcell_size (by omega) (.slice Av k cv) k (ccells (List.replicate k (PG.blank p))) (by rfl) (O.out.alloc (.cells #[.int .i32 32, .int .i64 0, .int .i64 p.1, .int .i64 p.2.1, .int .i64 p.2.2] 58)) #[.int .i32 32, .int .i64 0, .int .i64 p.1, .int .i64 p.2.1, .int .i64 p.2.2] 58 wB.heap.size (by rfl) (Box.new wB _ _) rfl (by simp [Value.oneCell']) (by omega) (by omega) (by have := BB.out.size; simp; omega) ?_
           intro v1 w1 hown1 hg1 hm1
           (obtain ⟨Aw, cw, rfl, _⟩ := own_form' hown1)
           have Y0 := hide ((X0.out.alloc (.cells #[.int .i32 32, .int .i64 0, .int .i64 p.1, .int .i64 p.2.1, .int .i64 p.2.2] 58)).grown hg1 (fun e => n0 e.symm))
           have Y1 := hide ((X1.out.alloc (.cells #[.int .i32 32, .int .i64 0, .int .i64 p.1, .int .i64 p.2.1, .int .i64 p.2.2] 58)).grown hg1 (fun e => n1 e.symm))
           have Y2 := (X2.out.alloc (.cells #[.int .i32 32, .int .i64 0, .int .i64 p.1, .int .i64 p.2.1, .int .i64 p.2.2] 58)).grown hg1 (fun e => n2 e.symm)
           obtain ⟨q0, q1, q2, q3, q4, q5⟩ := Y2.three))
      all_goals
        have hs1 : wB.heap.size ≤ w1.heap.size := Nat.le_trans (by simp) hg1.size
        have B1 : Below w.heap.size w w1 := (BB.out.alloc BB.out.size (.cells #[.int .i32 32, .int .i64 0, .int .i64 p.1, .int .i64 p.2.1, .int .i64 p.2.2] 58)).grown hg1 (Nat.le_trans BB.out.size (by simp)) (fun g hg => (hblk.out g hg).1)
        have B2 := hide (B1.setCell (p := ⟨w.heap.size + 1 + 1, 2, none⟩) (show w.heap.size ≤ w.heap.size + 1 + 1 by omega) (.slice Aw (k + 1) cw))
        have Z0 := hide (Y0.out.far (p := ⟨w.heap.size + 1 + 1, 2, none⟩) (by show w.heap.size ≠ w.heap.size + 1 + 1; omega) (.slice Aw (k + 1) cw))
        have Z1 := hide (Y1.out.far (p := ⟨w.heap.size + 1 + 1, 2, none⟩) (by show w.heap.size + 1 ≠ w.heap.size + 1 + 1; omega) (.slice Aw (k + 1) cw))
        have Z2 := hide (show Box (w1.setCell ⟨w.heap.size + 1 + 1, 2, none⟩ (.slice Aw (k + 1) cw)) (w.heap.size + 1 + 1) 24 #[.int .i64 R, .int .i64 K, .slice Aw (k + 1) cw] by simpa using Y2.set 2 (.slice Aw (k + 1) cw))
        have m2 := own_ne_box hown1 Y2 (by decide)
        have O2 := ownsRow_setCell_other hown1 (a := ⟨w.heap.size + 1 + 1, 2, none⟩) m2 (.slice Aw (k + 1) cw)
        rw [show (#[Value.int .i32 32, .int .i64 0, .int .i64 p.1, .int .i64 p.2.1, .int .i64 p.2.2] : Array Value).toList = [.int .i32 32, .int .i64 0, .int .i64 p.1, .int .i64 p.2.1, .int .i64 p.2.2] from rfl, hrep.out] at O2
        have O2 := hide O2
        clear B1 Y2 hown1 hg1 hm1 m2 HX0 HX1 HX2 X0 X1 X2 HO O HB BB hblk
        go_wp2_with fail
        go_roundw
        case rel => exact ⟨k + 1, _, by omega, by go_num, Z0.out, Z1.out, Z2.out, O2.out, B2.out⟩
        case measure => simp [intOf]; omega
    · obtain rfl : k = N := by omega
      obtain ⟨z0, z1, z2, _⟩ := x2.three
      obtain ⟨q0, q1, q2, q3, q4, q5⟩ := x1.three
      have n1 := own_ne_box ho x1 (by decide)
      have X := x1.set3 (.int .i64 R) (.int .i64 K) (.slice Av k cv)
      have O := ownsRow_setCell_other (ownsRow_setCell_other (ownsRow_setCell_other ho (a := ⟨w.heap.size + 1, 0, none⟩) n1 (.int .i64 R)) (a := ⟨w.heap.size + 1, 1, none⟩) n1 (.int .i64 K)) (a := ⟨w.heap.size + 1, 2, none⟩) n1 (.slice Av k cv)
      have bz := below_set3 hb (show w.heap.size ≤ w.heap.size + 1 by omega) (.int .i64 R) (.int .i64 K) (.slice Av k cv)
      obtain ⟨j0, j1, j2, _⟩ := X.three
      have O := hide O
      have bz := hide bz
      clear ho BC
      go_wp2_with fail
      refine bodyPost_ret (v := .agg #[.int .i64 R, .int .i64 K, .slice Av k cv]) (by simp [results, Tryd.results74, go_sem, j0, j1, j2]) rfl ⟨_, rfl, ?_, bz.out⟩
      rw [List.length_replicate]
      exact O.out
end Go.Proofs.YtdcdinlppjlmfaaDoor
set_option maxRecDepth 100000
namespace Go.Proofs.YtdcdinlppjlmfaaDoor
open Go.RowKit
set_option linter.unusedVariables false
theorem range_set {n k : Nat} (h : Nat → PG.Cl) (v : PG.Cl) : ((List.range n).map h).set k v = (List.range n).map (fun j => if j = k then v else h j) := by
  refine List.ext_getElem? fun j => ?_
  by_cases hj : j < n
  · by_cases e : j = k
    · subst e
      rw [List.getElem?_set_self (by simpa using hj), PG.range_at hj, if_pos rfl]
    · rw [List.getElem?_set_ne (by omega), PG.range_at hj, PG.range_at hj, if_neg e]
  · rw [List.getElem?_eq_none (by rw [List.length_set]; simp; omega), List.getElem?_eq_none (by simp; omega)]
/-- a kind alone written anew -/
theorem kind_set : ∀ (l : List PG.Cl) (k : Nat) (x d : Int) (p : PG.Pn) (d' : Int), l[k]? = some (x, d, p) → (ccells l).set (k * 5 + 1) (.int .i64 d') = ccells (l.set k (x, d', p))
  | [], k, x, d, p, d', h => by simp at h
  | c :: l, 0, x, d, p, d', h => by
    simp at h
    subst h
    rfl
  | c :: l, k + 1, x, d, p, d', h => by
    have ih := kind_set l k x d p d' (by simpa using h)
    rw [List.set_cons_succ, ccells_cons, ccells_cons, ← ih, List.set_append_right _ _ (by show 5 ≤ _; omega)]
    congr 2
    show (k + 1) * 5 + 1 - 5 = k * 5 + 1
    omega
theorem own_kind {w : World} {base n g cap : Nat} {e : TypeId} {l : List PG.Cl} (h : w.ownsRow base e 5 (.slice (some ⟨g, 0, none⟩) n cap) n (ccells l)) {k : Nat} {x d : Int} {p : PG.Pn} (hk : l[k]? = some (x, d, p)) (d' : Int) :
    (w.setCell ⟨g, k * 5 + 1, none⟩ (.int .i64 d')).ownsRow base e 5 (.slice (some ⟨g, 0, none⟩) n cap) n (ccells (l.set k (x, d', p))) ∧ w.grownBy (w.setCell ⟨g, k * 5 + 1, none⟩ (.int .i64 d')) (some g) := by
  have s := h.stored (k * 5 + 1) (.int .i64 d')
  rw [kind_set l k x d p d' hk] at s
  exact s
/-- x put over it, and the cell ahead of it blank, if it was half of a wide rune -/
def mid (f : Nat → PG.Cl) (c : Nat) (x : Int) (p : PG.Pn) (w : Nat) (j : Nat) : PG.Cl := if j + 1 = c ∧ PG.kd (f c) = 2 then PG.blank (PG.pn (f j)) else PG.over f c x p w j
theorem mid_put (f : Nat → PG.Cl) (c : Nat) (x : Int) (p : PG.Pn) (w j : Nat) (hw : 1 ≤ w) (hw2 : w ≤ 2) : PG.putRow f c x p w j = if j = c + w ∧ PG.kd (f (c + w - 1)) = 1 then PG.blank (PG.pn (f j)) else mid f c x p w j := by
  unfold PG.putRow mid PG.over
  by_cases h1 : j = c
  · rw [if_pos h1, if_neg (c := j = c + w ∧ _) (by omega), if_neg (c := j + 1 = c ∧ _) (by omega), if_pos h1]
  by_cases h2 : w = 2 ∧ j = c + 1
  · rw [if_neg h1, if_pos h2, if_neg (c := j = c + w ∧ _) (by omega), if_neg (c := j + 1 = c ∧ _) (by omega), if_neg h1, if_pos h2]
  by_cases h3 : j + 1 = c ∧ PG.kd (f c) = 2
  · rw [if_neg h1, if_neg h2, if_pos h3, if_neg (c := j = c + w ∧ _) (by omega), if_pos h3]
  rw [if_neg h1, if_neg h2, if_neg h3]
  by_cases h4 : j = c + w ∧ PG.kd (f (c + w - 1)) = 1
  · rw [if_pos h4, if_pos h4]
  · rw [if_neg h4, if_neg h4, if_neg h3, if_neg h1, if_neg h2]
/-- where the document's Put stands between its ifs -/
def RPut (w : World) (R K n cp g cap : Nat) (A : Option Addr) (p : PG.Pn) (h : Nat → PG.Cl) (wx : World) : Prop :=
  Box wx w.heap.size 24 #[.int .i64 R, .int .i64 K, .slice A n cp] ∧ Box wx (w.heap.size + 1) 26 #[.int .i64 p.1, .int .i64 p.2.1, .int .i64 p.2.2] ∧ Box wx (w.heap.size + 1 + 1) 24 #[.int .i64 0, .int .i64 0, .slice none 0 0] ∧
    wx.ownsRow w.heap.size 58 5 (.slice (some ⟨g, 0, none⟩) K cap) K (ccells ((List.range K).map h)) ∧ Below w.heap.size w wx
theorem RPut.set {w wx : World} {R K n cp g cap : Nat} {A : Option Addr} {p : PG.Pn} {h : Nat → PG.Cl} (H : RPut w R K n cp g cap A p h wx) {k : Nat} (hk : k < K) (v : PG.Cl) :
    RPut w R K n cp g cap A p (fun j => if j = k then v else h j) (store5 wx g (k * 5) v) := by
  obtain ⟨x0, x1, x2, ho, hb⟩ := H
  have S := own_store5 ho (k := k) v hk (by simp)
  refine ⟨x0.grown S.2 (fun e => own_ne_box ho x0 (by decide) e.symm), x1.grown S.2 (fun e => own_ne_box ho x1 (by decide) e.symm), x2.grown S.2 (fun e => own_ne_box ho x2 (by decide) e.symm), ?_, hb.grown S.2 hb.size (by rintro _ ⟨⟩; exact (ho.lt g rfl).1)⟩
  rw [← range_set]
  exact S.1
theorem RPut.kind {w wx : World} {R K n cp g cap : Nat} {A : Option Addr} {p : PG.Pn} {h : Nat → PG.Cl} (H : RPut w R K n cp g cap A p h wx) {k : Nat} (hk : k < K) {x d : Int} {q : PG.Pn} (e : h k = (x, d, q)) (d' : Int) :
    RPut w R K n cp g cap A p (fun j => if j = k then (x, d', q) else h j) (wx.setCell ⟨g, k * 5 + 1, none⟩ (.int .i64 d')) := by
  obtain ⟨x0, x1, x2, ho, hb⟩ := H
  have S := own_kind ho (k := k) (x := x) (d := d) (p := q) (by rw [PG.range_at hk, e]) d'
  refine ⟨x0.grown S.2 (fun e => own_ne_box ho x0 (by decide) e.symm), x1.grown S.2 (fun e => own_ne_box ho x1 (by decide) e.symm), x2.grown S.2 (fun e => own_ne_box ho x2 (by decide) e.symm), ?_, hb.grown S.2 hb.size (by rintro _ ⟨⟩; exact (ho.lt g rfl).1)⟩
  rw [← range_set]
  exact S.1
theorem RPut.congr {w wx : World} {R K n cp g cap : Nat} {A : Option Addr} {p : PG.Pn} {h h' : Nat → PG.Cl} (H : RPut w R K n cp g cap A p h wx) (e : ∀ j, j < K → h j = h' j) : RPut w R K n cp g cap A p h' wx := by
  obtain ⟨x0, x1, x2, ho, hb⟩ := H
  refine ⟨x0, x1, x2, ?_, hb⟩
  rw [← List.map_congr_left (fun j hj => e j (List.mem_range.1 hj))]
  exact ho
theorem RPut.call {w wx wy : World} {R K n cp g cap : Nat} {A : Option Addr} {p : PG.Pn} {h : Nat → PG.Cl} (H : RPut w R K n cp g cap A p h wx) (b : Below wx.heap.size wx wy) : RPut w R K n cp g cap A p h wy := by
  obtain ⟨x0, x1, x2, ho, hb⟩ := H
  exact ⟨x0.below b x0.lt, x1.below b x1.lt, x2.below b x2.lt, own_low ho b, hb.trans (b.mono hb.size)⟩
/-- what the walk asks of it -/
theorem RPut.five {w wx : World} {R K n cp g cap : Nat} {A : Option Addr} {p : PG.Pn} {h : Nat → PG.Cl} (H : RPut w R K n cp g cap A p h wx) {k : Nat} (hk : k < K) :
    wx.cell? ⟨g, k * 5, none⟩ = some (.int .i32 (PG.rn (h k))) ∧ wx.cell? ⟨g, k * 5 + 1, none⟩ = some (.int .i64 (PG.kd (h k))) ∧ wx.cell? ⟨g, k * 5 + 2, none⟩ = some (.int .i64 (PG.pn (h k)).1) ∧ wx.cell? ⟨g, k * 5 + 3, none⟩ = some (.int .i64 (PG.pn (h k)).2.1) ∧ wx.cell? ⟨g, k * 5 + 4, none⟩ = some (.int .i64 (PG.pn (h k)).2.2) ∧
    wx.frozen? ⟨g, k * 5, none⟩ = false ∧ wx.frozen? ⟨g, k * 5 + 1, none⟩ = false ∧ wx.frozen? ⟨g, k * 5 + 2, none⟩ = false ∧ wx.frozen? ⟨g, k * 5 + 3, none⟩ = false ∧ wx.frozen? ⟨g, k * 5 + 4, none⟩ = false :=
  own_five H.2.2.2.1 (PG.range_at hk)
theorem seen_back {w w1 w2 : World} {B n : Nat} {A : Option Addr} {l : List PG.Cl} (h : SeenC w1 B A n l) (h1 : Below B w w1) (h2 : Below B w w2) : SeenC w2 B A n l := Seen.keep h (fun p hp => (h2.cell hp).trans (h1.cell hp).symm)
set_option maxHeartbeats 8000000 in
theorem rput_t (G : PG.Gr) (n cp B r c wv : Nat) (x : Int) (p : PG.Pn) (A : Option Addr) (w : World) (hl : SeenC w B A n (PG.cells G)) (hB : B ≤ w.heap.size) (hn : n = G.rows * G.cols) (hnc : n ≤ cp) (hcp : cp ≤ maxLen) (hr : r < G.rows) (g2 : G.rows ≤ 40) (g4 : G.cols ≤ 60)
    (hx0 : -2147483648 ≤ x) (hx1 : x ≤ 2147483647) (hw : C.width x = (wv : Int)) (hw1 : wv = 1 ∨ wv = 2) (hc : c + wv ≤ G.cols) :
    Calls Tryd.prog 45 #[gv G.rows G.cols (.slice A n cp), .int .i64 r, .int .i64 c, .int .i32 x, pv p] w (GaveG w G.rows G.cols (PG.cells (PG.putG G r c x p))) := by
  have g3 : 1 ≤ G.cols := by omega
  have hRK : G.rows * G.cols ≤ 2400 := Nat.mul_le_mul g2 g4
  obtain ⟨i0, hi, hz0, hz1, hz2⟩ := info_parts info_cell
  have WD := hide (fun w' => (show Calls Tryd.prog 43 #[.int .i32 x] w' fun e w'' => e = .returned (.int .i64 (wv : Int)) ∧ Below w'.heap.size w' w'' by rw [← hw]; exact refWidth_any x w' hx0 hx1))
  have FR := hide (fun w' (hb : Below w.heap.size w w') => rrow_any G.rows G.cols r n cp B A (PG.cells G) w' (hl.below (Below.mono hb hB)) hn hnc hcp hr g2 g4)
  rw [PG.row_cut hr] at FR
  have hfin : spl (PG.cells G) (r * G.cols) ((List.range G.cols).map (PG.putRow (G.f r) c x p wv)) = PG.cells (PG.putG G r c x p) := by
    rw [PG.spl_cells (g := G) (h := PG.putRow (G.f r) c x p wv) hr (by simp) (fun j hj => PG.range_at hj)]
    unfold PG.putG
    have hwn : (C.width x).toNat = wv := by omega
    rw [if_pos ⟨hr, by omega, by omega⟩, hwn]
  have FS := hide (fun w' (hb : Below w.heap.size w w') (A2 : Option Addr) (c2 : Nat) (B2 : Nat) (h2 : SeenC w' B2 A2 G.cols ((List.range G.cols).map (PG.putRow (G.f r) c x p wv))) (hB2 : B2 ≤ w'.heap.size) (hBB : B ≤ B2) => rset_any G.rows G.cols r n cp G.cols c2 B2 A A2 (PG.cells G) _ w' ((hl.below (Below.mono hb hB)).more hBB) h2 hB2 hn hr (Nat.le_refl _) g2 g3 g4)
  rw [hfin] at FS
  have BC : ∀ (p : PG.Pn) (w' : World), Calls Tryd.prog 72 #[.agg #[.int .i64 p.1, .int .i64 p.2.1, .int .i64 p.2.2]] w' fun e w'' => e = .returned (.agg #[.int .i32 32, .int .i64 0, .int .i64 p.1, .int .i64 p.2.1, .int .i64 p.2.2]) ∧ Below w'.heap.size w' w'' := fun p w' => rblank_any p w'
  have BC := hide BC
  generalize PG.cells (PG.putG G r c x p) = out at *
  unfold GaveG gv pv at *
  have hr40 : r ≤ 40 := by omega
  have hnn : n ≤ 2400 := by omega
  have hrG : (r : Int) < (G.rows : Int) := by omega
  have hw12 : 1 ≤ wv ∧ wv ≤ 2 := by omega
  clear hfin hl hn hRK hnc hcp hw hx0 hx1
  generalize G.f r = f at *
  generalize hRR : G.rows = R at *
  generalize hKK : G.cols = K at *
  clear hRR hKK
  go_enter Tryd.func45, Tryd.ntmps45
  go_upto_if 53 with (first
    | (go_at_call 43
       go_must (refine (WD.out _).mono ?_)
       rintro e w1 ⟨rfl, b1⟩
       obtain ⟨x0, x1, x2, bw⟩ := boxes3 (w := w) (t0 := 24) (t1 := 26) (t2 := 24) (cs := #[.int .i64 R, .int .i64 K, .slice A n cp]) (ds := #[.int .i64 p.1, .int .i64 p.2.1, .int .i64 p.2.2]) (es := #[.int .i64 0, .int .i64 0, .slice none 0 0])
       have x0 := x0.below b1 x0.lt
       have x1 := x1.below b1 x1.lt
       have x2 := x2.below b1 x2.lt
       have bb := bw.trans (b1.mono bw.size)
       obtain ⟨a0, a1, a2, _⟩ := x0.three
       have l0 := x0.lt
       have l1 := x1.lt
       have l2 := x2.lt
       have X0 := hide x0
       have X1 := hide x1
       have X2 := hide x2
       have HB := hide bb
       clear b1 bw WD x0 x1 x2 bb)
    | (go_at_call 71
       go_must (refine (FR.out _ (HB.out.alloc HB.out.size _)).mono ?_)
       rintro e w2 ⟨⟨A1, c1, rfl, hs1, hk1, hk2⟩, b2⟩
       have hs1 := hs1.below (b2.mono (show B ≤ _ by rw [World.size_alloc]; have := HB.out.size; omega))
       have OL := own_low (own_lit5 (w := w1) (base := w.heap.size) 58 rfl HB.out.size) b2
       have b1' : Below w1.heap.size w1 w2 := ((Below.refl _ _).alloc (Nat.le_refl _) _).trans (b2.mono (by rw [World.size_alloc]; omega))
       have hs1 := hide hs1
       have OL := hide OL
       clear b2)
    | (at_builtin
       go_must (refine wpList_appC rfl (.tmp 41) (.tmp 44) 22 rfl w.heap.size 58 i0 _ 40 Tryd.underlying22 hi hz0 hz1 hz2 rfl (.slice (some ⟨w1.heap.size, 0, none⟩) 0 0) 0 [] rfl OL.out B A1 K c1 ((List.range K).map f) rfl hs1.out (by omega) (by omega) (Nat.le_trans HB.out.size b1'.size) ?_)
       intro v4 w4 hown4 hg4 hm4
       simp only [Nat.zero_add, List.nil_append] at hown4
       obtain ⟨g, cap, rfl, hgb, hgc, hgm⟩ := own_at hown4 g3
       have H4 : RPut w R K n cp g cap A p f w4 := ⟨(X0.out.below b1' l0).grown hg4 (by simp [Value.ownBlock]; omega), (X1.out.below b1' l1).grown hg4 (by simp [Value.ownBlock]; omega), (X2.out.below b1' l2).grown hg4 (by simp [Value.ownBlock]; omega), hown4, (HB.out.trans (b1'.mono HB.out.size)).grown hg4 (Nat.le_trans HB.out.size b1'.size) (by rintro _ ⟨⟩; exact HB.out.size)⟩
       obtain ⟨q0, q1, q2, _⟩ := H4.2.1.three
       obtain ⟨v0, v1, v2, v3, v4, f0, f1, f2, f3, f4⟩ := H4.five (k := c) (by omega)
       have H4 := hide H4
       clear hg4 hm4 b1' OL hs1 X0 X1 X2 HB l0 l1 l2 hown4 a0 a1 a2))
  have H5 : RPut w R K n cp g cap A p (fun j => if j = c then (x, 0, p) else f j) (((((w4.setCell ⟨g, c * 5, none⟩ (.int .i32 x)).setCell ⟨g, c * 5 + 1, none⟩ (.int .i64 0)).setCell ⟨g, c * 5 + 2, none⟩ (.int .i64 p.1)).setCell ⟨g, c * 5 + 3, none⟩ (.int .i64 p.2.1)).setCell ⟨g, c * 5 + 4, none⟩ (.int .i64 p.2.2)) := H4.out.set (k := c) (by omega) (x, 0, p)
  have H5 := hide H5
  go_cut [] (fun wx => RPut w R K n cp g cap A p (PG.over f c x p wv) wx)
  case first =>
    clear v0 v1 v2 v3 v4 f0 f1 f2 f3 f4 q0 q1 q2
    have H5 := H5.out
    generalize (((((w4.setCell ⟨g, c * 5, none⟩ (.int .i32 x)).setCell ⟨g, c * 5 + 1, none⟩ (.int .i64 0)).setCell ⟨g, c * 5 + 2, none⟩ (.int .i64 p.1)).setCell ⟨g, c * 5 + 3, none⟩ (.int .i64 p.2.1)).setCell ⟨g, c * 5 + 4, none⟩ (.int .i64 p.2.2)) = w5 at H5 ⊢
    rcases hw1 with rfl | rfl
    · go_wp2_with fail
      go_meet
      exact H5.congr (fun j hj => by
        unfold PG.over
        by_cases e : j = c
        · rw [if_pos e, if_pos e, if_neg (by omega)]
        · rw [if_neg e, if_neg e, if_neg (by omega)])
    · obtain ⟨v0, v1, v2, v3, v4, f0, f1, f2, f3, f4⟩ := H5.five (k := c) (by omega)
      have H6 := hide (H5.kind (k := c) (x := x) (d := 0) (q := p) (by omega) (if_pos rfl) 1)
      clear H5 v0 v2 v3 v4 f0 f2 f3 f4
      go_upto_region 7 with fail
      go_cut [] (fun wx => RPut w R K n cp g cap A p (fun j => if j = c then (x, 1, p) else if j = c then (x, 0, p) else f j) wx)
      case first =>
        go_wp2_with fail
        go_meet
        exact H6.out
      case rest =>
        obtain ⟨v0, v1, v2, v3, v4, f0, f1, f2, f3, f4⟩ := hcut.five (k := c + 1) (by omega)
        obtain ⟨q0, q1, q2, _⟩ := hcut.2.1.three
        have H7 := hide (hcut.set (k := c + 1) (by omega) (0, 2, p))
        clear hcut
        go_wp2_with fail
        go_meet
        exact H7.out.congr (fun j hj => by
          unfold PG.over
          by_cases e : j = c
          · rw [if_neg (by omega), if_pos e, if_pos e, if_pos rfl]
          · by_cases e2 : j = c + 1
            · rw [if_pos e2, if_neg e, if_pos ⟨rfl, e2⟩]
            · rw [if_neg e2, if_neg e, if_neg e, if_neg e, if_neg (by omega)])
  case rest =>
    clear H4 H5 v0 v1 v2 v3 v4 f0 f1 f2 f3 f4 q0 q1 q2 hw1
    obtain ⟨x0, x1, x2, ho, hb⟩ := id hcut
    obtain ⟨a0, a1, a2, _⟩ := x0.three
    have l0 := x0.lt
    have HC := hide hcut
    have HB := hide hb
    clear x0 x1 x2 ho hb hcut
    go_upto_region 10 with (
      go_at_call 71
      go_must (refine (FR.out _ HB.out).mono ?_)
      rintro e w6 ⟨⟨A2, c2, rfl, hs2, hk3, hk4⟩, b6⟩
      have H6 := hide (HC.out.call b6)
      have hs2 := hide (hs2.below (b6.mono (show B ≤ _ from Nat.le_trans hB HB.out.size)))
      clear b6 FR a0 a1 a2 l0)
    go_cut [76] (fun u wx => ∃ b : Bool, u = .bool b ∧ (b = true ↔ 0 < c ∧ PG.kd (f c) = 2) ∧ wx = w6)
    case first =>
      obtain ⟨ad2, rfl, _, d0, d1, _⟩ := hs2.out.five (PG.range_at (f := f) (show c < K by omega))
      by_cases hc0 : 0 < c
      · by_cases hk2 : PG.kd (f c) = 2
        · have hq : (PG.kd (f c) == 2) = true := by simpa using hk2
          have hiff := hide (show true = true ↔ 0 < c ∧ PG.kd (f c) = 2 from ⟨fun _ => ⟨hc0, hk2⟩, fun _ => rfl⟩)
          clear hk2 d0
          go_wp2_with fail
          go_meet
          exact ⟨true, rfl, by simpa using hiff.out, rfl⟩
        · have hq : (PG.kd (f c) == 2) = false := by simpa using hk2
          have hiff := hide (show false = true ↔ 0 < c ∧ PG.kd (f c) = 2 from ⟨(fun h => by cases h), fun h => absurd h.2 hk2⟩)
          clear hk2 d0
          go_wp2_with fail
          go_meet
          exact ⟨false, rfl, by simpa using hiff.out, rfl⟩
      · have hiff := hide (show false = true ↔ 0 < c ∧ PG.kd (f c) = 2 from ⟨(fun h => by cases h), fun h => absurd h.1 hc0⟩)
        have hd : decide (0 < c) = false := by simpa using hc0
        have hd' : decide ((0 : Int) < (c : Int)) = false := by simp; omega
        clear d0 d1 hc0
        go_wp2_with fail
        go_meet
        exact ⟨false, rfl, by simpa using hiff.out, rfl⟩
    case rest =>
      obtain ⟨b, rfl, hiff, rfl⟩ := hcut
      go_upto_if 76 with fail
      go_cut [] (fun wx => RPut w R K n cp g cap A p (mid f c x p wv) wx)
      case first =>
        rcases b with _ | _
        · have hno : ¬ (0 < c ∧ PG.kd (f c) = 2) := fun h => by have := hiff.2 h; cases this
          have HM := hide (H6.out.congr (h' := mid f c x p wv) (fun j hj => by
            unfold mid
            rw [if_neg]
            rintro ⟨h1, h2⟩
            exact hno ⟨by omega, h2⟩))
          clear hno hiff
          go_wp2_with fail
          go_meet
          exact HM.out
        · obtain ⟨hc0, hk2⟩ := hiff.1 rfl
          obtain ⟨ad2, rfl, hadB, d0, d1, d2, d3, d4⟩ := hs2.out.five (PG.range_at (f := f) (show c - 1 < K by omega))
          have BP := hide (fun w' => BC.out (PG.pn (f (c - 1))) w')
          have hlast := hide (show ∀ j, (if j = c - 1 then PG.blank (PG.pn (f (c - 1))) else PG.over f c x p wv j) = mid f c x p wv j from fun j => by
            unfold mid
            by_cases e : j = c - 1
            · rw [if_pos e, if_pos ⟨by omega, hk2⟩, e]
            · rw [if_neg e, if_neg (by omega)])
          clear hiff hk2
          generalize f (c - 1) = F at *
          go_wp2_with (
            go_at_call 72
            go_must (refine (BP.out _).mono ?_)
            rintro e w7 ⟨rfl, b7⟩
            have H7 := H6.out.call b7
            obtain ⟨v0, v1, v2, v3, v4, f0, f1, f2, f3, f4⟩ := H7.five (k := c - 1) (by omega)
            have H8 := hide (H7.set (k := c - 1) (by omega) (PG.blank (PG.pn F)))
            clear b7 H7 BP)
          go_meet
          exact H8.out.congr (fun j _ => hlast.out j)
      case rest =>
        rename World => w7
        have hs3 := hide (seen_back hs2.out (H6.out.2.2.2.2.mono hB) (hcut.2.2.2.2.mono hB))
        obtain ⟨x0, x1, x2, ho, hb⟩ := id hcut
        obtain ⟨a0, a1, a2, _⟩ := x0.three
        have HC := hide hcut
        clear x0 x1 x2 ho hb hcut hs2 H6 hiff b
        go_upto_region 12 with fail
        go_cut [104] (fun u wx => ∃ b : Bool, u = .bool b ∧ (b = true ↔ c + wv < K ∧ PG.kd (f (c + wv - 1)) = 1) ∧ wx = w7)
        case first =>
          obtain ⟨ad2, rfl, _, d0, d1, _⟩ := hs3.out.five (PG.range_at (f := f) (show c + wv - 1 < K by omega))
          have i1 : ((c : Int) + (wv : Int) - 1).toNat = c + wv - 1 := by omega
          by_cases hc0 : c + wv < K
          · by_cases hk2 : PG.kd (f (c + wv - 1)) = 1
            · have hq : (PG.kd (f (c + wv - 1)) == 1) = true := by simpa using hk2
              have hiff := hide (show c + wv < K ∧ PG.kd (f (c + wv - 1)) = 1 from ⟨hc0, hk2⟩)
              clear hk2 d0
              go_wp2_with fail
              go_meet
              exact ⟨true, rfl, ⟨fun _ => hiff.out, fun _ => rfl⟩, rfl⟩
            · have hq : (PG.kd (f (c + wv - 1)) == 1) = false := by simpa using hk2
              have hiff := hide (show ¬ (c + wv < K ∧ PG.kd (f (c + wv - 1)) = 1) from fun h => hk2 h.2)
              clear hk2 d0
              go_wp2_with fail
              go_meet
              exact ⟨false, rfl, ⟨(fun h => by cases h), fun h => absurd h hiff.out⟩, rfl⟩
          · have hiff := hide (show ¬ (c + wv < K ∧ PG.kd (f (c + wv - 1)) = 1) from fun h => hc0 h.1)
            have hd : decide (c + wv < K) = false := by simpa using hc0
            have hd' : decide ((c : Int) + (wv : Int) < (K : Int)) = false := by simp; omega
            clear d0 d1 hc0
            go_wp2_with fail
            go_meet
            exact ⟨false, rfl, ⟨(fun h => by cases h), fun h => absurd h hiff.out⟩, rfl⟩
        case rest =>
          obtain ⟨b, rfl, hiff, rfl⟩ := hcut
          go_upto_if 104 with fail
          go_cut [] (fun wx => RPut w R K n cp g cap A p (PG.putRow f c x p wv) wx)
          case first =>
            rcases b with _ | _
            · have hno : ¬ (c + wv < K ∧ PG.kd (f (c + wv - 1)) = 1) := fun h => by have := hiff.2 h; cases this
              have HM := hide (HC.out.congr (h' := PG.putRow f c x p wv) (fun j hj => by
                rw [mid_put f c x p wv j hw12.1 hw12.2, if_neg]
                rintro ⟨h1, h2⟩
                exact hno ⟨by omega, h2⟩))
              clear hno hiff
              go_wp2_with fail
              go_meet
              exact HM.out
            · obtain ⟨hc0, hk2⟩ := hiff.1 rfl
              obtain ⟨ad2, rfl, hadB, d0, d1, d2, d3, d4⟩ := hs3.out.five (PG.range_at (f := f) (show c + wv < K by omega))
              have BP := hide (fun w' => BC.out (PG.pn (f (c + wv))) w')
              have hlast := hide (show ∀ j, (if j = c + wv then PG.blank (PG.pn (f (c + wv))) else mid f c x p wv j) = PG.putRow f c x p wv j from fun j => by
                rw [mid_put f c x p wv j hw12.1 hw12.2]
                by_cases e : j = c + wv
                · rw [if_pos e, if_pos ⟨e, hk2⟩, e]
                · rw [if_neg e, if_neg (fun h => e h.1)])
              clear hiff hk2
              generalize f (c + wv) = F at *
              go_wp2_with (
                go_at_call 72
                go_must (refine (BP.out _).mono ?_)
                rintro e w8 ⟨rfl, b8⟩
                have H7 := HC.out.call b8
                obtain ⟨v0, v1, v2, v3, v4, f0, f1, f2, f3, f4⟩ := H7.five (k := c + wv) (by omega)
                have H8 := hide (H7.set (k := c + wv) (by omega) (PG.blank (PG.pn F)))
                clear b8 H7 BP)
              go_meet
              exact H8.out.congr (fun j _ => hlast.out j)
          case rest =>
            obtain ⟨x0, x1, x2, ho, hb⟩ := hcut
            obtain ⟨a0, a1, a2, _⟩ := x0.three
            have l2 := x2.lt
            have X2 := hide x2
            have S := hide (SeenC.of_own ho)
            have HB := hide hb
            clear x0 x1 x2 ho hb HC hiff hs3 b BC
            go_wp2_with (
              go_at_call 73
              go_must (refine (FS.out _ HB.out _ _ _ S.out (Nat.le_refl _) (Nat.le_trans hB HB.out.size)).mono ?_)
              rintro e w9 ⟨v9, rfl, o9, b9⟩
              obtain ⟨A9, c9, rfl, _⟩ := own_form' o9
              have Z := X2.out.below b9 X2.out.lt
              obtain ⟨q0, q1, q2, q3, q4, q5⟩ := Z.three
              have Z := hide Z
              have o9 := hide (own_base' o9 HB.out.size)
              have HB := hide (HB.out.trans (b9.mono HB.out.size))
              clear b9 S X2 FS)
            have m := own_ne_box o9.out Z.out (by decide)
            have X := Z.out.set3 (.int .i64 R) (.int .i64 K) (.slice A9 out.length c9)
            obtain ⟨j0, j1, j2, _⟩ := X.three
            refine bodyPost_ret (v := .agg #[.int .i64 R, .int .i64 K, .slice A9 out.length c9]) (by simp [results, Tryd.results45, go_sem, j0, j1, j2]) rfl ⟨_, rfl, ?_, ?_⟩
            · exact ownsRow_setCell_other (ownsRow_setCell_other (ownsRow_setCell_other o9.out (a := ⟨w.heap.size + 1 + 1, 0, none⟩) m _) (a := ⟨w.heap.size + 1 + 1, 1, none⟩) m _) (a := ⟨w.heap.size + 1 + 1, 2, none⟩) m _
            · exact below_set3 HB.out (by omega) _ _ _
end Go.Proofs.YtdcdinlppjlmfaaDoor
set_option maxRecDepth 100000
namespace Go.Proofs.YtdcdinlppjlmfaaDoor
open Go.RowKit
set_option linter.unusedVariables false
set_option maxHeartbeats 4000000 in
theorem rput_not (R K n cp wv : Nat) (r c x : Int) (p : PG.Pn) (A : Option Addr) (w : World) (hR : R ≤ 40) (hK : K ≤ 60) (hr : -1000 ≤ r ∧ r ≤ 1000) (hc : -1000 ≤ c ∧ c ≤ 1000)
    (hx0 : -2147483648 ≤ x) (hx1 : x ≤ 2147483647) (hw : C.width x = (wv : Int)) (ho : r < 0 ∨ (R : Int) ≤ r ∨ c < 0 ∨ wv = 0 ∨ (K : Int) < c + wv) :
    Calls Tryd.prog 45 #[gv R K (.slice A n cp), .int .i64 r, .int .i64 c, .int .i32 x, pv p] w fun e w' => e = .returned (gv R K (.slice A n cp)) ∧ Below w.heap.size w w' := by
  have WD := hide (fun w' => (show Calls Tryd.prog 43 #[.int .i32 x] w' fun e w'' => e = .returned (.int .i64 (wv : Int)) ∧ Below w'.heap.size w' w'' by rw [← hw]; exact refWidth_any x w' hx0 hx1))
  have hw2 : wv ≤ 2 := by have := PG.width_bd x; omega
  have cs : r < 0 ∨ (0 ≤ r ∧ (R : Int) ≤ r) ∨ (0 ≤ r ∧ r < R ∧ c < 0) ∨ (0 ≤ r ∧ r < R ∧ 0 ≤ c ∧ wv = 0) ∨ (0 ≤ r ∧ r < R ∧ 0 ≤ c ∧ 1 ≤ wv ∧ (K : Int) < c + wv) := by omega
  clear hw hx0 hx1 ho
  unfold gv pv
  rcases cs with h | ⟨h, h'⟩ | ⟨h, h', h2⟩ | ⟨h, h', h2, h3⟩ | ⟨h, h', h2, h3, h4⟩
  case inr.inr.inr.inl =>
    subst h3
    go_enter Tryd.func45, Tryd.ntmps45
    go_wp2_with (
      go_at_call 43
      go_must (refine (WD.out _).mono ?_)
      rintro e w1 ⟨rfl, b1⟩
      obtain ⟨x0, x1, x2, bw⟩ := boxes3 (w := w) (t0 := 24) (t1 := 26) (t2 := 24) (cs := #[.int .i64 R, .int .i64 K, .slice A n cp]) (ds := #[.int .i64 p.1, .int .i64 p.2.1, .int .i64 p.2.2]) (es := #[.int .i64 0, .int .i64 0, .slice none 0 0])
      have x0 := x0.below b1 x0.lt
      have x2 := x2.below b1 x2.lt
      have bb := bw.trans (b1.mono bw.size)
      obtain ⟨a0, a1, a2, _⟩ := x0.three
      obtain ⟨q0, q1, q2, q3, q4, q5⟩ := x2.three
      have X2 := hide x2
      clear b1 bw WD x0 x1 x2)
    have X := X2.out.set3 (.int .i64 R) (.int .i64 K) (.slice A n cp)
    obtain ⟨j0, j1, j2, _⟩ := X.three
    exact bodyPost_ret (v := .agg #[.int .i64 R, .int .i64 K, .slice A n cp]) (by simp [results, Tryd.results45, go_sem, j0, j1, j2]) rfl ⟨rfl, below_set3 bb (by omega) _ _ _⟩
  all_goals
    go_enter Tryd.func45, Tryd.ntmps45
    go_wp2_with (
      go_at_call 43
      go_must (refine (WD.out _).mono ?_)
      rintro e w1 ⟨rfl, b1⟩
      obtain ⟨x0, x1, x2, bw⟩ := boxes3 (w := w) (t0 := 24) (t1 := 26) (t2 := 24) (cs := #[.int .i64 R, .int .i64 K, .slice A n cp]) (ds := #[.int .i64 p.1, .int .i64 p.2.1, .int .i64 p.2.2]) (es := #[.int .i64 0, .int .i64 0, .slice none 0 0])
      have x0 := x0.below b1 x0.lt
      have x2 := x2.below b1 x2.lt
      have bb := bw.trans (b1.mono bw.size)
      obtain ⟨a0, a1, a2, _⟩ := x0.three
      obtain ⟨q0, q1, q2, q3, q4, q5⟩ := x2.three
      have X2 := hide x2
      clear b1 bw WD x0 x1 x2)
    have X := X2.out.set3 (.int .i64 R) (.int .i64 K) (.slice A n cp)
    obtain ⟨j0, j1, j2, _⟩ := X.three
    exact bodyPost_ret (v := .agg #[.int .i64 R, .int .i64 K, .slice A n cp]) (by simp [results, Tryd.results45, go_sem, j0, j1, j2]) rfl ⟨rfl, below_set3 bb (by omega) _ _ _⟩
set_option maxHeartbeats 4000000 in
theorem rwipe_not (R K n cp : Nat) (r a b : Int) (p : PG.Pn) (A : Option Addr) (w : World) (hR : R ≤ 40) (ho : r < 0 ∨ (R : Int) ≤ r) :
    Calls Tryd.prog 59 #[gv R K (.slice A n cp), .int .i64 r, .int .i64 a, .int .i64 b, pv p] w fun e w' => e = .returned (gv R K (.slice A n cp)) ∧ Below w.heap.size w w' := by
  have cs : r < 0 ∨ (0 ≤ r ∧ (R : Int) ≤ r) := by omega
  clear ho
  unfold gv pv
  rcases cs with h | ⟨h, h'⟩
  all_goals
    go_enter Tryd.func59, Tryd.ntmps59
    go_wp2_with fail
    refine bodyPost_ret (v := .agg #[.int .i64 R, .int .i64 K, .slice A n cp]) (by simp [results, Tryd.results59, go_sem]) rfl ⟨rfl, ?_⟩
    exact (((Below.refl _ _).alloc (Nat.le_refl _) _).alloc (by simp) _).alloc (by simp; omega) _
end Go.Proofs.YtdcdinlppjlmfaaDoor
set_option maxRecDepth 100000
namespace Go.Proofs.YtdcdinlppjlmfaaDoor
open Go.RowKit
set_option linter.unusedVariables false
namespace PG
theorem halfR_row {g : Gr} {R K k : Nat} (hk : k < R) : ((cells (halfR g R K k)).drop (k * K)).take K = (List.range K).map (fun _ => blank plain) := by
  have h := row_cut (g := halfR g R K k) (r := k) hk
  rw [show (halfR g R K k).cols = K from rfl] at h
  rw [h]
  refine List.map_congr_left fun j _ => ?_
  show (if k < k then _ else blank plain) = blank plain
  rw [if_neg (Nat.lt_irrefl k)]
theorem halfR_next {g : Gr} {R K k : Nat} (hk : k < R) : spl (cells (halfR g R K k)) (k * K) (mendL ((List.range K).map (under g k))) = cells (halfR g R K (k + 1)) := by
  rw [mendL_range]
  have e3 := spl_cells (g := halfR g R K k) (r := k) (m := (List.range K).map (mend (under g k) K)) (h := mend (under g k) K) hk (by simp; rfl) (fun j hj => range_at hj)
  rw [show (halfR g R K k).cols = K from rfl] at e3
  rw [e3]
  refine cells_ext ⟨rfl, rfl, fun i j hi hj => ?_⟩
  show (if i = k then mend (under g k) K j else if i < k then mend (under g i) K j else blank plain) = if i < k + 1 then mend (under g i) K j else blank plain
  by_cases e : i = k
  · subst e
    rw [if_pos rfl, if_pos (by omega)]
  · rw [if_neg e]
    by_cases h : i < k
    · rw [if_pos h, if_pos (by omega)]
    · rw [if_neg h, if_neg (by omega)]
theorem halfR_stop {g : Gr} {R K k : Nat} (hk : k = R ∨ k = g.rows) : cells (halfR g R K k) = cells (resizeG g R K) := by
  refine cells_ext ⟨rfl, rfl, fun i j hi hj => ?_⟩
  have hi : i < R := hi
  show (if i < k then mend (under g i) K j else blank plain) = mend (under g i) K j
  by_cases h : i < k
  · rw [if_pos h]
  · rw [if_neg h]
    have hg : g.rows ≤ i := by omega
    have hu : ∀ m, under g i m = blank plain := fun m => by unfold under; rw [if_neg (by omega)]
    unfold mend
    rw [hu j, if_neg]
    rw [kd_blank]
    omega
end PG
/-- the first c cells of a row taken over -/
def part (f : Nat → PG.Cl) (c j : Nat) : PG.Cl := if j < c then f j else PG.blank PG.plain
theorem part_set (f : Nat → PG.Cl) (n c : Nat) : ((List.range n).map (part f c)).set c (f c) = (List.range n).map (part f (c + 1)) := by
  rw [range_set]
  refine List.map_congr_left fun j _ => ?_
  unfold part
  by_cases e : j = c
  · subst e
    rw [if_pos rfl, if_pos (by omega)]
  · rw [if_neg e]
    by_cases h : j < c
    · rw [if_pos h, if_pos (by omega)]
    · rw [if_neg h, if_neg (by omega)]
theorem part_zero (f : Nat → PG.Cl) (n : Nat) : (List.range n).map (part f 0) = (List.range n).map (fun _ => PG.blank PG.plain) := List.map_congr_left fun j _ => if_neg (Nat.not_lt_zero j)
theorem part_all (G : PG.Gr) {k K : Nat} (hk : k < G.rows) : (List.range K).map (part (G.f k) (min K G.cols)) = (List.range K).map (PG.under G k) := List.map_congr_left fun j hj => by
  have hj := List.mem_range.1 hj
  unfold part PG.under
  by_cases h : j < G.cols
  · rw [if_pos (by omega), if_pos ⟨hk, h⟩]
  · rw [if_neg (by omega), if_neg (fun x => h x.2)]
/-- where the document's Resize stands between its rounds -/
structure RSize (w : World) (G : PG.Gr) (n cp R K N gt k : Nat) (ad : Addr) (v : Value) (wx : World) : Prop where
  box0 : Box wx w.heap.size 24 #[.int .i64 G.rows, .int .i64 G.cols, .slice (some ad) n cp]
  box1 : Box wx (w.heap.size + 1) 24 #[.int .i64 0, .int .i64 0, .slice none 0 0]
  boxT : Box wx gt 24 #[.int .i64 R, .int .i64 K, v]
  own : wx.ownsRow w.heap.size 58 5 v N (ccells (PG.cells (PG.halfR G R K k)))
  below : Below w.heap.size w wx
theorem RSize.call {w wx wy : World} {G : PG.Gr} {n cp R K N gt k : Nat} {ad : Addr} {v : Value} (h : RSize w G n cp R K N gt k ad v wx) (b : Below wx.heap.size wx wy) : RSize w G n cp R K N gt k ad v wy :=
  ⟨h.box0.below b h.box0.lt, h.box1.below b h.box1.lt, h.boxT.below b h.boxT.lt, own_low h.own b, h.below.trans (b.mono h.below.size)⟩
theorem RSize.grown {w wx wy : World} {G : PG.Gr} {n cp R K N gt k : Nat} {ad : Addr} {v : Value} (h : RSize w G n cp R K N gt k ad v wx) {g' n' m : Nat} {v' : Value} {xs : List Value} (o : wx.ownsRow m 58 5 v' n' xs) (hv : v'.ownBlock = some g') (hne : v.ownBlock ≠ some g') (hm : w.heap.size ≤ g') (b : wx.grownBy wy (some g')) : RSize w G n cp R K N gt k ad v wy :=
  ⟨h.box0.grown b (fun e => own_ne_box o h.box0 (by decide) (hv.trans e.symm)), h.box1.grown b (fun e => own_ne_box o h.box1 (by decide) (hv.trans e.symm)), h.boxT.grown b (fun e => own_ne_box o h.boxT (by decide) (hv.trans e.symm)),
    own_kept h.own (Kept.of_grown b) (fun q hq hm => hne (by simp at hm; rw [hq, hm])), h.below.grown b h.below.size (by rintro _ ⟨⟩; exact hm)⟩
end Go.Proofs.YtdcdinlppjlmfaaDoor
set_option maxRecDepth 100000
namespace Go.Proofs.YtdcdinlppjlmfaaDoor
open Go.RowKit
set_option linter.unusedVariables false
set_option maxHeartbeats 1000000 in
theorem same_cells (l : List PG.Cl) (A A' : Option Addr) (B B' n c m c' : Nat) (w : World) (hx : SeenC w B A n l) (hy : SeenC w B' A' m l) (hn : n ≤ 1099511627776) :
    Calls Tryd.prog 18 #[.slice A n c, .slice A' m c'] w fun e w' => e = .returned (.bool true) ∧ ∃ q, w.drewN q = w' := by
  have e1 := hx.len
  have e2 := hy.len
  subst e1
  obtain rfl := e2
  generalize hN : l.length = n at *
  have HX := hide hx
  have HY := hide hy
  clear hx hy
  go_enter Tryd.func18, Tryd.ntmps18
  go_wp2
  go_loopw [5] (fun i wr => ∃ k q : Nat, k ≤ n ∧ i = .int .i64 k ∧ wr = w.drewN q) (fun i _ => n - (intOf i).toNat)
  case atStart => exact ⟨0, 0, Nat.zero_le _, rfl, rfl⟩
  case round =>
    obtain ⟨k, q, hk, rfl, rfl⟩ := hrel
    by_cases hlt : k < n
    · have hck : l[k]? = some l[k] := List.getElem?_eq_getElem (by omega)
      generalize l[k] = cc at hck
      obtain ⟨ad, rfl, _, d0, d1, d2, d3, d4⟩ := HX.out.five hck
      obtain ⟨ad', rfl, _, n0, n1, n2, n3, n4⟩ := HY.out.five hck
      generalize PG.rn cc = x0 at *
      generalize PG.kd cc = x1 at *
      generalize (PG.pn cc).1 = x2 at *
      generalize (PG.pn cc).2.1 = x3 at *
      generalize (PG.pn cc).2.2 = x4 at *
      clear hck
      go_wp2_with fail
      go_quiet (fail)
      go_wp2
      go_roundw
      case rel => exact ⟨k + 1, _, by omega, by go_num, rfl⟩
      case measure => simp [intOf]; omega
    · go_wp2
      go_ret
      exact ⟨rfl, q, rfl⟩
end Go.Proofs.YtdcdinlppjlmfaaDoor
namespace Go.Proofs.YtdcdinlppjlmfaaDoor
open Go.RowKit
set_option linter.unusedVariables false
set_option maxHeartbeats 1000000 in
theorem pick_any (l : List Int) (A : Option Addr) (B n c i : Nat) (w : World) (hx : Seen w B A n (l.map (Value.int .i64))) (hn : n ≤ 1099511627776) (hi : i ≤ 1099511627776) :
    Calls Tryd.prog 40 #[.slice A n c, .int .i64 i] w fun e w' => e = .returned (.int .i64 (PG.pick l i)) ∧ w = w' := by
  have hlen : l.length = n := by simpa using hx.1
  by_cases h0 : n < 1
  · have hr : PG.pick l i = 0 := by
      unfold PG.pick
      rw [if_pos (List.eq_nil_of_length_eq_zero (by omega))]
    obtain rfl : n = 0 := by omega
    have hr := hide hr
    clear hx hlen h0
    go_enter Tryd.func40, Tryd.ntmps40
    go_wp2_with fail
    go_ret
    exact ⟨by rw [hr.out]; rfl, rfl⟩
  · have hk : i % n < n := Nat.mod_lt _ (by omega)
    obtain ⟨ad, u, rfl, _, hu, hc⟩ := hx.at_ hk
    rw [List.getElem?_map] at hu
    obtain ⟨z, hz, rfl⟩ := Option.map_eq_some_iff.1 hu
    have hr : PG.pick l i = z := by
      unfold PG.pick
      rw [if_neg (fun e => by subst e; simp at hlen; omega), hlen, List.getD_eq_getElem?_getD, hz]
      rfl
    have hm : (i : Int).tmod (n : Int) = ((i % n : Nat) : Int) := (Int.ofNat_tmod i n).symm
    have hne : ((n : Int) == 0) = false := by simp; omega
    have hr := hide hr
    clear hu hz hx hlen
    generalize i % n = j at *
    go_enter Tryd.func40, Tryd.ntmps40
    go_wp2_with fail
    go_ret
    exact ⟨by rw [hr.out]; rfl, rfl⟩
end Go.Proofs.YtdcdinlppjlmfaaDoor
set_option maxRecDepth 100000
namespace Go.Proofs.YtdcdinlppjlmfaaDoor
open Go.RowKit
set_option linter.unusedVariables false
/-- a grid by value, its cells in a row -/
def IsG (w : World) (G : PG.Gr) (v : Value) : Prop := ∃ s, v = gv G.rows G.cols s ∧ w.ownsRow 0 58 5 s (G.rows * G.cols) (ccells (PG.cells G))
theorem IsG.low {w w' : World} {G : PG.Gr} {v : Value} (h : IsG w G v) (b : Below w.heap.size w w') : IsG w' G v := by
  obtain ⟨s, h1, h2⟩ := h
  exact ⟨s, h1, own_low h2 b⟩
theorem IsG.kept {w w' : World} {G : PG.Gr} {v : Value} {g : Nat} {T : TypeId} {cs : Array Value} (h : IsG w G v) (hb : Box w g T cs) (hT : T ≠ 58) (k : Kept [some g] w w') : IsG w' G v := by
  obtain ⟨s, h1, h2⟩ := h
  exact ⟨s, h1, own_kept h2 k (fun b hb' hm => own_ne_box h2 hb (Ne.symm hT) (by simp at hm; rw [hb', hm]))⟩
/-- a struct of three cells stored over a box -/
def set3 (w : World) (g : Nat) (x y z : Value) : World := ((w.setCell ⟨g, 0, none⟩ x).setCell ⟨g, 1, none⟩ y).setCell ⟨g, 2, none⟩ z
theorem three_of {cs : Array Value} (hs : cs.size = 3) : ∃ x y z, cs = #[x, y, z] := by
  obtain ⟨l⟩ := cs
  rcases l with _ | ⟨x, _ | ⟨y, _ | ⟨z, _ | ⟨u, l⟩⟩⟩⟩ <;> simp at hs
  exact ⟨x, y, z, rfl⟩
theorem set3_box {w : World} {g : Nat} {T : TypeId} {cs : Array Value} (h : Box w g T cs) (hs : cs.size = 3) (x y z : Value) : Box (set3 w g x y z) g T #[x, y, z] := by
  obtain ⟨a, b, c, rfl⟩ := three_of hs
  exact h.set3 x y z
theorem set3_far {w : World} {g g' : Nat} {T : TypeId} {cs : Array Value} (h : Box w g T cs) (hne : g ≠ g') (x y z : Value) : Box (set3 w g' x y z) g T cs := h.far3 hne x y z
theorem set3_kept (w : World) (g : Nat) (x y z : Value) : Kept [some g] w (set3 w g x y z) :=
  (((Kept.refl _ w).setCell (p := ⟨g, 0, none⟩) (From.mem (by simp)) _).setCell (p := ⟨g, 1, none⟩) (From.mem (by simp)) _).setCell (p := ⟨g, 2, none⟩) (From.mem (by simp)) _
/-- the shape of a region: of each operation its kind (0 a value that is known, 1 a grid, 2 a new box, 3 a store into a new box, 4 a store into an old one), whose box, whose value, the box's type -/
abbrev Shape := List (Nat × Nat × Nat × Nat)
def skd (sh : Shape) (j : Nat) : Nat := (sh.getD j (0, 0, 0, 0)).1
def sba (sh : Shape) (j : Nat) : Nat := (sh.getD j (0, 0, 0, 0)).2.1
def sva (sh : Shape) (j : Nat) : Nat := (sh.getD j (0, 0, 0, 0)).2.2.1
def sty (sh : Shape) (j : Nat) : Nat := (sh.getD j (0, 0, 0, 0)).2.2.2
def depIn (ops : Array Oper) (i j : Nat) : Bool := ((ops[i]?).map fun o => o.after.any fun e => Region.binds .any e && e.on == j).getD false
def okShape (sh : Shape) (ops : Array Oper) : Bool := sh.length == ops.size && (List.range ops.size).all fun j =>
  (!(skd sh j == 3) || (depIn ops j (sba sh j) && depIn ops j (sva sh j) && skd sh (sba sh j) == 2 && sty sh (sba sh j) == sty sh j && sty sh j != 58 && Nat.blt (sva sh j) ops.size && (List.range j).all fun i => !(skd sh i == 3 && sba sh i == sba sh j))) &&
  (!(skd sh j == 4) || (depIn ops j (sva sh j) && sty sh j != 58 && Nat.blt (sva sh j) ops.size))
def Holds (w0 : World) (sh : Shape) (vals : Nat → Value) (grs : Nat → PG.Gr) (gs : Nat → Nat) (j : Nat) (u : Nat → Value) (w : World) : Prop :=
  (skd sh j = 0 → u j = vals j) ∧
  (skd sh j = 1 → IsG w (grs j) (u j)) ∧
  (skd sh j = 2 → ∃ g cs, u j = .pointer (some ⟨g, 0, none⟩) ∧ w0.heap.size ≤ g ∧ Box w g (sty sh j) cs ∧ cs.size = 3) ∧
  (skd sh j = 3 → ∃ g x y z, u (sba sh j) = .pointer (some ⟨g, 0, none⟩) ∧ u (sva sh j) = .agg #[x, y, z] ∧ Box w g (sty sh j) #[x, y, z]) ∧
  (skd sh j = 4 → ∃ x y z, u (sva sh j) = .agg #[x, y, z] ∧ Box w (gs j) (sty sh j) #[x, y, z])
structure RJ (ops : Array Oper) (S : List (Option Nat)) (w0 : World) (olds : Nat → Array Value) (sh : Shape) (vals : Nat → Value) (grs : Nat → PG.Gr) (gs : Nat → Nat) (L : Nat → Bool) (u : Nat → Value) (w : World) : Prop where
  kept : Kept S w0 w
  old : ∀ j, skd sh j = 4 → L j = false → Box w (gs j) (sty sh j) (olds j)
  dist : ∀ i j, skd sh i = 2 → skd sh j = 2 → L i = true → L j = true → i ≠ j → u i ≠ u j
  all : ∀ j, j < ops.size → L j = true → Holds w0 sh vals grs gs j u w
/-- what is known of the region whatever its order -/
structure RS (ops : Array Oper) (S : List (Option Nat)) (w0 : World) (olds : Nat → Array Value) (sh : Shape) (gs : Nat → Nat) : Prop where
  shape : okShape sh ops = true
  inS : ∀ j, skd sh j = 4 → some (gs j) ∈ S ∧ gs j < w0.heap.size ∧ (olds j).size = 3
  ne4 : ∀ i j, skd sh i = 4 → skd sh j = 4 → i ≠ j → gs i ≠ gs j
section
variable {ops : Array Oper} {S : List (Option Nat)} {w0 : World} {olds : Nat → Array Value} {sh : Shape} {vals : Nat → Value} {grs : Nat → PG.Gr} {gs : Nat → Nat}
theorem skd_lt (hs : RS ops S w0 olds sh gs) {j : Nat} (h : skd sh j ≠ 0) : j < ops.size := by
  have hl := hs.shape
  unfold okShape at hl
  simp only [Bool.and_eq_true, beq_iff_eq] at hl
  rcases Nat.lt_or_ge j ops.size with h1 | h1
  · exact h1
  · exfalso
    apply h
    unfold skd
    rw [List.getD_eq_getElem?_getD, List.getElem?_eq_none (by omega)]
    rfl
theorem shape3 (hs : RS ops S w0 olds sh gs) {j : Nat} (h : skd sh j = 3) : depIn ops j (sba sh j) = true ∧ depIn ops j (sva sh j) = true ∧ skd sh (sba sh j) = 2 ∧ sty sh (sba sh j) = sty sh j ∧ sty sh j ≠ 58 ∧ sva sh j < ops.size ∧ ∀ i, i < j → skd sh i = 3 → sba sh i ≠ sba sh j := by
  have hj := skd_lt hs (j := j) (by omega)
  have hl := hs.shape
  unfold okShape at hl
  simp only [Bool.and_eq_true] at hl
  have := List.all_eq_true.1 hl.2 j (by simpa using hj)
  simp only [Bool.and_eq_true, Bool.or_eq_true, Bool.not_eq_true', beq_eq_false_iff_ne, beq_iff_eq, bne_iff_ne, ne_eq, Nat.blt_eq] at this
  rcases this.1 with h1 | ⟨⟨⟨⟨⟨⟨h1, h2⟩, h3⟩, h4⟩, h5⟩, h7⟩, h6⟩
  · exact absurd h h1
  · refine ⟨h1, h2, h3, h4, h5, h7, fun i hi hk e => ?_⟩
    have := List.all_eq_true.1 h6 i (by simpa using hi)
    simp [hk, e] at this
theorem shape4 (hs : RS ops S w0 olds sh gs) {j : Nat} (h : skd sh j = 4) : depIn ops j (sva sh j) = true ∧ sty sh j ≠ 58 ∧ sva sh j < ops.size := by
  have hj := skd_lt hs (j := j) (by omega)
  have hl := hs.shape
  unfold okShape at hl
  simp only [Bool.and_eq_true] at hl
  have := List.all_eq_true.1 hl.2 j (by simpa using hj)
  simp only [Bool.and_eq_true, Bool.or_eq_true, Bool.not_eq_true', beq_eq_false_iff_ne, beq_iff_eq, bne_iff_ne, ne_eq, Nat.blt_eq] at this
  rcases this.2 with h1 | ⟨⟨h1, h2⟩, h3⟩
  · exact absurd h h1
  · exact ⟨h1, h2, h3⟩
theorem came {L : Nat → Bool} (hcl : Closed ops L) {i j : Nat} (h : L i = true) (hd : depIn ops i j = true) : L j = true := by
  refine dep_of (ops := ops) (i := i) (fun o ho e he hb => hcl i h o ho e he hb) j hd
variable {L : Nat → Bool} {u : Nat → Value} {w w' : World}
theorem RJ.same {u' : Nat → Value} (hs : RS ops S w0 olds sh gs) (h : RJ ops S w0 olds sh vals grs gs L u w) (he : ∀ j, j < ops.size → u j = u' j) : RJ ops S w0 olds sh vals grs gs L u' w := by
  refine ⟨h.kept, h.old, fun i j hi hj li lj hne => by rw [← he i (skd_lt hs (by omega)), ← he j (skd_lt hs (by omega))]; exact h.dist i j hi hj li lj hne, fun j hl hj => ?_⟩
  obtain ⟨a, b, c, d, e⟩ := h.all j hl hj
  refine ⟨fun k => by rw [← he j hl]; exact a k, fun k => by rw [← he j hl]; exact b k, fun k => by rw [← he j hl]; exact c k, fun k => ?_, fun k => ?_⟩
  · obtain ⟨_, _, s3, _, _, s6, _⟩ := shape3 hs k
    rw [← he _ (skd_lt hs (j := sba sh j) (by omega)), ← he _ s6]
    exact d k
  · rw [← he _ (shape4 hs k).2.2]
    exact e k
/-- one that comes up, and leaves all that was there -/
theorem RJ.low (hs : RS ops S w0 olds sh gs) (h : RJ ops S w0 olds sh vals grs gs L u w) (hcl : Closed ops L) {i : Nat} (hL : L i = false) (b : Below w.heap.size w w') (v : Value) (hk4 : skd sh i ≠ 4)
    (hd2 : skd sh i = 2 → ∀ j, skd sh j = 2 → L j = true → u j ≠ v) (hi : Holds w0 sh vals grs gs i (upd u i v) w') : RJ ops S w0 olds sh vals grs gs (mark L i) (upd u i v) w' := by
  have hu : ∀ j, L j = true → upd u i v j = u j := fun j hj => upd_at (fun e => by rw [e, hL] at hj; cases hj)
  have hm : ∀ j, mark L i j = true → j = i ∨ L j = true := fun j hj => by
    by_cases e : j = i
    · exact .inl e
    · rw [mark_at e] at hj; exact .inr hj
  refine ⟨h.kept.below b, fun j hk hj => ?_, fun a c ha hc la lc hne => ?_, fun j hl hj => ?_⟩
  · have hj' : L j = false := by
      by_cases e : j = i
      · rw [e, mark_self] at hj; cases hj
      · rwa [mark_at e] at hj
    have hb := h.old j hk hj'
    exact hb.below b hb.lt
  · rcases hm a la with rfl | la'
    · rcases hm c lc with rfl | lc'
      · exact absurd rfl hne
      · rw [upd_self, hu c lc']
        exact fun e => hd2 ha c hc lc' e.symm
    · rcases hm c lc with rfl | lc'
      · rw [upd_self, hu a la']
        exact hd2 hc a ha la'
      · rw [hu a la', hu c lc']
        exact h.dist a c ha hc la' lc' hne
  · rcases hm j hj with rfl | hj'
    · exact hi
    · obtain ⟨a, c, d, e, f⟩ := h.all j hl hj'
      refine ⟨fun k => by rw [hu j hj']; exact a k, fun k => by rw [hu j hj']; exact (c k).low b, fun k => ?_, fun k => ?_, fun k => ?_⟩
      · obtain ⟨g, cs, k1, k2, k3, k4⟩ := d k
        exact ⟨g, cs, by rw [hu j hj']; exact k1, k2, k3.below b k3.lt, k4⟩
      · obtain ⟨g, x, y, z, k1, k2, k3⟩ := e k
        obtain ⟨s1, s2, _⟩ := shape3 hs k
        exact ⟨g, x, y, z, by rw [hu _ (came hcl hj' s1)]; exact k1, by rw [hu _ (came hcl hj' s2)]; exact k2, k3.below b k3.lt⟩
      · obtain ⟨x, y, z, k1, k2⟩ := f k
        exact ⟨x, y, z, by rw [hu _ (came hcl hj' (shape4 hs k).1)]; exact k1, k2.below b k2.lt⟩
/-- a value that is known -/
theorem RJ.val (hs : RS ops S w0 olds sh gs) (h : RJ ops S w0 olds sh vals grs gs L u w) (hcl : Closed ops L) {i : Nat} (hL : L i = false) (hk : skd sh i = 0) (b : Below w.heap.size w w') (v : Value) (hv : vals i = v) : RJ ops S w0 olds sh vals grs gs (mark L i) (upd u i v) w' :=
  h.low hs hcl hL b v (by omega) (fun e => by omega) ⟨fun _ => by rw [upd_self, hv], fun e => by omega, fun e => by omega, fun e => by omega, fun e => by omega⟩
theorem RJ.grid (hs : RS ops S w0 olds sh gs) (h : RJ ops S w0 olds sh vals grs gs L u w) (hcl : Closed ops L) {i : Nat} (hL : L i = false) (hk : skd sh i = 1) (b : Below w.heap.size w w') (v : Value) (hv : IsG w' (grs i) v) : RJ ops S w0 olds sh vals grs gs (mark L i) (upd u i v) w' :=
  h.low hs hcl hL b v (by omega) (fun e => by omega) ⟨fun e => by omega, fun _ => by rw [upd_self]; exact hv, fun e => by omega, fun e => by omega, fun e => by omega⟩
theorem RJ.box (hs : RS ops S w0 olds sh gs) (h : RJ ops S w0 olds sh vals grs gs L u w) (hcl : Closed ops L) {i : Nat} (hL : L i = false) (hk : skd sh i = 2) (T : TypeId) (hT : sty sh i = T) (x y z : Value) : RJ ops S w0 olds sh vals grs gs (mark L i) (upd u i (.pointer (some ⟨w.heap.size, 0, none⟩))) (w.alloc (.cells #[x, y, z] T)) := by
  subst hT
  refine h.low hs hcl hL ((Below.refl _ _).alloc (Nat.le_refl _) _) _ (by omega) (fun _ j hj lj e => ?_) ⟨fun e => by omega, fun e => by omega, fun _ => ⟨_, _, upd_self, h.kept.size, Box.new w _ _, rfl⟩, fun e => by omega, fun e => by omega⟩
  obtain ⟨g, cs, k1, k2, k3, k4⟩ := (h.all j (skd_lt hs (by omega)) lj).2.2.1 hj
  rw [k1] at e
  cases e
  exact absurd k3.lt (Nat.lt_irrefl _)
/-- one that stores -/
theorem RJ.hit (hs : RS ops S w0 olds sh gs) (h : RJ ops S w0 olds sh vals grs gs L u w) (hcl : Closed ops L) {i g : Nat} {T : TypeId} {cs : Array Value} (hL : L i = false) (hb : Box w g T cs) (hsz : cs.size = 3) (hT : T ≠ 58) (x y z : Value) (hk : skd sh i = 3 ∨ skd sh i = 4)
    (hS : From w0 S (some g)) (h4 : ∀ j, j ≠ i → skd sh j = 4 → gs j ≠ g) (h3 : ∀ j, j ≠ i → skd sh j = 3 → L j = true → ∀ g', u (sba sh j) = .pointer (some ⟨g', 0, none⟩) → g' ≠ g) (hi : Holds w0 sh vals grs gs i (upd u i undef) (set3 w g x y z)) :
    RJ ops S w0 olds sh vals grs gs (mark L i) (upd u i undef) (set3 w g x y z) := by
  have hu : ∀ j, L j = true → upd u i undef j = u j := fun j hj => upd_at (fun e => by rw [e, hL] at hj; cases hj)
  have hm : ∀ j, mark L i j = true → j = i ∨ L j = true := fun j hj => by
    by_cases e : j = i
    · exact .inl e
    · rw [mark_at e] at hj; exact .inr hj
  have hk2 := set3_kept w g x y z
  refine ⟨h.kept.trans hk2 (by simpa using hS), fun j hk hj => ?_, fun a c ha hc la lc hne => ?_, fun j hl hj => ?_⟩
  · by_cases e : j = i
    · rw [e, mark_self] at hj; cases hj
    · rw [mark_at e] at hj
      exact set3_far (h.old j hk hj) (h4 j e hk) x y z
  · rcases hm a la with rfl | la'
    · omega
    · rcases hm c lc with rfl | lc'
      · omega
      · rw [hu a la', hu c lc']
        exact h.dist a c ha hc la' lc' hne
  · rcases hm j hj with rfl | hj'
    · exact hi
    · have hji : j ≠ i := fun e => by rw [e, hL] at hj'; cases hj'
      obtain ⟨a, c, d, e, f⟩ := h.all j hl hj'
      refine ⟨fun k => by rw [hu j hj']; exact a k, fun k => by rw [hu j hj']; exact (c k).kept hb hT hk2, fun k => ?_, fun k => ?_, fun k => ?_⟩
      · obtain ⟨g', cs', k1, k2, k3, k4⟩ := d k
        by_cases eg : g' = g
        · subst eg
          exact ⟨g', #[x, y, z], by rw [hu j hj']; exact k1, k2, set3_box k3 k4 x y z, rfl⟩
        · exact ⟨g', cs', by rw [hu j hj']; exact k1, k2, set3_far k3 eg x y z, k4⟩
      · obtain ⟨g', x', y', z', k1, k2, k3⟩ := e k
        obtain ⟨s1, s2, _⟩ := shape3 hs k
        exact ⟨g', x', y', z', by rw [hu _ (came hcl hj' s1)]; exact k1, by rw [hu _ (came hcl hj' s2)]; exact k2, set3_far k3 (h3 j hji k hj' g' k1) x y z⟩
      · obtain ⟨x', y', z', k1, k2⟩ := f k
        exact ⟨x', y', z', by rw [hu _ (came hcl hj' (shape4 hs k).1)]; exact k1, set3_far k2 (h4 j hji k) x y z⟩
theorem RJ.put (hs : RS ops S w0 olds sh gs) (h : RJ ops S w0 olds sh vals grs gs L u w) (hcl : Closed ops L) {i g : Nat} (hL : L i = false) (hk : skd sh i = 3) (la : L (sba sh i) = true) (lv : L (sva sh i) = true) (hg : u (sba sh i) = .pointer (some ⟨g, 0, none⟩)) {x y z : Value} (hv : u (sva sh i) = .agg #[x, y, z]) :
    RJ ops S w0 olds sh vals grs gs (mark L i) (upd u i undef) (set3 w g x y z) := by
  obtain ⟨s1, s2, s3, s4, s5, _, s6⟩ := shape3 hs hk
  obtain ⟨g', cs, k1, k2, k3, k4⟩ := (h.all _ (skd_lt hs (by omega)) la).2.2.1 s3
  rw [hg] at k1
  cases k1
  rw [s4] at k3
  have hna : sba sh i ≠ i := fun e => by rw [e, hL] at la; cases la
  have hnv : sva sh i ≠ i := fun e => by rw [e, hL] at lv; cases lv
  refine h.hit hs hcl hL k3 k4 s5 x y z (.inl hk) (fun b e => by cases e; exact .inr k2) (fun j _ hj e => ?_) (fun j hne hj lj g' hg' e => ?_) ⟨fun e => by omega, fun e => by omega, fun e => by omega, fun _ => ⟨g, x, y, z, by rw [upd_at hna]; exact hg, by rw [upd_at hnv]; exact hv, set3_box k3 k4 x y z⟩, fun e => by omega⟩
  · have := (hs.inS j hj).2.1
    omega
  · subst e
    obtain ⟨t1, t2, t3, t4, t5, _, t6⟩ := shape3 hs hj
    have hd : sba sh j ≠ sba sh i := by
      rcases Nat.lt_or_gt_of_ne hne with hlt | hlt
      · exact s6 j hlt hj
      · exact fun e => t6 i hlt hk e.symm
    exact h.dist _ _ t3 s3 (came hcl lj t1) la hd (hg'.trans hg.symm)
theorem RJ.set (hs : RS ops S w0 olds sh gs) (h : RJ ops S w0 olds sh vals grs gs L u w) (hcl : Closed ops L) {i : Nat} (hL : L i = false) (hk : skd sh i = 4) (lv : L (sva sh i) = true) {x y z : Value} (hv : u (sva sh i) = .agg #[x, y, z]) :
    RJ ops S w0 olds sh vals grs gs (mark L i) (upd u i undef) (set3 w (gs i) x y z) := by
  obtain ⟨s1, s2, _⟩ := shape4 hs hk
  obtain ⟨a1, a2, a3⟩ := hs.inS i hk
  have hb := h.old i hk hL
  have hnv : sva sh i ≠ i := fun e => by rw [e, hL] at lv; cases lv
  refine h.hit hs hcl hL hb a3 s2 x y z (.inr hk) (From.mem a1) (fun j hne hj => hs.ne4 j i hj hk hne) (fun j hne hj lj g' hg' e => ?_) ⟨fun e => by omega, fun e => by omega, fun e => by omega, fun e => by omega, fun _ => ⟨x, y, z, by rw [upd_at hnv]; exact hv, set3_box hb a3 x y z⟩⟩
  subst e
  obtain ⟨t1, t2, t3, _⟩ := shape3 hs hj
  obtain ⟨g, cs, k1, k2, _⟩ := (h.all _ (skd_lt hs (by omega)) (came hcl lj t1)).2.2.1 t3
  rw [hg'] at k1
  cases k1
  omega
/-- what came up -/
theorem RJ.valOf (h : RJ ops S w0 olds sh vals grs gs L u w) {j : Nat} (hl : j < ops.size) (hj : L j = true) (hk : skd sh j = 0) {v : Value} (hv : vals j = v) : u j = v := ((h.all j hl hj).1 hk).trans hv
theorem RJ.gridOf (h : RJ ops S w0 olds sh vals grs gs L u w) {j : Nat} (hl : j < ops.size) (hj : L j = true) (hk : skd sh j = 1) : IsG w (grs j) (u j) := (h.all j hl hj).2.1 hk
theorem RJ.gridAt (h : RJ ops S w0 olds sh vals grs gs L u w) {j : Nat} (hl : j < ops.size) (hj : L j = true) (hk : skd sh j = 1) : ∃ v, u j = v ∧ IsG w (grs j) v := ⟨_, rfl, h.gridOf hl hj hk⟩
theorem RJ.boxOf (h : RJ ops S w0 olds sh vals grs gs L u w) {j : Nat} (hl : j < ops.size) (hj : L j = true) (hk : skd sh j = 2) : ∃ g cs, u j = .pointer (some ⟨g, 0, none⟩) ∧ w0.heap.size ≤ g ∧ Box w g (sty sh j) cs ∧ cs.size = 3 := (h.all j hl hj).2.2.1 hk
theorem RJ.keptBox (h : RJ ops S w0 olds sh vals grs gs L u w) {g : Nat} {T : TypeId} {cs : Array Value} (hb : Box w0 g T cs) (hn : some g ∉ S) : Box w g T cs := hb.kept h.kept hn
theorem RJ.start (hb : ∀ j, skd sh j = 4 → Box w0 (gs j) (sty sh j) (olds j)) (u : Nat → Value) : RJ ops S w0 olds sh vals grs gs (fun _ => false) u { w0 with drawn := w0.drawn + 1 } :=
  ⟨(Kept.refl S w0).drew, fun j hk _ => hb j hk, (fun i j _ _ li => by cases li), (fun j _ hj => by cases hj)⟩
end
end Go.Proofs.YtdcdinlppjlmfaaDoor
set_option maxRecDepth 100000
namespace Go.Proofs.YtdcdinlppjlmfaaDoor
open Go.RowKit
set_option linter.unusedVariables false
set_option maxHeartbeats 1000000 in
theorem pick_wide (l : List Int) (A : Option Addr) (B n c i : Nat) (w : World) (hx : Seen w B A n (l.map (Value.int .i64))) (hn : n ≤ 9223372036854775807) (hi : i ≤ 1099511627776) :
    Calls Tryd.prog 40 #[.slice A n c, .int .i64 i] w fun e w' => e = .returned (.int .i64 (PG.pick l i)) ∧ w = w' := by
  have hlen : l.length = n := by simpa using hx.1
  by_cases h0 : n < 1
  · have hr : PG.pick l i = 0 := by
      unfold PG.pick
      rw [if_pos (List.eq_nil_of_length_eq_zero (by omega))]
    obtain rfl : n = 0 := by omega
    have hr := hide hr
    clear hx hlen h0
    go_enter Tryd.func40, Tryd.ntmps40
    go_wp2_with fail
    go_ret
    exact ⟨by rw [hr.out]; rfl, rfl⟩
  · have hk : i % n < n := Nat.mod_lt _ (by omega)
    obtain ⟨ad, u, rfl, _, hu, hc⟩ := hx.at_ hk
    rw [List.getElem?_map] at hu
    obtain ⟨z, hz, rfl⟩ := Option.map_eq_some_iff.1 hu
    have hr : PG.pick l i = z := by
      unfold PG.pick
      rw [if_neg (fun e => by subst e; simp at hlen; omega), hlen, List.getD_eq_getElem?_getD, hz]
      rfl
    have hm : (i : Int).tmod (n : Int) = ((i % n : Nat) : Int) := (Int.ofNat_tmod i n).symm
    have hne : ((n : Int) == 0) = false := by simp; omega
    have hr := hide hr
    clear hu hz hx hlen
    generalize i % n = j at *
    go_enter Tryd.func40, Tryd.ntmps40
    go_wp2_with fail
    go_ret
    exact ⟨by rw [hr.out]; rfl, rfl⟩
theorem pick_is (l : List Int) (A : Option Addr) (B n c : Nat) (j : Int) (i : Nat) (hj : j = (i : Int)) (v : Int) (hv : PG.pick l i = v) (w : World) (hx : Seen w B A n (l.map (Value.int .i64))) (hn : n ≤ 9223372036854775807) (hi : i ≤ 1099511627776) :
    Calls Tryd.prog 40 #[.slice A n c, .int .i64 j] w fun e w' => e = .returned (.int .i64 v) ∧ w = w' := by
  subst hj hv
  exact pick_wide l A B n c i w hx hn hi
theorem pick_bd {l : List Int} (h : ∀ x ∈ l, -9223372036854775808 ≤ x ∧ x ≤ 9223372036854775807) (i : Nat) : -9223372036854775808 ≤ PG.pick l i ∧ PG.pick l i ≤ 9223372036854775807 := by
  unfold PG.pick
  split
  · omega
  · rename_i h0
    have hl : 0 < l.length := List.length_pos_iff.2 h0
    have hk : i % l.length < l.length := Nat.mod_lt _ hl
    rw [List.getD_eq_getElem?_getD, List.getElem?_eq_getElem hk]
    exact h _ (List.getElem_mem hk)
theorem pos_of_tmod9 {n : Int} (h : n.tmod 5 = 4) : 0 ≤ n.tmod 9 ∧ n.tmod 9 ≤ 8 := by
  have h0 := PG.tmod_pos h
  have h1 := Int.tmod_nonneg (9 : Int) h0
  have h2 := Int.tmod_lt_of_pos n (b := 9) (by omega)
  omega
/-- what stands between the rounds -/
structure KGr (w : World) (rw cl : Int) (Ar Ap : Option Addr) (nr cr np cp R K N gt : Nat) (rs ps : List Int) (l : List PG.Cl) (v : Value) (wx : World) : Prop where
  box0 : Box wx w.heap.size 41 #[.int .i64 rw, .int .i64 cl, .slice Ar nr cr, .slice Ap np cp]
  box1 : Box wx (w.heap.size + 1) 24 #[.int .i64 0, .int .i64 0, .slice none 0 0]
  boxT : Box wx gt 24 #[.int .i64 R, .int .i64 K, v]
  own : wx.ownsRow w.heap.size 58 5 v l.length (ccells l)
  below : Below w.heap.size w wx
  ok : PG.Ok K l
  fit : l.length ≤ N
  rest : PG.keepGo rs ps K N N l = PG.keepGo rs ps K N N []
theorem KGr.call {w wx wy : World} {rw cl : Int} {Ar Ap : Option Addr} {nr cr np cp R K N gt : Nat} {rs ps : List Int} {l : List PG.Cl} {v : Value} (h : KGr w rw cl Ar Ap nr cr np cp R K N gt rs ps l v wx) (b : Below wx.heap.size wx wy) : KGr w rw cl Ar Ap nr cr np cp R K N gt rs ps l v wy :=
  ⟨h.box0.below b h.box0.lt, h.box1.below b h.box1.lt, h.boxT.below b h.boxT.lt, own_low h.own b, h.below.trans (b.mono h.below.size), h.ok, h.fit, h.rest⟩
/-- one round's cells appended, and the field stored -/
theorem KGr.grow {w wx w1 : World} {rw cl : Int} {Ar Ap : Option Addr} {nr cr np cp R K N gt : Nat} {rs ps : List Int} {l m : List PG.Cl} {v : Value} {A1 : Option Addr} {c1 : Nat} (h : KGr w rw cl Ar Ap nr cr np cp R K N gt rs ps l v wx) (hN : N = R * K)
    (o1 : w1.ownsRow w.heap.size 58 5 (.slice A1 (l.length + m.length) c1) (l.length + m.length) (ccells (l ++ m))) (b0 : wx.grownBy w1 v.ownBlock) (hs : w.heap.size + 1 < gt) (hl : l.length < N) (hm : l ++ m = PG.keepStep rs ps K l) :
    KGr w rw cl Ar Ap nr cr np cp R K N gt rs ps (l ++ m) (.slice A1 (l.length + m.length) c1) (w1.setCell ⟨gt, 2, none⟩ (.slice A1 (l.length + m.length) c1)) := by
  subst hN
  obtain ⟨k1, k2, k3⟩ := PG.keepStep_ok rs ps (R := R) h.ok hl
  have hb : ∀ g, v.ownBlock = some g → w.heap.size ≤ g := fun g hg => (h.own.lt g hg).1
  have y0 := h.box0.grown b0 (fun e => own_ne_box h.own h.box0 (by decide) e.symm)
  have y1 := h.box1.grown b0 (fun e => own_ne_box h.own h.box1 (by decide) e.symm)
  have yT := h.boxT.grown b0 (fun e => own_ne_box h.own h.boxT (by decide) e.symm)
  have nT := own_ne_box o1 yT (by decide)
  refine ⟨y0.far (by show w.heap.size ≠ gt; omega) _, y1.far (by show w.heap.size + 1 ≠ gt; omega) _, by simpa using yT.set 2 (.slice A1 (l.length + m.length) c1), ?_, (h.below.grown b0 h.below.size hb).setCell (show w.heap.size ≤ gt by omega) _, by rw [hm]; exact k1, by rw [hm]; exact k3, ?_⟩
  · rw [List.length_append]
    exact ownsRow_setCell_other o1 (a := ⟨gt, 2, none⟩) nT _
  · rw [hm, ← PG.keepGo_step rs ps h.ok hl (by omega)]
    exact h.rest
set_option maxHeartbeats 8000000 in
theorem keepGrid_any (rw cl : Int) (R K nr cr np cp B : Nat) (rs ps : List Int) (Ar Ap : Option Addr) (w : World) (hR : 1 + rw % (5 - 1 + 1) = (R : Int)) (hK : 1 + cl % (9 - 1 + 1) = (K : Int)) (hr0 : -9223372036854775808 ≤ rw) (hr1 : rw ≤ 9223372036854775807) (hc0 : -9223372036854775808 ≤ cl) (hc1 : cl ≤ 9223372036854775807)
    (hs : Seen w B Ar nr (rs.map (Value.int .i64))) (hp : Seen w B Ap np (ps.map (Value.int .i64))) (hB : B ≤ w.heap.size) (hnr : nr ≤ 9223372036854775807) (hnp : np ≤ 9223372036854775807) (hsb : ∀ x ∈ rs, -9223372036854775808 ≤ x ∧ x ≤ 9223372036854775807) (hpb : ∀ x ∈ ps, -9223372036854775808 ≤ x ∧ x ≤ 9223372036854775807) :
    Calls Tryd.prog 25 #[.agg #[.int .i64 rw, .int .i64 cl, .slice Ar nr cr, .slice Ap np cp]] w (GaveG w R K (PG.keepCells rs ps R K)) := by
  obtain ⟨i0, hi, hz0, hz1, hz2⟩ := info_parts info_cell
  have WR := hide (fun w' => within_is rw 1 5 R hR w' hr0 hr1 (by omega) (by omega) (by omega))
  have WK := hide (fun w' => within_is cl 1 9 K hK w' hc0 hc1 (by omega) (by omega) (by omega))
  have hR5 : 1 ≤ R ∧ R ≤ 5 := by omega
  have hK9 : 1 ≤ K ∧ K ≤ 9 := by omega
  have hN : R * K ≤ 45 := Nat.mul_le_mul hR5.2 hK9.2
  have eN : (R : Int) * (K : Int) = ((R * K : Nat) : Int) := by simp
  have PR := hide (fun (w' : World) (i : Nat) v (hv : PG.pick rs i = v) (hb : Below w.heap.size w w') (hi : i ≤ 45) => pick_is rs Ar B nr cr i i rfl v hv w' (hs.below (hb.mono hB)) hnr (by omega))
  have PP := hide (fun (w' : World) (j : Int) (i : Nat) v (hj : j = (i : Int)) (hv : PG.pick ps i = v) (hb : Below w.heap.size w w') (hi : i ≤ 45) => pick_is ps Ap B np cp j i hj v hv w' (hp.below (hb.mono hB)) hnp (by omega))
  have hkw := hide (PG.keepCells_ok rs ps R K)
  have hsb := hide hsb
  have hpb := hide hpb
  clear hR hK hr0 hr1 hc0 hc1 hs hp hB hnr hnp
  have hNN : ∃ N, R * K = N := ⟨_, rfl⟩
  obtain ⟨N, hNN⟩ := hNN
  rw [hNN] at hN eN
  have hNN := hide hNN
  unfold GaveG gv
  go_enter Tryd.func25, Tryd.ntmps25
  go_wp2_with fail
  go_region_held3 (fun w' => w'.cell? ⟨w.heap.size, 0, none⟩ = some (.int .i64 rw) ∧ w'.cell? ⟨w.heap.size, 1, none⟩ = some (.int .i64 cl)) (go_keep)
    (first | (go_at_call_of 13 (Value.int IntKind.i64 rw); refine (WR.out _).mono ?_; rintro e w' ⟨rfl, rfl⟩) | (go_at_call_of 13 (Value.int IntKind.i64 cl); refine (WK.out _).mono ?_; rintro e w' ⟨rfl, rfl⟩))
  go_wp2_with fail
  go_loopw [6] (fun j wr => ∃ (i : Nat) (l : List PG.Cl) (v : Value), j = .int .i64 i ∧ Hid (l.length = i) ∧ KGr w rw cl Ar Ap nr cr np cp R K N (w.heap.size + 1 + 1) rs ps l v wr) (fun j _ => N - (intOf j).toNat)
  case atStart =>
    refine ⟨0, [], .slice none 0 0, rfl, hide rfl, ?_⟩
    have x0 := (((Box.new w 41 #[.int .i64 rw, .int .i64 cl, .slice Ar nr cr, .slice Ap np cp]).alloc (.cells #[.int .i64 0, .int .i64 0, .slice none 0 0] 24)).drew).alloc (.cells #[.int .i64 R, .int .i64 K, .slice none 0 0] 24)
    have x1 := ((Box.new (w.alloc (.cells #[.int .i64 rw, .int .i64 cl, .slice Ar nr cr, .slice Ap np cp] 41)) 24 #[.int .i64 0, .int .i64 0, .slice none 0 0]).drew).alloc (.cells #[.int .i64 R, .int .i64 K, .slice none 0 0] 24)
    have xT := Box.new ((w.alloc (.cells #[.int .i64 rw, .int .i64 cl, .slice Ar nr cr, .slice Ap np cp] 41)).alloc (.cells #[.int .i64 0, .int .i64 0, .slice none 0 0] 24)).drew 24 #[.int .i64 R, .int .i64 K, .slice none 0 0]
    rw [World.size_alloc] at x1
    rw [show (((w.alloc (.cells #[.int .i64 rw, .int .i64 cl, .slice Ar nr cr, .slice Ap np cp] 41)).alloc (.cells #[.int .i64 0, .int .i64 0, .slice none 0 0] 24)).drew).heap.size = w.heap.size + 1 + 1 from by simp [World.drew]] at xT
    exact ⟨x0, x1, xT, World.ownsRow_nil _ _ _ _, ((((Below.refl _ _).alloc (Nat.le_refl _) _).alloc (by simp) _).drew).alloc (by simp [World.drew]; omega) _, PG.ok_nil K, Nat.zero_le _, rfl⟩
  case round =>
    obtain ⟨i, l, v, rfl, hli, H⟩ := hrel
    have ho := H.own
    rw [hli.out] at ho
    have hiN : i ≤ N := by rw [← hli.out]; exact H.fit
    obtain ⟨Av, cv, rfl, _, _, hblk⟩ := own_form' ho
    have b2 : wr.cell? ⟨w.heap.size, 2, none⟩ = some (.slice Ar nr cr) := H.box0.cell 2
    have b3 : wr.cell? ⟨w.heap.size, 3, none⟩ = some (.slice Ap np cp) := H.box0.cell 3
    have l0 := H.box0.lt
    have l1 := H.box1.lt
    have lT := H.boxT.lt
    by_cases hlt : i < N
    · obtain ⟨n, hn⟩ : ∃ n, PG.pick rs i = n := ⟨_, rfl⟩
      obtain ⟨u, hu⟩ : ∃ u, PG.pick ps (i / 3) = u := ⟨_, rfl⟩
      have hnb := pick_bd hsb.out i
      have hub := pick_bd hpb.out (i / 3)
      rw [hn] at hnb
      rw [hu] at hub
      have PRi := hide (fun w' hb => PR.out w' i n hn hb (by omega))
      have PPi := hide (fun w' j hj hb => PP.out w' j (i / 3) u hj hu hb (by omega))
      have hd16 : -9223372036854775808 ≤ u.tdiv 16 ∧ u.tdiv 16 ≤ 9223372036854775807 := by have h1 := Int.mul_tdiv_add_tmod u 16; have h2 := Int.tmod_lt_of_pos u (b := 16) (by omega); have h3 := Int.tmod_lt_of_pos (-u) (b := 16) (by omega); rw [Int.neg_tmod] at h3; omega
      have hd64 : -9223372036854775808 ≤ u.tdiv 64 ∧ u.tdiv 64 ≤ 9223372036854775807 := by have h1 := Int.mul_tdiv_add_tmod u 64; have h2 := Int.tmod_lt_of_pos u (b := 64) (by omega); have h3 := Int.tmod_lt_of_pos (-u) (b := 64) (by omega); rw [Int.neg_tmod] at h3; omega
      have KP := hide (fun w' => keepPen_any u (u.tdiv 16) (u.tdiv 64) w' hub.1 hub.2 hd16.1 hd16.2 hd64.1 hd64.2)
      have hstep : PG.keepStep rs ps K l = if n.tmod 5 = 4 ∧ (i + 1) % K ≠ 0 then l ++ [(19968 + n.tmod 9, 1, PG.keepPen u), (0, 2, PG.keepPen u)] else l ++ [(97 + n % 10, 0, PG.keepPen u)] := by
        unfold PG.keepStep
        rw [hli.out, hn, hu]
      have hkp : PG.keepPen u = (C.kcol u, C.kcol (u.tdiv 16), u.tdiv 64 % 256) := rfl
      rw [hkp] at hstep
      generalize C.kcol u = p1 at *
      generalize C.kcol (u.tdiv 16) = p2 at *
      generalize u.tdiv 64 % 256 = p3 at *
      have hstep := hide hstep
      have H := hide H
      have hblk := hide hblk
      have hsz := H.out.below.size
      have hKz : ((K : Int) == 0) = false := by simp; omega
      have hgo := hide (show Below w.heap.size w wr from H.out.below)
      clear hkp hn hu PR PP ho
      go_upto_region 9 with (first
        | (go_at_call_of 40 (Value.slice Ar nr cr)
           go_must (refine (PRi.out _ hgo.out).mono ?_)
           rintro e w' ⟨rfl, rfl⟩)
        | (go_at_call_of 40 (Value.slice Ap np cp)
           go_must (refine (PPi.out _ _ (by omega) hgo.out).mono ?_)
           rintro e w' ⟨rfl, rfl⟩)
        | (go_at_call 26
           go_must (refine (KP.out _).mono ?_)
           rintro e w5 ⟨rfl, b5⟩
           have H5 := hide (H.out.call b5)
           clear b5 KP H))
      have xP := Box.new w5 26 #[.int .i64 p1, .int .i64 p2, .int .i64 p3]
      have H6 := H5.out.call ((Below.refl _ w5).alloc (Nat.le_refl _) (.cells #[.int .i64 p1, .int .i64 p2, .int .i64 p3] 26))
      generalize w5.alloc (.cells #[.int .i64 p1, .int .i64 p2, .int .i64 p3] 26) = w6 at xP H6 ⊢
      generalize w5.heap.size = gp at xP ⊢
      clear H5 PRi PPi hgo hub hd16 hd64 b2 b3 l0 l1 lT hsz
      have t2 : w6.cell? ⟨w.heap.size + 1 + 1, 2, none⟩ = some (.slice Av i cv) := H6.boxT.cell 2
      have fT := H6.boxT.frozen 2
      have lT := H6.boxT.lt
      have lp := xP.lt
      obtain ⟨P0, P1, P2, _⟩ := xP.three
      have ho := H6.own
      rw [hli.out] at ho
      have ho := hide ho
      have hll : l.length < N := by rw [hli.out]; exact hlt
      have hll := hide hll
      have H6 := hide H6
      obtain ⟨m, hm⟩ : ∃ m, (i + 1) % K = m := ⟨_, rfl⟩
      have hm1 : ((i : Int) + 1).tmod (K : Int) = (m : Int) := by rw [← hm]; exact (Int.ofNat_tmod (i + 1) K).symm
      have hm2 : ((i : Int) + 1) % (K : Int) = (m : Int) := by rw [← Int.tmod_eq_emod_of_nonneg (by omega)]; exact hm1
      by_cases h5 : n.tmod 5 = 4
      · by_cases hm0 : m = 0
        · have hs1 := hstep.out
          rw [hm, if_neg (fun h => h.2 hm0)] at hs1
          have q5 : (n.tmod 5 == 4) = true := by simpa using h5
          have qm : ((m : Int) != 0) = false := by simp; omega
          clear hstep hm h5 hm0
          obtain ⟨y, hy⟩ : ∃ y, n % 10 = y := ⟨_, rfl⟩
          have hyb : 0 ≤ y ∧ y ≤ 9 := by omega
          have WN := hide (fun w' => within_is n 0 9 y (by omega) w' hnb.1 hnb.2 (by omega) (by omega) (by omega))
          rw [hy] at hs1
          have hs1 := hide hs1
          have w32 : IntKind.i32.wrap (97 + y) = 97 + y := IntWalk.i32_in _ (by omega)
          have w64 : IntKind.i64.wrap (97 + y) = 97 + y := IntWalk.i64_in _ (by omega)
          have t2o : ∀ o, (w6.alloc o).cell? ⟨w.heap.size + 1 + 1, 2, none⟩ = some (.slice Av i cv) := fun o => (World.cell?_alloc_lt w6 o ⟨w.heap.size + 1 + 1, 2, none⟩ lT).trans t2
          clear hy
          go_wp2_with fail
          go_region_law (first
            | (go_simp; go_at_call 13; refine (WN.out _).mono ?_; rintro e w' ⟨rfl, rfl⟩)
            | (refine step_appB (by rfl) (.tmp 68) (.tmp 75) 22 (by rfl) w.heap.size 58 i0 _ 5 40 Tryd.underlying22 hi hz0 hz1 hz2 zcell_size (by omega) (.slice Av i cv) i (ccells l) (by rfl) (show ((w6.alloc (.cells #[.int .i32 (97 + y), .int .i64 0, .int .i64 p1, .int .i64 p2, .int .i64 p3] 58)).drew).ownsRow w.heap.size 58 5 (.slice Av i cv) i (ccells l) from ho.out.alloc _) #[.int .i32 (97 + y), .int .i64 0, .int .i64 p1, .int .i64 p2, .int .i64 p3] 58 w6.heap.size (by rfl) (Box.new w6 _ _).drew rfl (by simp [Value.oneCell']) (by omega) (by omega) (by have := H6.out.below.size; simp [World.drew]; omega) ?_
               intro v1 w1 o1 hg1 hmv
               (obtain ⟨A1, c1, rfl, _⟩ := own_form' o1)
               have hg1' : (w6.alloc (.cells #[.int .i32 (97 + y), .int .i64 0, .int .i64 p1, .int .i64 p2, .int .i64 p3] 58)).grownBy w1 (Value.slice Av i cv).ownBlock := ⟨hg1.os, hg1.tape, hg1.output, hg1.size, hg1.block⟩
               have H7 := H6.out.call ((Below.refl _ w6).alloc (Nat.le_refl _) (.cells #[.int .i32 (97 + y), .int .i64 0, .int .i64 p1, .int .i64 p2, .int .i64 p3] 58))
               have b1T := H7.boxT.grown hg1' (fun e => own_ne_box H7.own H7.boxT (by decide) e.symm)
               have f1T := b1T.frozen 2
               have c1T : w1.cell? ⟨w.heap.size + 1 + 1, 2, none⟩ = some (.slice Av i cv) := b1T.cell 2
               have H8 := hide (KGr.grow (m := [(97 + y, 0, (p1, p2, p3))]) H7 hNN.out.symm (A1 := A1) (c1 := c1) (by rw [hli.out, ccells_append]; exact o1) hg1' (by omega) hll.out hs1.out.symm)))
          all_goals
            clear o1 hg1 hg1' hmv H7 b1T H6 ho t2 fT P0 P1 P2 t2o
            go_wp2_with fail
            go_roundw
            case rel =>
              have H9 := H8.out
              rw [hli.out] at H9
              exact ⟨i + 1, _, _, by go_num, hide (by rw [List.length_append, hli.out]; rfl), H9⟩
            case measure => simp [intOf]; omega
        · have hs1 := hstep.out
          rw [hm, if_pos ⟨h5, hm0⟩] at hs1
          have hs1 := hide hs1
          have q5 : (n.tmod 5 == 4) = true := by simpa using h5
          have qm : ((m : Int) != 0) = true := by simp; omega
          have h9 := pos_of_tmod9 h5
          have w32 : IntKind.i32.wrap (19968 + n.tmod 9) = 19968 + n.tmod 9 := IntWalk.i32_in _ (by omega)
          clear hstep hm h5 hm0
          go_wp2_with (
            at_builtin
            go_must (refine wpList_appC rfl (.tmp 53) (.tmp 62) 22 rfl w.heap.size 58 i0 _ 40 Tryd.underlying22 hi hz0 hz1 hz2 rfl (.slice Av i cv) i l rfl (ho.out.alloc _) (w6.heap.size + 1) (some ⟨w6.heap.size, 0, none⟩) 2 2 [(19968 + n.tmod 9, 1, (p1, p2, p3)), (0, 2, (p1, p2, p3))] rfl (Seen.of_box (Box.new w6 58 #[.int .i32 (19968 + n.tmod 9), .int .i64 1, .int .i64 p1, .int .i64 p2, .int .i64 p3, .int .i32 0, .int .i64 2, .int .i64 p1, .int .i64 p2, .int .i64 p3]) rfl rfl (Nat.lt_succ_self _)) (by omega) (by omega) (by have := H6.out.below.size; simp; omega) ?_)
            intro v1 w1 o1 hg1 hmv
            obtain ⟨A1, c1, rfl, _⟩ := own_form' o1
            have H7 := H6.out.call ((Below.refl _ w6).alloc (Nat.le_refl _) (.cells #[.int .i32 (19968 + n.tmod 9), .int .i64 1, .int .i64 p1, .int .i64 p2, .int .i64 p3, .int .i32 0, .int .i64 2, .int .i64 p1, .int .i64 p2, .int .i64 p3] 58))
            have b1T := H7.boxT.grown hg1 (fun e => own_ne_box H7.own H7.boxT (by decide) e.symm)
            have f1T := b1T.frozen 2
            have c1T : w1.cell? ⟨w.heap.size + 1 + 1, 2, none⟩ = some (.slice Av i cv) := b1T.cell 2
            have H8 := hide (KGr.grow (m := [(19968 + n.tmod 9, 1, (p1, p2, p3)), (0, 2, (p1, p2, p3))]) H7 hNN.out.symm (A1 := A1) (c1 := c1) (by rw [hli.out]; exact o1) hg1 (by omega) hll.out hs1.out.symm)
            clear o1 hg1 hmv H7 b1T H6 ho t2 fT P0 P1 P2)
          go_roundw
          case rel =>
            have H9 := H8.out
            rw [hli.out] at H9
            exact ⟨i + 2, _, _, by go_num, hide (by rw [List.length_append, hli.out]; rfl), H9⟩
          case measure => simp [intOf]; omega
      · have hs1 := hstep.out
        rw [hm, if_neg (fun h => h5 h.1)] at hs1
        have q5 : (n.tmod 5 == 4) = false := by simpa using h5
        clear hstep hm h5
        obtain ⟨y, hy⟩ : ∃ y, n % 10 = y := ⟨_, rfl⟩
        have hyb : 0 ≤ y ∧ y ≤ 9 := by omega
        have WN := hide (fun w' => within_is n 0 9 y (by omega) w' hnb.1 hnb.2 (by omega) (by omega) (by omega))
        rw [hy] at hs1
        have hs1 := hide hs1
        have w32 : IntKind.i32.wrap (97 + y) = 97 + y := IntWalk.i32_in _ (by omega)
        have w64 : IntKind.i64.wrap (97 + y) = 97 + y := IntWalk.i64_in _ (by omega)
        have t2o : ∀ o, (w6.alloc o).cell? ⟨w.heap.size + 1 + 1, 2, none⟩ = some (.slice Av i cv) := fun o => (World.cell?_alloc_lt w6 o ⟨w.heap.size + 1 + 1, 2, none⟩ lT).trans t2
        clear hy
        go_wp2_with fail
        go_region_law (first
          | (go_simp; go_at_call 13; refine (WN.out _).mono ?_; rintro e w' ⟨rfl, rfl⟩)
          | (refine step_appB (by rfl) (.tmp 68) (.tmp 75) 22 (by rfl) w.heap.size 58 i0 _ 5 40 Tryd.underlying22 hi hz0 hz1 hz2 zcell_size (by omega) (.slice Av i cv) i (ccells l) (by rfl) (show ((w6.alloc (.cells #[.int .i32 (97 + y), .int .i64 0, .int .i64 p1, .int .i64 p2, .int .i64 p3] 58)).drew).ownsRow w.heap.size 58 5 (.slice Av i cv) i (ccells l) from ho.out.alloc _) #[.int .i32 (97 + y), .int .i64 0, .int .i64 p1, .int .i64 p2, .int .i64 p3] 58 w6.heap.size (by rfl) (Box.new w6 _ _).drew rfl (by simp [Value.oneCell']) (by omega) (by omega) (by have := H6.out.below.size; simp [World.drew]; omega) ?_
             intro v1 w1 o1 hg1 hmv
             (obtain ⟨A1, c1, rfl, _⟩ := own_form' o1)
             have hg1' : (w6.alloc (.cells #[.int .i32 (97 + y), .int .i64 0, .int .i64 p1, .int .i64 p2, .int .i64 p3] 58)).grownBy w1 (Value.slice Av i cv).ownBlock := ⟨hg1.os, hg1.tape, hg1.output, hg1.size, hg1.block⟩
             have H7 := H6.out.call ((Below.refl _ w6).alloc (Nat.le_refl _) (.cells #[.int .i32 (97 + y), .int .i64 0, .int .i64 p1, .int .i64 p2, .int .i64 p3] 58))
             have b1T := H7.boxT.grown hg1' (fun e => own_ne_box H7.own H7.boxT (by decide) e.symm)
             have f1T := b1T.frozen 2
             have c1T : w1.cell? ⟨w.heap.size + 1 + 1, 2, none⟩ = some (.slice Av i cv) := b1T.cell 2
             have H8 := hide (KGr.grow (m := [(97 + y, 0, (p1, p2, p3))]) H7 hNN.out.symm (A1 := A1) (c1 := c1) (by rw [hli.out, ccells_append]; exact o1) hg1' (by omega) hll.out hs1.out.symm)))
        all_goals
          clear o1 hg1 hg1' hmv H7 b1T H6 ho t2 fT P0 P1 P2 t2o
          go_wp2_with fail
          go_roundw
          case rel =>
            have H9 := H8.out
            rw [hli.out] at H9
            exact ⟨i + 1, _, _, by go_num, hide (by rw [List.length_append, hli.out]; rfl), H9⟩
          case measure => simp [intOf]; omega
    · obtain rfl : i = N := by omega
      have hk := H.rest
      rw [PG.keepGo_done rs ps (by rw [hli.out]; exact Nat.le_refl _)] at hk
      have hcells : l = PG.keepCells rs ps R K := by unfold PG.keepCells; rw [hNN.out]; exact hk
      have t0 : wr.cell? ⟨w.heap.size + 1 + 1, 0, none⟩ = some (.int .i64 R) := H.boxT.cell 0
      have t1 : wr.cell? ⟨w.heap.size + 1 + 1, 1, none⟩ = some (.int .i64 K) := H.boxT.cell 1
      have t2 : wr.cell? ⟨w.heap.size + 1 + 1, 2, none⟩ = some (.slice Av i cv) := H.boxT.cell 2
      obtain ⟨q0, q1, q2, q3, q4, q5⟩ := H.box1.three
      have n1 := own_ne_box ho H.box1 (by decide)
      have X := H.box1.set3 (.int .i64 R) (.int .i64 K) (.slice Av i cv)
      have O := ownsRow_setCell_other (ownsRow_setCell_other (ownsRow_setCell_other ho (a := ⟨w.heap.size + 1, 0, none⟩) n1 (.int .i64 R)) (a := ⟨w.heap.size + 1, 1, none⟩) n1 (.int .i64 K)) (a := ⟨w.heap.size + 1, 2, none⟩) n1 (.slice Av i cv)
      have bz := below_set3 H.below (show w.heap.size ≤ w.heap.size + 1 by omega) (.int .i64 R) (.int .i64 K) (.slice Av i cv)
      obtain ⟨j0, j1, j2, _⟩ := X.three
      have O := hide O
      have bz := hide bz
      have hcells := hide hcells
      clear ho H PR PP hblk hk
      go_wp2_with fail
      refine bodyPost_ret (v := .agg #[.int .i64 R, .int .i64 K, .slice Av i cv]) (by simp [results, Tryd.results25, go_sem, j0, j1, j2]) rfl ⟨_, rfl, ?_, bz.out⟩
      rw [← hcells.out, hli.out]
      exact O.out
end Go.Proofs.YtdcdinlppjlmfaaDoor
