/- The contract of the document's own Wipe. -/
import Derived.Test.YtcbmjdacdjcggaaDoorGridMend
import Derived.BigRegion
import Derived.Deep.RegionHeld3
import Derived.Deep.RegionHeldLaw
namespace Go.Proofs.YtcbmjdacdjcggaaDoor
open Go.RowKit
set_option linter.unusedVariables false
/-- some of a row made blank -/
def wipeL (l : List PG.Cl) (a b : Nat) (p : PG.Pn) : List PG.Cl := (List.range l.length).map (PG.wiped (fnL l) a b p)
theorem wipeL_len (l : List PG.Cl) (a b : Nat) (p : PG.Pn) : (wipeL l a b p).length = l.length := by simp [wipeL]
theorem wipeL_at {l : List PG.Cl} {a b k : Nat} {p : PG.Pn} (hk : k < l.length) : (wipeL l a b p)[k]? = some (PG.wiped (fnL l) a b p k) := by
  unfold wipeL
  rw [List.getElem?_map, List.getElem?_range hk]
  rfl
theorem wipeL_none (l : List PG.Cl) (a b : Nat) (p : PG.Pn) (h : b ≤ a) : wipeL l a b p = l := by
  refine List.ext_getElem? fun k => ?_
  by_cases hk : k < l.length
  · rw [wipeL_at hk]
    unfold PG.wiped
    rw [if_neg (by omega)]
    unfold fnL
    rw [List.getElem?_eq_getElem hk]
    rfl
  · rw [List.getElem?_eq_none (by rw [wipeL_len]; omega), List.getElem?_eq_none (by omega)]
theorem wipeL_set {l : List PG.Cl} {a k : Nat} (p : PG.Pn) (ha : a ≤ k) (hk : k < l.length) : (wipeL l a k p).set k (PG.blank p) = wipeL l a (k + 1) p := by
  refine List.ext_getElem? fun j => ?_
  by_cases hj : j < l.length
  · rw [wipeL_at hj]
    by_cases e : j = k
    · subst e
      rw [List.getElem?_set_self (by rw [wipeL_len]; exact hj)]
      unfold PG.wiped
      rw [if_pos (by omega)]
    · rw [List.getElem?_set_ne (by omega), wipeL_at hj]
      unfold PG.wiped
      by_cases h : a ≤ j ∧ j < k
      · rw [if_pos h, if_pos (by omega)]
      · rw [if_neg h, if_neg (by omega)]
  · rw [List.getElem?_eq_none (by rw [List.length_set, wipeL_len]; omega), List.getElem?_eq_none (by rw [wipeL_len]; omega)]
set_option maxHeartbeats 4000000 in
theorem rwipe_t (R K r n c B a : Nat) (fr to t : Int) (p : PG.Pn) (A : Option Addr) (l : List PG.Cl) (w : World) (hl : SeenC w B A n l) (hB : B ≤ w.heap.size) (hn : n = R * K) (hnc : n ≤ c) (hc : c ≤ maxLen) (hr : r < R) (hR : R ≤ 40) (h0 : 1 ≤ K) (hK : K ≤ 60)
    (hf : -1000 ≤ fr ∧ fr ≤ 1000) (ht : -1000 ≤ to ∧ to ≤ 1000) (ha : (if fr < 0 then (0 : Int) else fr) = (a : Int)) (hT : (if (K : Int) < to then (K : Int) else to) = t) :
    Calls Tryd.prog 23 #[gv R K (.slice A n c), .int .i64 r, .int .i64 fr, .int .i64 to, pv p] w (GaveG w R K (spl l (r * K) (mendL (wipeL ((l.drop (r * K)).take K) a t.toNat p)))) := by
  have hle : r * K + K ≤ R * K := by rw [← Nat.succ_mul]; exact Nat.mul_le_mul_right K hr
  have hRK : R * K ≤ 2400 := Nat.mul_le_mul hR hK
  have hlen := hl.len
  have hrow : ((l.drop (r * K)).take K).length = K := by rw [List.length_take, List.length_drop]; omega
  have FR := hide (fun w' (hb : Below w.heap.size w w') => rrow_any R K r n c B A l w' (hl.below (Below.mono hb hB)) hn hnc hc hr hR hK)
  have FS := hide (fun w' (hb : Below w.heap.size w w') (A2 : Option Addr) (c2 : Nat) (ls : List PG.Cl) (B2 : Nat) (h2 : SeenC w' B2 A2 K ls) (hB2 : B2 ≤ w'.heap.size) (hBB : B ≤ B2) => rset_any R K r n c K c2 B2 A A2 l ls w' ((hl.below (Below.mono hb hB)).more hBB) h2 hB2 hn hr (Nat.le_refl _) hR h0 hK)
  have BC : ∀ (p : PG.Pn) (w' : World), Calls Tryd.prog 41 #[.agg #[.int .i64 p.1, .int .i64 p.2.1, .int .i64 p.2.2]] w' fun e w'' => e = .returned (.agg #[.int .i32 32, .int .i64 0, .int .i64 p.1, .int .i64 p.2.1, .int .i64 p.2.2]) ∧ Below w'.heap.size w' w'' := fun p w' => rblank_any p w'
  have BC := hide BC
  have hnx : r * K + K ≤ n := by omega
  have hn5 : 1 ≤ n ∧ n ≤ 2400 := by omega
  obtain ⟨i0, hi, hz0, hz1, hz2⟩ := info_parts info_cell
  generalize (l.drop (r * K)).take K = rw_ at *
  unfold GaveG gv at FS
  unfold gv at FR
  clear hn hRK hle
  generalize r * K = x at *
  clear hl
  unfold GaveG gv pv
  go_enter Tryd.func23, Tryd.ntmps23
  go_wp2_with fail
  go_region
  have ht3 : t ≤ K ∧ -1000 ≤ t := by rw [← hT]; split <;> omega
  have ha3 : a ≤ 1000 := by split at ha <;> omega
  clear ha hT hf ht
  have X0 : Box (((w.alloc (.cells #[.int .i64 R, .int .i64 K, .slice A n c] 27)).alloc (.cells #[.int .i64 p.1, .int .i64 p.2.1, .int .i64 p.2.2] 23)).alloc (.cells #[.int .i64 0, .int .i64 0, .slice none 0 0] 27)).drew w.heap.size 27 #[.int .i64 R, .int .i64 K, .slice A n c] := ((Box.new w _ _).alloc _).alloc _
  have X1 : Box (((w.alloc (.cells #[.int .i64 R, .int .i64 K, .slice A n c] 27)).alloc (.cells #[.int .i64 p.1, .int .i64 p.2.1, .int .i64 p.2.2] 23)).alloc (.cells #[.int .i64 0, .int .i64 0, .slice none 0 0] 27)).drew (w.heap.size + 1) 23 #[.int .i64 p.1, .int .i64 p.2.1, .int .i64 p.2.2] := by
    have h := (Box.new (w.alloc (.cells #[.int .i64 R, .int .i64 K, .slice A n c] 27)) 23 #[.int .i64 p.1, .int .i64 p.2.1, .int .i64 p.2.2]).alloc (.cells #[.int .i64 0, .int .i64 0, .slice none 0 0] 27)
    rw [World.size_alloc] at h
    exact h
  have X2 : Box (((w.alloc (.cells #[.int .i64 R, .int .i64 K, .slice A n c] 27)).alloc (.cells #[.int .i64 p.1, .int .i64 p.2.1, .int .i64 p.2.2] 23)).alloc (.cells #[.int .i64 0, .int .i64 0, .slice none 0 0] 27)).drew (w.heap.size + 1 + 1) 27 #[.int .i64 0, .int .i64 0, .slice none 0 0] := by
    have h := Box.new ((w.alloc (.cells #[.int .i64 R, .int .i64 K, .slice A n c] 27)).alloc (.cells #[.int .i64 p.1, .int .i64 p.2.1, .int .i64 p.2.2] 23)) 27 #[.int .i64 0, .int .i64 0, .slice none 0 0]
    rw [World.size_alloc, World.size_alloc] at h
    exact h
  have hb : Below w.heap.size w (((w.alloc (.cells #[.int .i64 R, .int .i64 K, .slice A n c] 27)).alloc (.cells #[.int .i64 p.1, .int .i64 p.2.1, .int .i64 p.2.2] 23)).alloc (.cells #[.int .i64 0, .int .i64 0, .slice none 0 0] 27)).drew := Below.drew ((((Below.refl _ _).alloc (Nat.le_refl _) _).alloc (by simp) _).alloc (by simp; omega) _)
  generalize (((w.alloc (.cells #[.int .i64 R, .int .i64 K, .slice A n c] 27)).alloc (.cells #[.int .i64 p.1, .int .i64 p.2.1, .int .i64 p.2.2] 23)).alloc (.cells #[.int .i64 0, .int .i64 0, .slice none 0 0] 27)).drew = W at *
  have l0 := X0.lt
  have l1 := X1.lt
  have l2 := X2.lt
  obtain ⟨y0, y1, y2, _⟩ := X0.three
  go_wp2_with (first
    | (go_at_call 40
       go_must (refine (FR.out _ (hb.alloc hb.size _)).mono ?_)
       rintro e w1 ⟨⟨A1, c1, rfl, hs1, hk1, hk2⟩, b1⟩
       have hs1 := hs1.below (b1.mono (show B ≤ _ by rw [World.size_alloc]; have := hb.size; omega))
       have OL := ((own_lit5 (w := W) (base := w.heap.size) 45 rfl hb.size).kept (grown_of_below b1 none) (by simp [Value.ownBlock]) : w1.ownsRow w.heap.size 45 5 (.slice (some ⟨W.heap.size, 0, none⟩) 0 0) 0 (ccells []))
       have b1' : Below W.heap.size W w1 := ((Below.refl _ _).alloc (Nat.le_refl _) _).trans (b1.mono (by rw [World.size_alloc]; omega)))
    | (at_builtin
       go_must (refine wpList_appC rfl (.tmp 28) (.tmp 31) 25 rfl w.heap.size 45 i0 _ 40 Tryd.underlying25 hi hz0 hz1 hz2 rfl (.slice (some ⟨W.heap.size, 0, none⟩) 0 0) 0 [] rfl OL B A1 K c1 rw_ rfl hs1 (by omega) (by omega) (Nat.le_trans hb.size b1'.size) ?_)
       intro v2 w2 hown2 hg2 hm2
       simp only [Nat.zero_add, List.nil_append] at hown2
       obtain ⟨g, cap, rfl, hgb, hgc, hgm⟩ := own_at hown2 h0
       have Y0 := (X0.below b1' l0).grown hg2 (by simp [Value.ownBlock]; omega)
       have Y1 := (X1.below b1' l1).grown hg2 (by simp [Value.ownBlock]; omega)
       have Y2 := (X2.below b1' l2).grown hg2 (by simp [Value.ownBlock]; omega)
       have bb : Below w.heap.size w w2 := (hb.trans (b1'.mono hb.size)).grown hg2 (Nat.le_trans hb.size b1'.size) (by rintro _ ⟨⟩; exact hb.size)
       clear hg2 hm2 b1 b1' OL hs1 X0 X1 X2 hb l0 l1 l2 y0 y1 y2))
  go_loopw [12] (fun i wr => ∃ k : Nat, a ≤ k ∧ (k ≤ a ∨ (k : Int) ≤ t) ∧ i = .int .i64 k ∧ Box wr w.heap.size 27 #[.int .i64 R, .int .i64 K, .slice A n c] ∧ Box wr (w.heap.size + 1) 23 #[.int .i64 p.1, .int .i64 p.2.1, .int .i64 p.2.2] ∧ Box wr (w.heap.size + 1 + 1) 27 #[.int .i64 0, .int .i64 0, .slice none 0 0] ∧
      wr.ownsRow w.heap.size 45 5 (.slice (some ⟨g, 0, none⟩) K cap) K (ccells (wipeL rw_ a k p)) ∧ Below w.heap.size w wr)
    (fun i _ => (t - intOf i).toNat)
  case atStart => exact ⟨a, Nat.le_refl _, .inl (Nat.le_refl _), rfl, Y0, Y1, Y2, by rw [wipeL_none _ _ _ _ (Nat.le_refl _)]; exact hown2, bb⟩
  case round =>
    clear hown2 bb Y0 Y1 Y2 FR
    obtain ⟨k, hka, hkt, rfl, x0, x1, x2, ho, hb⟩ := hrel
    obtain ⟨y0, y1, y2, _⟩ := x1.three
    have l1 := x1.lt
    have l2 : g < wr.heap.size := (ho.lt g rfl).2
    have lb : w.heap.size ≤ wr.heap.size := hb.size
    by_cases hlt : (k : Int) < t
    · have hwl := wipeL_len rw_ a k p
      have hck : (wipeL rw_ a k p)[k]? = some (wipeL rw_ a k p)[k] := List.getElem?_eq_getElem (by omega)
      generalize (wipeL rw_ a k p)[k] = cd at hck
      have FIN : ∀ w3, Below wr.heap.size wr w3 →
          (w3.cell? ⟨g, k * 5, none⟩ = some (.int .i32 (PG.rn cd)) ∧ w3.cell? ⟨g, k * 5 + 1, none⟩ = some (.int .i64 (PG.kd cd)) ∧ w3.cell? ⟨g, k * 5 + 2, none⟩ = some (.int .i64 (PG.pn cd).1) ∧ w3.cell? ⟨g, k * 5 + 3, none⟩ = some (.int .i64 (PG.pn cd).2.1) ∧ w3.cell? ⟨g, k * 5 + 4, none⟩ = some (.int .i64 (PG.pn cd).2.2) ∧
            w3.frozen? ⟨g, k * 5, none⟩ = false ∧ w3.frozen? ⟨g, k * 5 + 1, none⟩ = false ∧ w3.frozen? ⟨g, k * 5 + 2, none⟩ = false ∧ w3.frozen? ⟨g, k * 5 + 3, none⟩ = false ∧ w3.frozen? ⟨g, k * 5 + 4, none⟩ = false) ∧
          Box (store5 w3 g (k * 5) (PG.blank p)) w.heap.size 27 #[.int .i64 R, .int .i64 K, .slice A n c] ∧ Box (store5 w3 g (k * 5) (PG.blank p)) (w.heap.size + 1) 23 #[.int .i64 p.1, .int .i64 p.2.1, .int .i64 p.2.2] ∧ Box (store5 w3 g (k * 5) (PG.blank p)) (w.heap.size + 1 + 1) 27 #[.int .i64 0, .int .i64 0, .slice none 0 0] ∧
          (store5 w3 g (k * 5) (PG.blank p)).ownsRow w.heap.size 45 5 (.slice (some ⟨g, 0, none⟩) K cap) K (ccells (wipeL rw_ a (k + 1) p)) ∧ Below w.heap.size w (store5 w3 g (k * 5) (PG.blank p)) := fun w3 h3 => by
        have m0 := own_ne_box ho x0 (by decide)
        have m1 := own_ne_box ho x1 (by decide)
        have m2 := own_ne_box ho x2 (by decide)
        have o3 := ho.kept (grown_of_below h3 none) (by simp [Value.ownBlock])
        have S := own_store5 o3 (k := k) (PG.blank p) (by omega) (by omega)
        have hs3 := h3.size
        refine ⟨own_five o3 hck, (x0.below h3 x0.lt).grown S.2 (fun e => m0 e.symm), (x1.below h3 x1.lt).grown S.2 (fun e => m1 e.symm), (x2.below h3 x2.lt).grown S.2 (fun e => m2 e.symm), ?_, (hb.trans (h3.mono lb)).grown S.2 (by omega) (by rintro _ ⟨⟩; omega)⟩
        rw [← wipeL_set p hka (by omega)]
        exact S.1
      have FIN := hide FIN
      clear ho hck x0 x1 x2
      go_wp2_with (
        go_at_call 41
        go_must (refine (BC.out p _).mono ?_)
        rintro e w3 ⟨rfl, b3⟩
        obtain ⟨⟨v0, v1, v2, v3, v4, f0, f1, f2, f3, f4⟩, G2⟩ := FIN.out _ b3
        have G2 := hide G2
        clear b3 FIN)
      go_roundw
      case rel => exact ⟨k + 1, by omega, .inr (by omega), by go_num, G2.out⟩
      case measure => simp [intOf]; omega
    · have hwe : wipeL rw_ a k p = wipeL rw_ a t.toNat p := by
        rcases hkt with h | h
        · rw [wipeL_none _ _ _ _ h, wipeL_none _ _ _ _ (by omega)]
        · rw [show t.toNat = k from by omega]
      rw [hwe] at ho
      have hwl := wipeL_len rw_ a t.toNat p
      clear hwe
      generalize hlw : wipeL rw_ a t.toNat p = lw at ho hwl
      have hlw := hide hlw
      have MD := hide (fun w' (h : InReg wr w') => rmend_any K cap wr.heap.size (some ⟨g, 0, none⟩) lw w' ((SeenC.of_own ho).below h) h.size h0 (by omega))
      have ST := hide (fun w' (h : InReg wr w') (A2 : Option Addr) (c2 : Nat) (h2 : SeenC w' w'.heap.size A2 K (mendL lw)) => FS.out w' (hb.trans (Below.mono h lb)) A2 c2 (mendL lw) w'.heap.size h2 (Nat.le_refl _) (by have := h.size; omega))
      have z0 := x0.three
      have z2 := x2.three
      have R0 : ∀ w', Box w' w.heap.size 27 #[.int .i64 R, .int .i64 K, .slice A n c] → w'.cell? ⟨w.heap.size, 0, none⟩ = some (.int .i64 R) := fun w' h => h.three.1
      have R1 : ∀ w', Box w' w.heap.size 27 #[.int .i64 R, .int .i64 K, .slice A n c] → w'.cell? ⟨w.heap.size, 1, none⟩ = some (.int .i64 K) := fun w' h => h.three.2.1
      have R2 : ∀ w', Box w' w.heap.size 27 #[.int .i64 R, .int .i64 K, .slice A n c] → w'.cell? ⟨w.heap.size, 2, none⟩ = some (.slice A n c) := fun w' h => h.three.2.2.1
      have kb0 : Box wr.drew w.heap.size 27 #[.int .i64 R, .int .i64 K, .slice A n c] := x0
      have X0 := hide x0
      have Q0 : ∀ w', InReg wr w' → w'.cell? ⟨w.heap.size + 1 + 1, 0, none⟩ = some (.int .i64 0) := fun w' h => (h.box x2).three.1
      have Q1 : ∀ w', InReg wr w' → w'.cell? ⟨w.heap.size + 1 + 1, 1, none⟩ = some (.int .i64 0) := fun w' h => (h.box x2).three.2.1
      have Q2 : ∀ w', InReg wr w' → w'.cell? ⟨w.heap.size + 1 + 1, 2, none⟩ = some (.slice none 0 0) := fun w' h => (h.box x2).three.2.2.1
      have Q3 : ∀ w', InReg wr w' → w'.frozen? ⟨w.heap.size + 1 + 1, 0, none⟩ = false := fun w' h => (h.box x2).three.2.2.2.1
      have Q4 : ∀ w', InReg wr w' → w'.frozen? ⟨w.heap.size + 1 + 1, 1, none⟩ = false := fun w' h => (h.box x2).three.2.2.2.2.1
      have Q5 : ∀ w', InReg wr w' → w'.frozen? ⟨w.heap.size + 1 + 1, 2, none⟩ = false := fun w' h => (h.box x2).three.2.2.2.2.2
      have X2 := hide x2
      have HB := hide hb
      have hd0 : InReg wr wr.drew := (InReg.refl _).drew
      have hX := Lib.hid hd0
      have hbx := kb0
      have hby := kb0
      clear FS BC ho x0 x1 x2 z0 z2 hb y0 y1 y2
      go_wp2_with fail
      go_region_held_law (fun w' => Box w' w.heap.size 27 #[.int .i64 R, .int .i64 K, .slice A n c]) (first | with_reducible exact kb0 | with_reducible exact hbx | with_reducible exact hby)
        (first
          | (go_at_call 43; refine (MD.out _ (by assumption)).mono ?_; rintro e wm ⟨vm, rfl, om, bm⟩; obtain ⟨Am, cm, rfl, _⟩ := own_form' om; have sm := SeenC.of_own om; have hX := Lib.hid (InReg.call (show InReg wr _ from by assumption) bm); have hbx := hX.out.box X0.out)
          | (go_at_call 42; refine (ST.out _ hX.out _ _ sm).mono ?_; rintro e ws ⟨vs, rfl, os, bs⟩; obtain ⟨As, cs, rfl, _⟩ := own_form' os; have hX := Lib.hid (InReg.call hX.out bs); have hbx := hX.out.box X0.out; have hby := ((hbx.far (p := ⟨w.heap.size + 1 + 1, 0, none⟩) (by show w.heap.size ≠ w.heap.size + 1 + 1; omega) (.int .i64 R)).far (p := ⟨w.heap.size + 1 + 1, 1, none⟩) (by show w.heap.size ≠ w.heap.size + 1 + 1; omega) (.int .i64 K)).far (p := ⟨w.heap.size + 1 + 1, 2, none⟩) (by show w.heap.size ≠ w.heap.size + 1 + 1; omega) (.slice As (spl l x (mendL lw)).length cs); have j0 := Q0 _ hX.out; have j1 := Q1 _ hX.out; have j2 := Q2 _ hX.out; have j3 := Q3 _ hX.out; have j4 := Q4 _ hX.out; have j5 := Q5 _ hX.out))
      have xr := hX.out.box X2.out
      have Z := xr.set3 (.int .i64 R) (.int .i64 K) (.slice As (spl l x (mendL lw)).length cs)
      have m := own_ne_box os xr (by decide)
      have O := own_base' (ownsRow_setCell_other (ownsRow_setCell_other (ownsRow_setCell_other os (a := ⟨w.heap.size + 1 + 1, 0, none⟩) m (.int .i64 R)) (a := ⟨w.heap.size + 1 + 1, 1, none⟩) m (.int .i64 K)) (a := ⟨w.heap.size + 1 + 1, 2, none⟩) m (.slice As (spl l x (mendL lw)).length cs)) (Nat.le_trans lb bm.size)
      have bz := below_set3 (HB.out.trans (Below.mono hX.out lb)) (show w.heap.size ≤ w.heap.size + 1 + 1 by omega) (.int .i64 R) (.int .i64 K) (.slice As (spl l x (mendL lw)).length cs)
      obtain ⟨e0, e1, e2, _⟩ := Z.three
      have O := hide O
      have bz := hide bz
      clear R0 R1 R2 Q0 Q1 Q2 Q3 Q4 Q5 j0 j1 j2 j3 j4 j5 hbx hby MD ST os om bm bs
      go_wp2_with fail
      refine bodyPost_ret (v := .agg #[.int .i64 R, .int .i64 K, .slice As (spl l x (mendL lw)).length cs]) (by simp [results, Tryd.results23, go_sem, e0, e1, e2]) rfl ⟨_, rfl, by rw [hlw.out]; exact O.out, bz.out⟩
end Go.Proofs.YtcbmjdacdjcggaaDoor
