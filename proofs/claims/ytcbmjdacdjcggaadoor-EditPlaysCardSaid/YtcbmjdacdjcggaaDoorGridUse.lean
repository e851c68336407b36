/- What grids' functions make, told of plain grids: the program's own, and the document's. -/
import Derived.Test.YtcbmjdacdjcggaaDoorGridReg
import Derived.Test.YtcbmjdacdjcggaaDoorGridPut
import Derived.Test.YtcbmjdacdjcggaaDoorGridWiped
import Derived.Test.YtcbmjdacdjcggaaDoorGridResize
import Derived.Test.YtcbmjdacdjcggaaDoorGridSee
import Derived.Test.YtcbmjdacdjcggaaDoorGridRight
import Derived.Test.YtcbmjdacdjcggaaDoorGridRefPut
import Derived.Test.YtcbmjdacdjcggaaDoorSameCell
set_option maxRecDepth 100000
namespace Go.Proofs.YtcbmjdacdjcggaaDoor
open Go.RowKit
set_option linter.unusedVariables false
namespace PG
/-- Put at a place that may be none -/
def putI (g : Gr) (r c x : Int) (p : Pn) : Gr := if 0 ≤ r ∧ 0 ≤ c then putG g r.toNat c.toNat x p else g
def wipeI (g : Gr) (r a b : Int) (p : Pn) : Gr := if 0 ≤ r then wipeG g r.toNat (max a 0).toNat (min b g.cols).toNat p else g
theorem right_putI {g : Gr} (h : RightG g) {p : Pn} (hp : okPen p) (r c x : Int) : RightG (putI g r c x p) := by
  unfold putI
  split
  · exact right_putG h hp _ _ _
  · exact h
theorem right_wipeI {g : Gr} (h : RightG g) {p : Pn} (hp : okPen p) (r a b : Int) : RightG (wipeI g r a b p) := by
  unfold wipeI
  split
  · exact right_wipeG h hp _ _ _
  · exact h
theorem putI_size (g : Gr) (r c x : Int) (p : Pn) : (putI g r c x p).rows = g.rows ∧ (putI g r c x p).cols = g.cols := by
  unfold putI
  split
  · exact put_size ..
  · exact ⟨rfl, rfl⟩
theorem wipeI_size (g : Gr) (r a b : Int) (p : Pn) : (wipeI g r a b p).rows = g.rows ∧ (wipeI g r a b p).cols = g.cols := by
  unfold wipeI
  split
  · exact wipe_size ..
  · exact ⟨rfl, rfl⟩
/-- the runes of a right grid are runes -/
theorem right_rn {g : Gr} (h : RightG g) {r j : Nat} (hr : r < g.rows) (hj : j < g.cols) : -2147483648 ≤ rn (g.f r j) ∧ rn (g.f r j) ≤ 2147483647 := by
  have hk : ∀ {x : Int}, U.isR x = true → -2147483648 ≤ x ∧ x ≤ 2147483647 := fun {x} hx => by
    unfold U.isR at hx
    have := of_decide_eq_true hx
    omega
  rcases (h.2.2.2.2 r hr j hj).2 with k | k | k
  · exact hk (width_rune (.inl k.2))
  · exact hk (width_rune (.inr k.2.1))
  · omega
end PG
theorem IsG.open_ {w : World} {G : PG.Gr} {v : Value} (h : IsG w G v) : ∃ A c, v = gv G.rows G.cols (.slice A (G.rows * G.cols) c) ∧ SeenC w w.heap.size A (G.rows * G.cols) (PG.cells G) ∧ G.rows * G.cols ≤ c ∧ c ≤ maxLen := by
  obtain ⟨s, rfl, ho⟩ := h
  obtain ⟨A, c, rfl, h1, h2, _⟩ := own_form' ho
  exact ⟨A, c, rfl, SeenC.of_own ho, h1, h2⟩
/-- a call gives such a grid back -/
def GotG (w : World) (G : PG.Gr) (e : Ending) (w' : World) : Prop := ∃ v, e = .returned v ∧ IsG w' G v ∧ Below w.heap.size w w'
theorem got_made {w : World} {R K : Nat} {G : PG.Gr} {l : List PG.Cl} {e : Ending} {w' : World} (h : MadeG w R K (R * K) l e w') (hl : l = PG.cells G) (hR : G.rows = R) (hK : G.cols = K) : GotG w G e w' := by
  subst hR hK hl
  obtain ⟨g, rfl, ho, hb⟩ := h
  exact ⟨_, rfl, ⟨_, rfl, own_base' ho (Nat.zero_le _)⟩, hb⟩
theorem got_gave {w : World} {G : PG.Gr} {l : List PG.Cl} {R K : Nat} {e : Ending} {w' : World} (h : GaveG w R K l e w') (hl : l = PG.cells G) (hR : G.rows = R) (hK : G.cols = K) : GotG w G e w' := by
  subst hR hK hl
  obtain ⟨v, rfl, ho, hb⟩ := h
  rw [PG.cells_len] at ho
  exact ⟨_, rfl, ⟨_, rfl, own_base' ho (Nat.zero_le _)⟩, hb⟩
section
variable {G H : PG.Gr} {v v' : Value} {w : World}
theorem u_new (R K : Nat) (p : PG.Pn) (w : World) (h1 : 1 ≤ R) (h2 : R ≤ 40) (h3 : 1 ≤ K) (h4 : K ≤ 60) : Calls Tryd.prog 9 #[.int .i64 R, .int .i64 K, pv p] w (GotG w (PG.newG R K p)) :=
  (new_any R K R K p w (by omega) (by omega) (by omega) (by omega) (.inr (.inl ⟨rfl, by omega, by omega⟩)) (.inr (.inl ⟨rfl, by omega, by omega⟩))).mono fun e w' h => got_made h (PG.new_cells R K p) rfl rfl
theorem r_new (R K : Nat) (p : PG.Pn) (w : World) (h2 : R ≤ 40) (h4 : K ≤ 60) : Calls Tryd.prog 45 #[.int .i64 R, .int .i64 K, pv p] w (GotG w (PG.newG R K p)) :=
  (rnew_any R K p w h2 h4).mono fun e w' h => got_gave h (PG.new_cells R K p) rfl rfl
theorem putI_in {r c x : Int} {p : PG.Pn} {q k : Nat} (hr : r = q) (hc : c = k) : PG.putI G r c x p = PG.putG G q k x p := by
  subst hr hc
  unfold PG.putI
  rw [if_pos (by omega)]
  rfl
theorem putI_out {r c x : Int} {p : PG.Pn} (h : ¬ (0 ≤ r ∧ r < G.rows ∧ 0 ≤ c ∧ 1 ≤ C.width x ∧ c + C.width x ≤ G.cols)) : PG.putI G r c x p = G := by
  unfold PG.putI
  split
  · rename_i h0
    exact PG.put_not (fun h1 => h (by omega))
  · rfl
theorem u_put (hG : PG.RightG G) (h : IsG w G v) (r c x : Int) (p : PG.Pn) (hr : -1000 ≤ r ∧ r ≤ 1000) (hc : -1000 ≤ c ∧ c ≤ 1000) (hx0 : -2147483648 ≤ x) (hx1 : x ≤ 2147483647) (hs : Spans w) :
    Calls Tryd.prog 10 #[v, .int .i64 r, .int .i64 c, .int .i32 x, pv p] w (GotG w (PG.putI G r c x p)) := by
  obtain ⟨A, cp, rfl, hl, h1, h2⟩ := h.open_
  have hw := putCells_len x p
  by_cases hi : 0 ≤ r ∧ r < G.rows ∧ 0 ≤ c ∧ 1 ≤ C.width x ∧ c + C.width x ≤ G.cols
  · obtain ⟨q, rfl⟩ := Int.eq_ofNat_of_zero_le hi.1
    obtain ⟨k, rfl⟩ := Int.eq_ofNat_of_zero_le hi.2.2.1
    rw [putI_in rfl rfl]
    refine (gput_in G.rows G.cols _ cp w.heap.size q k x p A _ w hl (Nat.le_refl _) rfl (by omega) hG.2.1 hG.2.2.1 hG.2.2.2.1 hx0 hx1 hs (by omega) (by omega)).mono fun e w' hm => ?_
    exact got_made hm (PG.put_cells hG (by omega) hi.2.2.2.1 (by omega)) (PG.put_size ..).1 (PG.put_size ..).2
  · rw [putI_out hi]
    refine (gput_out G.rows G.cols _ cp w.heap.size r c x p A _ w hl (Nat.le_refl _) rfl hG.1 hG.2.1 hG.2.2.1 hG.2.2.2.1 hx0 hx1 hs hc.1 hc.2 (by have := PG.width_bd x; omega)).mono fun e w' hm => ?_
    exact got_made hm rfl rfl rfl
theorem wipeI_out {r a b : Int} {p : PG.Pn} (h : r < 0 ∨ (G.rows : Int) ≤ r) : PG.wipeI G r a b p = G := by
  unfold PG.wipeI
  split
  · unfold PG.wipeG
    rw [if_neg (by omega)]
  · rfl
theorem u_wipe (hG : PG.RightG G) (h : IsG w G v) (r a b : Int) (p : PG.Pn) (ha : -1000 ≤ a ∧ a ≤ 1000) (hb : -1000 ≤ b ∧ b ≤ 1000) :
    Calls Tryd.prog 50 #[v, .int .i64 r, .int .i64 a, .int .i64 b, pv p] w (GotG w (PG.wipeI G r a b p)) := by
  obtain ⟨A, cp, rfl, hl, h1, h2⟩ := h.open_
  have e1 : (if a < 0 then (0 : Int) else a) = ((max a 0).toNat : Int) := by split <;> omega
  by_cases hi : 0 ≤ r ∧ r < G.rows
  · obtain ⟨q, rfl⟩ := Int.eq_ofNat_of_zero_le hi.1
    have e2 : (if (G.cols : Int) < b then (G.cols : Int) else b) = min b G.cols := by split <;> omega
    refine (gwipe_in G.rows G.cols q _ cp w.heap.size _ a b _ p A _ w hl (Nat.le_refl _) rfl (by omega) hG.2.1 hG.2.2.1 hG.2.2.2.1 ha hb e1 e2).mono fun e w' hm => ?_
    have e3 : PG.wipeI G q a b p = PG.wipeG G q (max a 0).toNat (min b G.cols).toNat p := by unfold PG.wipeI; rw [if_pos (by omega)]; rfl
    rw [e3]
    exact got_made hm (PG.wipe_cells (by omega) _ _ p) (PG.wipe_size ..).1 (PG.wipe_size ..).2
  · have ho : r < 0 ∨ (G.rows : Int) ≤ r := by omega
    rw [wipeI_out ho]
    refine (gwipe_out G.rows G.cols _ cp w.heap.size _ r a b _ p A _ w hl (Nat.le_refl _) rfl hG.1 ho hG.2.1 hG.2.2.1 hG.2.2.2.1 ha hb e1 rfl).mono fun e w' hm => ?_
    exact got_made hm rfl rfl rfl
theorem r_wipe (hG : PG.RightG G) (h : IsG w G v) (r a b : Int) (p : PG.Pn) (ha : -1000 ≤ a ∧ a ≤ 1000) (hb : -1000 ≤ b ∧ b ≤ 1000) :
    Calls Tryd.prog 23 #[v, .int .i64 r, .int .i64 a, .int .i64 b, pv p] w (GotG w (PG.wipeI G r a b p)) := by
  obtain ⟨A, cp, rfl, hl, h1, h2⟩ := h.open_
  have e1 : (if a < 0 then (0 : Int) else a) = ((max a 0).toNat : Int) := by split <;> omega
  by_cases hi : 0 ≤ r ∧ r < G.rows
  · obtain ⟨q, rfl⟩ := Int.eq_ofNat_of_zero_le hi.1
    have e2 : (if (G.cols : Int) < b then (G.cols : Int) else b) = min b G.cols := by split <;> omega
    refine (rwipe_t G.rows G.cols q _ cp w.heap.size _ a b _ p A _ w hl (Nat.le_refl _) rfl h1 h2 (by omega) hG.2.1 hG.2.2.1 hG.2.2.2.1 ha hb e1 e2).mono fun e w' hm => ?_
    have e3 : PG.wipeI G q a b p = PG.wipeG G q (max a 0).toNat (min b G.cols).toNat p := by unfold PG.wipeI; rw [if_pos (by omega)]; rfl
    rw [e3]
    exact got_gave hm (PG.wipe_cells (by omega) _ _ p) (PG.wipe_size ..).1 (PG.wipe_size ..).2
  · have ho : r < 0 ∨ (G.rows : Int) ≤ r := by omega
    rw [wipeI_out ho]
    refine (rwipe_not G.rows G.cols _ cp r a b p A w hG.2.1 ho).mono ?_
    rintro e w' ⟨rfl, b⟩
    exact ⟨_, rfl, h.low b, b⟩
/-- At, wherever -/
def atI (G : PG.Gr) (r c : Int) : Value := if 0 ≤ r ∧ r < G.rows ∧ 0 ≤ c ∧ c < G.cols then atv (G.f r.toNat c.toNat) true else atv PG.none false
theorem atI_in {r c : Nat} (hr : r < G.rows) (hc : c < G.cols) : atI G r c = atv (G.f r c) true := by
  unfold atI
  rw [if_pos (by omega)]
  rfl
theorem u_at (hG : PG.RightG G) (h : IsG w G v) (r c : Int) : Calls Tryd.prog 27 #[v, .int .i64 r, .int .i64 c] w fun e w' => e = .returned (atI G r c) ∧ Below w.heap.size w w' := by
  obtain ⟨A, cp, rfl, hl, h1, h2⟩ := h.open_
  by_cases hi : 0 ≤ r ∧ r < G.rows ∧ 0 ≤ c ∧ c < G.cols
  · obtain ⟨q, rfl⟩ := Int.eq_ofNat_of_zero_le hi.1
    obtain ⟨k, rfl⟩ := Int.eq_ofNat_of_zero_le hi.2.2.1
    have hq : q < G.rows := by omega
    have hk : k < G.cols := by omega
    have := gat_in G _ cp w.heap.size q k A w hl (Nat.le_refl _) rfl h1 h2 hq hk hG.2.1 hG.2.2.2.1
    rw [← atI_in hq hk] at this
    exact this
  · have hnn : 0 * G.cols + 0 < G.rows * G.cols := PG.place_lt hG.1 hG.2.2.1
    obtain ⟨c0, hc0'⟩ : ∃ c0, (PG.cells G)[0]? = some c0 := ⟨_, List.getElem?_eq_getElem (by rw [PG.cells_len]; omega)⟩
    obtain ⟨ad, rfl, _⟩ := hl.at_ hc0'
    have e : atI G r c = atv PG.none false := if_neg hi
    rw [e]
    exact gat_out G.rows G.cols _ cp r c ad w rfl h1 h2 hG.1 hG.2.1 hG.2.2.1 hG.2.2.2.1 (by omega)
theorem size_le (hG : PG.RightG G) : G.rows * G.cols ≤ 2400 := Nat.mul_le_mul hG.2.1 hG.2.2.2.1
theorem u_same (hG : PG.RightG G) (h : IsG w G v) (h' : IsG w H v') (ha : PG.Alike G H) : Calls Tryd.prog 28 #[v, v'] w fun e w' => e = .returned (.bool true) ∧ Below w.heap.size w w' := by
  obtain ⟨A, cp, rfl, hl, h1, h2⟩ := h.open_
  obtain ⟨A', cp', rfl, hl', h1', h2'⟩ := h'.open_
  have hs := size_le hG
  rw [← PG.cells_ext ha] at hl'
  rw [← ha.1, ← ha.2.1] at hl' ⊢
  exact gsame_any G.rows G.cols _ A A' _ _ _ cp _ cp' w hl hl' (Nat.le_refl _) (Nat.le_refl _) (by omega)
theorem u_right (hG : PG.RightG G) (h : IsG w G v) (hs : Spans w) : Calls Tryd.prog 26 #[v] w fun e w' => e = .returned (.bool true) ∧ Below w.heap.size w w' := by
  obtain ⟨A, cp, rfl, hl, h1, h2⟩ := h.open_
  exact gright_any G _ cp w.heap.size A w hG hl (Nat.le_refl _) rfl h1 h2 (fun r j hr hj => PG.right_rn hG hr hj) hs
theorem u_text (hG : PG.RightG G) (h : IsG w G v) (r : Nat) (hr : r < G.rows) : Calls Tryd.prog 12 #[v, .int .i64 r] w fun e w' => e = .returned (.string (strOfNums (PG.text (G.f r) G.cols))) ∧ Below w.heap.size w w' := by
  obtain ⟨A, cp, rfl, hl, h1, h2⟩ := h.open_
  exact gtext_in G _ cp w.heap.size r A w hG hl (Nat.le_refl _) rfl h1 h2 hr
theorem u_text_out (hG : PG.RightG G) (h : IsG w G v) (r : Int) (hr : r < 0 ∨ (G.rows : Int) ≤ r) : Calls Tryd.prog 12 #[v, .int .i64 r] w fun e w' => e = .returned (.string { data := #[] }) ∧ Below w.heap.size w w' := by
  obtain ⟨A, cp, rfl, hl, h1, h2⟩ := h.open_
  exact gtext_out G.rows G.cols _ cp A r w rfl hG.1 hG.2.1 hG.2.2.1 hG.2.2.2.1 hr
end
end Go.Proofs.YtcbmjdacdjcggaaDoor
