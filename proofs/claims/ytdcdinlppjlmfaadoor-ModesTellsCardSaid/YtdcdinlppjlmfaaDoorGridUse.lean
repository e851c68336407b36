/- What grids' functions make, told of plain grids: the program's own, and the document's. slices.Clone of a row of letters: new memory. A variable that holds a grid: what a region that draws its order leaves of it. What GridWide asks of its grids, told of plain grids. A region in a loop that draws its order and stores a grid over the one that was there. What GridTexts calls beside: linguistkeep's Grid of numbers, told of a plain grid; a range over a row's text. grid.Same of any two grids: whether they are alike. -/
import Derived.Test.YtdcdinlppjlmfaaDoorGridRefNew
import Derived.Test.YtdcdinlppjlmfaaDoorGridPut
import Derived.Lib.SliceRun
import Derived.StillTailTactics
import Derived.Test.YtdcdinlppjlmfaaDoorKept
import Derived.Test.YtdcdinlppjlmfaaDoorLib
import Derived.Lib.OthersKept
import Derived.Test.YtdcdinlppjlmfaaDoorPenEq
import Derived.BigQuiet
import Derived.Deep.QuietTactic
import Derived.WalkSpells
import Derived.WalkLawsBesides
set_option maxRecDepth 100000
namespace Go.Proofs.YtdcdinlppjlmfaaDoor
open Go.RowKit
set_option linter.unusedVariables false
namespace PG
/-- Put at a place that may be none -/
def putI (g : Gr) (r c x : Int) (p : Pn) : Gr := if 0 ≤ r ∧ 0 ≤ c then putG g r.toNat c.toNat x p else g
def wipeI (g : Gr) (r a b : Int) (p : Pn) : Gr := if 0 ≤ r then wipeG g r.toNat (max a 0).toNat (min b g.cols).toNat p else g
theorem right_putI {g : Gr} (h : RightG g) {p : Pn} (hp : okPen p) (r c x : Int) : RightG (putI g r c x p) := by
  unfold putI
  split
  · exact right_putG h hp _ _ _
  · exact h
theorem right_wipeI {g : Gr} (h : RightG g) {p : Pn} (hp : okPen p) (r a b : Int) : RightG (wipeI g r a b p) := by
  unfold wipeI
  split
  · exact right_wipeG h hp _ _ _
  · exact h
theorem putI_size (g : Gr) (r c x : Int) (p : Pn) : (putI g r c x p).rows = g.rows ∧ (putI g r c x p).cols = g.cols := by
  unfold putI
  split
  · exact put_size ..
  · exact ⟨rfl, rfl⟩
theorem wipeI_size (g : Gr) (r a b : Int) (p : Pn) : (wipeI g r a b p).rows = g.rows ∧ (wipeI g r a b p).cols = g.cols := by
  unfold wipeI
  split
  · exact wipe_size ..
  · exact ⟨rfl, rfl⟩
/-- the runes of a right grid are runes -/
theorem right_rn {g : Gr} (h : RightG g) {r j : Nat} (hr : r < g.rows) (hj : j < g.cols) : -2147483648 ≤ rn (g.f r j) ∧ rn (g.f r j) ≤ 2147483647 := by
  have hk : ∀ {x : Int}, U.isR x = true → -2147483648 ≤ x ∧ x ≤ 2147483647 := fun {x} hx => by
    unfold U.isR at hx
    have := of_decide_eq_true hx
    omega
  rcases (h.2.2.2.2 r hr j hj).2 with k | k | k
  · exact hk (width_rune (.inl k.2))
  · exact hk (width_rune (.inr k.2.1))
  · omega
end PG
theorem IsG.open_ {w : World} {G : PG.Gr} {v : Value} (h : IsG w G v) : ∃ A c, v = gv G.rows G.cols (.slice A (G.rows * G.cols) c) ∧ SeenC w w.heap.size A (G.rows * G.cols) (PG.cells G) ∧ G.rows * G.cols ≤ c ∧ c ≤ maxLen := by
  obtain ⟨s, rfl, ho⟩ := h
  obtain ⟨A, c, rfl, h1, h2, _⟩ := own_form' ho
  exact ⟨A, c, rfl, SeenC.of_own ho, h1, h2⟩
/-- a call gives such a grid back -/
def GotG (w : World) (G : PG.Gr) (e : Ending) (w' : World) : Prop := ∃ v, e = .returned v ∧ IsG w' G v ∧ Below w.heap.size w w'
theorem got_made {w : World} {R K : Nat} {G : PG.Gr} {l : List PG.Cl} {e : Ending} {w' : World} (h : MadeG w R K (R * K) l e w') (hl : l = PG.cells G) (hR : G.rows = R) (hK : G.cols = K) : GotG w G e w' := by
  subst hR hK hl
  obtain ⟨g, rfl, ho, hb⟩ := h
  exact ⟨_, rfl, ⟨_, rfl, own_base' ho (Nat.zero_le _)⟩, hb⟩
theorem got_gave {w : World} {G : PG.Gr} {l : List PG.Cl} {R K : Nat} {e : Ending} {w' : World} (h : GaveG w R K l e w') (hl : l = PG.cells G) (hR : G.rows = R) (hK : G.cols = K) : GotG w G e w' := by
  subst hR hK hl
  obtain ⟨v, rfl, ho, hb⟩ := h
  rw [PG.cells_len] at ho
  exact ⟨_, rfl, ⟨_, rfl, own_base' ho (Nat.zero_le _)⟩, hb⟩
section
variable {G H : PG.Gr} {v v' : Value} {w : World}
theorem u_new (R K : Nat) (p : PG.Pn) (w : World) (h1 : 1 ≤ R) (h2 : R ≤ 40) (h3 : 1 ≤ K) (h4 : K ≤ 60) : Calls Tryd.prog 22 #[.int .i64 R, .int .i64 K, pv p] w (GotG w (PG.newG R K p)) :=
  (new_any R K R K p w (by omega) (by omega) (by omega) (by omega) (.inr (.inl ⟨rfl, by omega, by omega⟩)) (.inr (.inl ⟨rfl, by omega, by omega⟩))).mono fun e w' h => got_made h (PG.new_cells R K p) rfl rfl
theorem r_new (R K : Nat) (p : PG.Pn) (w : World) (h2 : R ≤ 40) (h4 : K ≤ 60) : Calls Tryd.prog 74 #[.int .i64 R, .int .i64 K, pv p] w (GotG w (PG.newG R K p)) :=
  (rnew_any R K p w h2 h4).mono fun e w' h => got_gave h (PG.new_cells R K p) rfl rfl
theorem putI_in {r c x : Int} {p : PG.Pn} {q k : Nat} (hr : r = q) (hc : c = k) : PG.putI G r c x p = PG.putG G q k x p := by
  subst hr hc
  unfold PG.putI
  rw [if_pos (by omega)]
  rfl
theorem putI_out {r c x : Int} {p : PG.Pn} (h : ¬ (0 ≤ r ∧ r < G.rows ∧ 0 ≤ c ∧ 1 ≤ C.width x ∧ c + C.width x ≤ G.cols)) : PG.putI G r c x p = G := by
  unfold PG.putI
  split
  · rename_i h0
    exact PG.put_not (fun h1 => h (by omega))
  · rfl
theorem r_put (hG : PG.RightG G) (h : IsG w G v) (r c x : Int) (p : PG.Pn) (hr : -1000 ≤ r ∧ r ≤ 1000) (hc : -1000 ≤ c ∧ c ≤ 1000) (hx0 : -2147483648 ≤ x) (hx1 : x ≤ 2147483647) :
    Calls Tryd.prog 45 #[v, .int .i64 r, .int .i64 c, .int .i32 x, pv p] w (GotG w (PG.putI G r c x p)) := by
  obtain ⟨A, cp, rfl, hl, h1, h2⟩ := h.open_
  have hb := PG.width_bd x
  obtain ⟨wv, hw⟩ : ∃ wv : Nat, C.width x = (wv : Int) := ⟨(C.width x).toNat, by omega⟩
  by_cases hi : 0 ≤ r ∧ r < G.rows ∧ 0 ≤ c ∧ 1 ≤ C.width x ∧ c + C.width x ≤ G.cols
  · obtain ⟨q, rfl⟩ := Int.eq_ofNat_of_zero_le hi.1
    obtain ⟨k, rfl⟩ := Int.eq_ofNat_of_zero_le hi.2.2.1
    rw [putI_in rfl rfl]
    refine (rput_t G _ cp w.heap.size q k wv x p A w hl (Nat.le_refl _) rfl h1 h2 (by omega) hG.2.1 hG.2.2.2.1 hx0 hx1 hw (by omega) (by omega)).mono fun e w' hm => ?_
    exact got_gave hm rfl (PG.put_size ..).1 (PG.put_size ..).2
  · rw [putI_out hi]
    refine (rput_not G.rows G.cols _ cp wv r c x p A w hG.2.1 hG.2.2.2.1 hr hc hx0 hx1 hw (by omega)).mono ?_
    rintro e w' ⟨rfl, b⟩
    exact ⟨_, rfl, h.low b, b⟩
theorem wipeI_out {r a b : Int} {p : PG.Pn} (h : r < 0 ∨ (G.rows : Int) ≤ r) : PG.wipeI G r a b p = G := by
  unfold PG.wipeI
  split
  · unfold PG.wipeG
    rw [if_neg (by omega)]
  · rfl
theorem r_wipe (hG : PG.RightG G) (h : IsG w G v) (r a b : Int) (p : PG.Pn) (ha : -1000 ≤ a ∧ a ≤ 1000) (hb : -1000 ≤ b ∧ b ≤ 1000) :
    Calls Tryd.prog 59 #[v, .int .i64 r, .int .i64 a, .int .i64 b, pv p] w (GotG w (PG.wipeI G r a b p)) := by
  obtain ⟨A, cp, rfl, hl, h1, h2⟩ := h.open_
  have e1 : (if a < 0 then (0 : Int) else a) = ((max a 0).toNat : Int) := by split <;> omega
  by_cases hi : 0 ≤ r ∧ r < G.rows
  · obtain ⟨q, rfl⟩ := Int.eq_ofNat_of_zero_le hi.1
    have e2 : (if (G.cols : Int) < b then (G.cols : Int) else b) = min b G.cols := by split <;> omega
    refine (rwipe_t G.rows G.cols q _ cp w.heap.size _ a b _ p A _ w hl (Nat.le_refl _) rfl h1 h2 (by omega) hG.2.1 hG.2.2.1 hG.2.2.2.1 ha hb e1 e2).mono fun e w' hm => ?_
    have e3 : PG.wipeI G q a b p = PG.wipeG G q (max a 0).toNat (min b G.cols).toNat p := by unfold PG.wipeI; rw [if_pos (by omega)]; rfl
    rw [e3]
    exact got_gave hm (PG.wipe_cells (by omega) _ _ p) (PG.wipe_size ..).1 (PG.wipe_size ..).2
  · have ho : r < 0 ∨ (G.rows : Int) ≤ r := by omega
    rw [wipeI_out ho]
    refine (rwipe_not G.rows G.cols _ cp r a b p A w hG.2.1 ho).mono ?_
    rintro e w' ⟨rfl, b⟩
    exact ⟨_, rfl, h.low b, b⟩
/-- At, wherever -/
def atI (G : PG.Gr) (r c : Int) : Value := if 0 ≤ r ∧ r < G.rows ∧ 0 ≤ c ∧ c < G.cols then atv (G.f r.toNat c.toNat) true else atv PG.none false
theorem atI_in {r c : Nat} (hr : r < G.rows) (hc : c < G.cols) : atI G r c = atv (G.f r c) true := by
  unfold atI
  rw [if_pos (by omega)]
  rfl
theorem u_at (hG : PG.RightG G) (h : IsG w G v) (r c : Int) : Calls Tryd.prog 65 #[v, .int .i64 r, .int .i64 c] w fun e w' => e = .returned (atI G r c) ∧ Below w.heap.size w w' := by
  obtain ⟨A, cp, rfl, hl, h1, h2⟩ := h.open_
  by_cases hi : 0 ≤ r ∧ r < G.rows ∧ 0 ≤ c ∧ c < G.cols
  · obtain ⟨q, rfl⟩ := Int.eq_ofNat_of_zero_le hi.1
    obtain ⟨k, rfl⟩ := Int.eq_ofNat_of_zero_le hi.2.2.1
    have hq : q < G.rows := by omega
    have hk : k < G.cols := by omega
    have := gat_in G _ cp w.heap.size q k A w hl (Nat.le_refl _) rfl h1 h2 hq hk hG.2.1 hG.2.2.2.1
    rw [← atI_in hq hk] at this
    exact this
  · have hnn : 0 * G.cols + 0 < G.rows * G.cols := PG.place_lt hG.1 hG.2.2.1
    obtain ⟨c0, hc0'⟩ : ∃ c0, (PG.cells G)[0]? = some c0 := ⟨_, List.getElem?_eq_getElem (by rw [PG.cells_len]; omega)⟩
    obtain ⟨ad, rfl, _⟩ := hl.at_ hc0'
    have e : atI G r c = atv PG.none false := if_neg hi
    rw [e]
    exact gat_out G.rows G.cols _ cp r c ad w rfl h1 h2 hG.1 hG.2.1 hG.2.2.1 hG.2.2.2.1 (by omega)
theorem size_le (hG : PG.RightG G) : G.rows * G.cols ≤ 2400 := Nat.mul_le_mul hG.2.1 hG.2.2.2.1
theorem u_right (hG : PG.RightG G) (h : IsG w G v) (hs : Spans w) : Calls Tryd.prog 31 #[v] w fun e w' => e = .returned (.bool true) ∧ Below w.heap.size w w' := by
  obtain ⟨A, cp, rfl, hl, h1, h2⟩ := h.open_
  exact gright_any G _ cp w.heap.size A w hG hl (Nat.le_refl _) rfl h1 h2 (fun r j hr hj => PG.right_rn hG hr hj) hs
end
end Go.Proofs.YtdcdinlppjlmfaaDoor
set_option maxRecDepth 100000
namespace Go.Proofs.YtdcdinlppjlmfaaDoor
open Go.RowKit
set_option linter.unusedVariables false
theorem own_lit_new (w : World) : ∀ k, (Value.slice (some ⟨w.heap.size, 0, none⟩) 0 0).ownBlock = some k → w.heap.size ≤ k := fun k hk => by
  have : w.heap.size = k := by simpa [Value.ownBlock] using hk
  omega
set_option maxHeartbeats 1000000 in
theorem sclone_any (n c B : Nat) (ad : Addr) (l : List PG.Cl) (w : World) (hl : SeenC w B (some ad) n l) (hB : B ≤ w.heap.size) (hn : n ≤ 1048576) :
    Calls Tryd.prog 37 #[.slice (some ad) n c] w fun e w' => ∃ v, e = .returned v ∧ w'.ownsRow w.heap.size 58 5 v n (ccells l) ∧ Below w.heap.size w w' := by
  obtain ⟨i0, hi, hz0, hz1, hz2⟩ := info_parts info_cell
  have qT : ∀ (w : World) (a : Option Addr) (n c n' c' : Nat), (binOp .eql 22 (.slice a n c) (.slice none n' c')).run Tryd.prog w = .ok (.bool a.isNone) w := fun w a n c n' c' => Lib.run_eql_slice_nil w _ _ a n c n' c' Tryd.underlying22
  have own0 := own_lit5 (w := w) (base := w.heap.size) 58 rfl (Nat.le_refl _)
  have hs1 := (SeenC.below hl (Below.alloc (Below.refl _ _) hB (.cells #[] 58)))
  go_enter Tryd.func37, Tryd.ntmps37
  go_wp2_with (
    at_builtin
    go_must (refine wpList_appC rfl (.tmp 5) (.tmp 6) 22 rfl w.heap.size 58 i0 _ 40 Tryd.underlying22 hi hz0 hz1 hz2 rfl _ 0 [] rfl own0 B (some ad) n c l rfl hs1 (by omega) (by omega) (by simp) ?_)
    intro v1 w1 hown1 hg1 hm1)
  go_ret
  exact ⟨_, rfl, by simpa using hown1, ((Below.refl _ _).alloc (Nat.le_refl _) _).grown hg1 (by simp) (own_lit_new w)⟩
end Go.Proofs.YtdcdinlppjlmfaaDoor
set_option maxRecDepth 100000
namespace Go.Proofs.YtdcdinlppjlmfaaDoor
open Go.RowKit
set_option linter.unusedVariables false
/-- the block g holds a grid, its cells in a row -/
def GBox (w : World) (G : PG.Gr) (g : Nat) : Prop := ∃ s, Box w g 24 #[.int .i64 G.rows, .int .i64 G.cols, s] ∧ IsG w G (gv G.rows G.cols s)
theorem GBox.low {w w' : World} {G : PG.Gr} {g : Nat} (h : GBox w G g) (b : Below w.heap.size w w') : GBox w' G g := by
  obtain ⟨s, h1, h2⟩ := h
  exact ⟨s, h1.below b h1.lt, h2.low b⟩
/-- none of these blocks is a row of cells -/
def NoRow (w : World) (S : List (Option Nat)) : Prop := ∀ x, some x ∈ S → ∃ T cs, Box w x T cs ∧ T ≠ 58
theorem IsG.keptS {w w' : World} {G : PG.Gr} {v : Value} {S : List (Option Nat)} (h : IsG w G v) (hS : NoRow w S) (k : Kept S w w') : IsG w' G v := by
  obtain ⟨s, h1, h2⟩ := h
  exact ⟨s, h1, own_kept h2 k (fun b hb hm => by
    obtain ⟨T, cs, hx, hT⟩ := hS b (hb ▸ hm)
    exact own_ne_box h2 hx (Ne.symm hT) hb)⟩
theorem GBox.keptS {w w' : World} {G : PG.Gr} {g : Nat} {S : List (Option Nat)} (h : GBox w G g) (hS : NoRow w S) (k : Kept S w w') (hn : some g ∉ S) : GBox w' G g := by
  obtain ⟨s, h1, h2⟩ := h
  exact ⟨s, h1.kept k hn, h2.keptS hS k⟩
/-- whatever -/
def PG.dflt : PG.Gr := PG.newG 1 1 PG.plain
def GVar (B : Nat) (G : PG.Gr) (v : Value) (w : World) : Prop := ∃ g, v = .pointer (some ⟨g, 0, none⟩) ∧ B ≤ g ∧ GBox w G g
theorem gv_inj {R K : Nat} {s x y z : Value} (h : gv R K s = .agg #[x, y, z]) : x = .int .i64 R ∧ y = .int .i64 K ∧ z = s := by
  unfold gv at h
  injection h with h
  injection h with h
  injection h with h1 h
  injection h with h2 h
  injection h with h3 h
  exact ⟨h1.symm, h2.symm, h3.symm⟩
theorem GBox.open_ {w : World} {G : PG.Gr} {g R K : Nat} (h : GBox w G g) (hR : G.rows = R) (hK : G.cols = K) : ∃ A c, Box w g 24 #[.int .i64 R, .int .i64 K, .slice A (R * K) c] ∧ SeenC w w.heap.size A (R * K) (PG.cells G) ∧ R * K ≤ c ∧ c ≤ maxLen ∧ IsG w G (gv R K (.slice A (R * K) c)) := by
  subst hR hK
  obtain ⟨s, h1, h2⟩ := h
  obtain ⟨A, c, hs, h3, h4, h5⟩ := h2.open_
  obtain ⟨-, -, rfl⟩ := gv_inj hs
  exact ⟨A, c, h1, h3, h4, h5, h2⟩
section
variable {ops : Array Oper} {S : List (Option Nat)} {w0 w : World} {olds : Nat → Array Value} {sh : Shape} {vals : Nat → Value} {grs : Nat → PG.Gr} {gs : Nat → Nat} {L : Nat → Bool} {u : Nat → Value}
theorem RJ.var (h : RJ ops S w0 olds sh vals grs gs L u w) (hall : ∀ j, j < ops.size → L j = true) (j : Nat) (hl : j < ops.size) (hk : skd sh j = 3) (h2 : skd sh (sba sh j) = 2) (hb : sba sh j < ops.size) (h1 : skd sh (sva sh j) = 1) (hv : sva sh j < ops.size) (hT : sty sh j = 24) : GVar w0.heap.size (grs (sva sh j)) (u (sba sh j)) w := by
  obtain ⟨g, x, y, z, k1, k2, k3⟩ := (h.all j hl (hall j hl)).2.2.2.1 hk
  have hg := h.gridOf hv (hall _ hv) h1
  obtain ⟨g', cs, e1, e2, _⟩ := h.boxOf hb (hall _ hb) h2
  obtain ⟨s, m1, m2⟩ := hg
  rw [k1] at e1
  cases e1
  rw [m1] at k2
  obtain ⟨rfl, rfl, rfl⟩ := gv_inj k2
  rw [hT] at k3
  exact ⟨g, k1, e2, z, k3, z, rfl, m2⟩
theorem RJ.var0 (h : RJ ops S w0 olds sh vals grs gs L u w) (hall : ∀ j, j < ops.size → L j = true) (j : Nat) (hl : j < ops.size) (hk : skd sh j = 3) (h2 : skd sh (sba sh j) = 2) (hb : sba sh j < ops.size) (h1 : skd sh (sva sh j) = 0) (hv : sva sh j < ops.size) {T : TypeId} (hT : sty sh j = T) {x y z : Value} (he : vals (sva sh j) = .agg #[x, y, z]) : ∃ g, u (sba sh j) = .pointer (some ⟨g, 0, none⟩) ∧ w0.heap.size ≤ g ∧ Box w g T #[x, y, z] := by
  obtain ⟨g, x', y', z', k1, k2, k3⟩ := (h.all j hl (hall j hl)).2.2.2.1 hk
  have hg := h.valOf hv (hall _ hv) h1 he
  obtain ⟨g', cs, e1, e2, _⟩ := h.boxOf hb (hall _ hb) h2
  rw [k1] at e1
  cases e1
  rw [hg] at k2
  injection k2 with k2
  injection k2 with k2
  injection k2 with k2 k3'
  injection k3' with k4 k5
  injection k5 with k5 _
  subst k2 k4 k5
  exact ⟨g, k1, e2, hT ▸ k3⟩
theorem RJ.var4 (h : RJ ops S w0 olds sh vals grs gs L u w) (hall : ∀ j, j < ops.size → L j = true) (j : Nat) (hl : j < ops.size) (hk : skd sh j = 4) (h1 : skd sh (sva sh j) = 1) (hv : sva sh j < ops.size) (hT : sty sh j = 24) : GBox w (grs (sva sh j)) (gs j) := by
  obtain ⟨x, y, z, k2, k3⟩ := (h.all j hl (hall j hl)).2.2.2.2 hk
  have hg := h.gridOf hv (hall _ hv) h1
  obtain ⟨s, m1, m2⟩ := hg
  rw [m1] at k2
  obtain ⟨rfl, rfl, rfl⟩ := gv_inj k2
  rw [hT] at k3
  exact ⟨z, k3, z, rfl, m2⟩
end
theorem Spans.keptS {w w' : World} {S : List (Option Nat)} (h : Spans w) (k : Kept S w w') (hn : some 1 ∉ S) : Spans w' := by
  obtain ⟨t, h1⟩ := h
  exact ⟨t, (k.block _ (Array.getElem?_eq_some_iff.1 h1).1 hn).trans h1⟩
theorem wp_region_rj {P : Program} {Q : Exit → Act → World → Prop} {ops : Array Oper} {id n : Nat} {a0 : Act} {w0 : World} (S : List (Option Nat)) (olds : Nat → Array Value) (sh : Shape) (vals : Nat → Value) (grs : Nat → PG.Gr) (gs : Nat → Nat)
    (hm : P.follows .mixedOrders = true) (hd : depsOk ops = true) (hs : slotsOk ops n = true) (hn : a0.tmps.size = n) (hsh : okShape sh ops = true)
    (hin : ∀ j, skd sh j = 4 → some (gs j) ∈ S ∧ (olds j).size = 3 ∧ Box w0 (gs j) (sty sh j) (olds j)) (hne : ∀ i j, skd sh i = 4 → skd sh j = 4 → i ≠ j → gs i ≠ gs j)
    (hstep : RS ops S w0 olds sh gs → ∀ i, i < ops.size → ∀ L a w, L i = false → SameBut ops a0 a → a.tmps.size = n → RJ ops S w0 olds sh vals grs gs L (fun j => valOf ops j a) w → (∀ o, ops[i]? = some o → ∀ e ∈ o.after, Region.binds .any e = true → L e.on = true) → Closed ops L →
      Step P ops Q (RJ ops S w0 olds sh vals grs gs) L a w i)
    (hdone : ∀ L a w, SameBut ops a0 a → a.tmps.size = n → RJ ops S w0 olds sh vals grs gs L (fun j => valOf ops j a) w → (∀ j, j < ops.size → L j = true) → Q .normal a w) : (Code.region id ops true).wp P Q a0 w0 := by
  have hRS : RS ops S w0 olds sh gs := ⟨hsh, fun j hk => ⟨(hin j hk).1, (hin j hk).2.2.lt, (hin j hk).2.1⟩, hne⟩
  exact wp_region_vals (RJ ops S w0 olds sh vals grs gs) hm hd hs hn (fun L u u' w h hj => hj.same hRS h) (hstep hRS) hdone (RJ.start (fun j hk => (hin j hk).2.2) _)
/-- no store into what was there -/
theorem no4 {p : Nat → Prop} {sh : Shape} (h : sh.all (fun x => x.1 != 4) = true) : ∀ j, skd sh j = 4 → p j := fun j hj => by
  exfalso
  unfold skd at hj
  rw [List.getD_eq_getElem?_getD] at hj
  rcases Nat.lt_or_ge j sh.length with hl | hl
  · rw [List.getElem?_eq_getElem hl] at hj
    have := List.all_eq_true.1 h _ (List.getElem_mem hl)
    simp only [Option.getD_some] at hj
    simp [hj] at this
  · rw [List.getElem?_eq_none hl] at hj
    cases hj
end Go.Proofs.YtdcdinlppjlmfaaDoor
set_option maxRecDepth 100000
namespace Go.Proofs.YtdcdinlppjlmfaaDoor.PG
set_option linter.unusedVariables false
theorem en1_one {x : Int} (h0 : 0 ≤ x) (h1 : x < 128) : (U.en1 x).length = 1 := by
  unfold U.en1 U.en
  rw [if_pos (show U.isR x = true from by simp [U.isR]; omega), if_pos h1]
  rfl
theorem en1_three {x : Int} (h0 : 19968 ≤ x) (h1 : x ≤ 20967) : (U.en1 x).length = 3 := by
  unfold U.en1 U.en
  rw [if_pos (show U.isR x = true from by simp [U.isR]; omega), if_neg (by omega), if_neg (by omega), if_pos (by omega)]
  rfl
theorem text_u8 (f : Nat → Cl) (n : Nat) : ∀ x ∈ text f n, 0 ≤ x ∧ x < 256 := U.enc_u8 _
structure WideG (P Q : Pn) (k : Nat) (x : Int) (G L R W C : Gr) : Prop where
  eL : putI G 0 k 97 P = L
  eR : putI G 0 (k + 1) 98 P = R
  eW : wipeI G 0 (k + 1) (k + 2) P = W
  eC : resizeG G 1 (k + 1) = C
  eO : putI G 0 7 x P = G
  rG : RightG G
  rL : RightG L
  rR : RightG R
  rW : RightG W
  rC : RightG C
  sG : G.rows = 1 ∧ G.cols = 8
  sL : L.rows = 1 ∧ L.cols = 8
  sR : R.rows = 1 ∧ R.cols = 8
  sW : W.rows = 1 ∧ W.cols = 8
  sC : C.rows = 1 ∧ C.cols = k + 1
  g0 : G.f 0 k = (x, 1, Q)
  g1 : G.f 0 (k + 1) = (0, 2, Q)
  l1 : L.f 0 (k + 1) = blank Q
  r0 : R.f 0 k = blank Q
  w0 : W.f 0 k = blank Q
  w1 : W.f 0 (k + 1) = blank P
  c0 : C.f 0 k = blank Q
  tx : text (G.f 0) 8 ≠ text ((newG 1 8 P).f 0) 8
theorem wide_all {P Q : Pn} (hP : okPen P) (hQ : okPen Q) {k : Nat} {x : Int} (hk : k ≤ 6) (h0 : 19968 ≤ x) (h1 : x ≤ 20967) : ∃ G L R W C, putI (newG 1 8 P) 0 k x Q = G ∧ WideG P Q k x G L R W C := by
  have hx := width_han (x := x) (by omega) (by omega)
  have e : putI (newG 1 8 P) 0 k x Q = putG (newG 1 8 P) 0 k x Q := putI_in rfl rfl
  have hs := put_size (newG 1 8 P) 0 k x Q
  have hat := fun j => wide_at (n := 8) (k := k) (p := P) (q := Q) hx (by omega) j
  obtain ⟨G, hG⟩ : ∃ G, putG (newG 1 8 P) 0 k x Q = G := ⟨_, rfl⟩
  have rG : RightG G := hG ▸ right_putG (right_newG hP (by omega) (by omega) (by omega) (by omega)) hQ _ _ _
  rw [hG] at e hs hat
  have hR : G.rows = 1 := hs.1
  have hC : G.cols = 8 := hs.2
  have eL : putI G 0 k 97 P = putG G 0 k 97 P := putI_in rfl rfl
  have eR : putI G 0 (k + 1) 98 P = putG G 0 (k + 1) 98 P := putI_in rfl (by omega)
  have eW : wipeI G 0 (k + 1) (k + 2) P = wipeG G 0 (k + 1) (k + 2) P := by
    unfold wipeI
    rw [if_pos (by omega), hC]
    congr 1 <;> omega
  refine ⟨G, _, _, _, _, e, rfl, rfl, rfl, rfl, putI_out (by omega), rG, right_putI rG hP _ _ _, right_putI rG hP _ _ _, right_wipeI rG hP _ _ _, right_resizeG rG (by omega) (by omega) (by omega) (by omega), ⟨hR, hC⟩, ?_, ?_, ?_, ⟨rfl, rfl⟩, ?_, ?_, ?_, ?_, ?_, ?_, ?_, ?_⟩
  · exact ⟨(putI_size ..).1.trans hR, (putI_size ..).2.trans hC⟩
  · exact ⟨(putI_size ..).1.trans hR, (putI_size ..).2.trans hC⟩
  · exact ⟨(wipeI_size ..).1.trans hR, (wipeI_size ..).2.trans hC⟩
  · rw [hat, if_pos rfl]
  · rw [hat, if_neg (by omega), if_pos rfl]
  · rw [eL]
    exact (over_half hG.symm hx (width_ascii (by omega) (by omega)) (by omega)).1
  · rw [eR]
    exact (over_half hG.symm hx (width_ascii (by omega) (by omega)) (by omega)).2
  · rw [eW]
    exact (wipe_half hG.symm hx (by omega)).1
  · rw [eW]
    exact (wipe_half hG.symm hx (by omega)).2
  · exact cut_half hG.symm hx (by omega)
  · intro ht
    have hl := congrArg List.length ht
    have e1 : runes (G.f 0) 8 = runes (fun j => if j = k then (x, 1, Q) else if j = k + 1 then (0, 2, Q) else blank P) 8 := runes_congr fun j _ => hat j
    have e2 : runes ((newG 1 8 P).f 0) 8 = [32, 32, 32, 32, 32, 32, 32, 32] := rfl
    have s1 := en1_one (x := 32) (by omega) (by omega)
    have s3 := en1_three h0 h1
    unfold text U.enc at hl
    rw [e1, e2] at hl
    obtain rfl | rfl | rfl | rfl | rfl | rfl | rfl : k = 0 ∨ k = 1 ∨ k = 2 ∨ k = 3 ∨ k = 4 ∨ k = 5 ∨ k = 6 := by omega
    all_goals
      simp [runes, kd, rn, blank, List.range, List.range.loop, s1, s3] at hl
end Go.Proofs.YtdcdinlppjlmfaaDoor.PG
namespace Go.Proofs.YtdcdinlppjlmfaaDoor
theorem bytes_toList (l : List Int) : (strOfNums l).toList = l.map fun n => UInt8.ofNat n.toNat := by
  rw [ByteArray.toList_eq]
  simp [strOfNums]
theorem map_u8_inj : ∀ {l m : List Int}, (∀ x ∈ l, 0 ≤ x ∧ x < 256) → (∀ x ∈ m, 0 ≤ x ∧ x < 256) → l.map (fun n => UInt8.ofNat n.toNat) = m.map (fun n => UInt8.ofNat n.toNat) → l = m
  | [], [], _, _, _ => rfl
  | [], y :: m, _, _, h => by simp at h
  | x :: l, [], _, _, h => by simp at h
  | x :: l, y :: m, hl, hm, h => by
    simp only [List.map_cons, List.cons.injEq] at h
    have hx := hl x (by simp)
    have hy := hm y (by simp)
    have e : x = y := by
      have := congrArg UInt8.toNat h.1
      simp at this
      omega
    rw [e, map_u8_inj (fun z hz => hl z (List.mem_cons_of_mem _ hz)) (fun z hz => hm z (List.mem_cons_of_mem _ hz)) h.2]
theorem str_list_inj {l m : List Int} (hl : ∀ x ∈ l, 0 ≤ x ∧ x < 256) (hm : ∀ x ∈ m, 0 ≤ x ∧ x < 256) (h : (strOfNums l).toList = (strOfNums m).toList) : l = m := by
  rw [bytes_toList, bytes_toList] at h
  exact map_u8_inj hl hm h
end Go.Proofs.YtdcdinlppjlmfaaDoor
set_option maxRecDepth 100000
namespace Go.Proofs.YtdcdinlppjlmfaaDoor
open Go.RowKit
set_option linter.unusedVariables false
theorem only4 {sh : Shape} {k : Nat} (h : (List.range sh.length).all (fun j => skd sh j != 4 || j == k) = true) : ∀ j, skd sh j = 4 → j = k := fun j hj => by
  rcases Nat.lt_or_ge j sh.length with hl | hl
  · have := List.all_eq_true.1 h j (by simpa using hl)
    simpa [hj] using this
  · exfalso
    unfold skd at hj
    rw [List.getD_eq_getElem?_getD, List.getElem?_eq_none hl] at hj
    cases hj
theorem late {ops : Array Oper} {L : Nat → Bool} (hcl : Closed ops L) {i j : Nat} (hL : L i = false) (hd : depIn ops j i = true) : L j = false := by
  cases h : L j
  · rfl
  · rw [came hcl h hd] at hL
    cases hL
theorem norow {w : World} {g : Nat} {T : TypeId} {cs : Array Value} (h : Box w g T cs) (hT : T ≠ 58) : NoRow w [some g] := fun x hx => by
  simp at hx
  subst hx
  exact ⟨T, cs, h, hT⟩
/-- At of a cell that is known -/
theorem u_atc {G : PG.Gr} {v : Value} {w : World} (hG : PG.RightG G) (h : IsG w G v) (r c : Nat) {F : PG.Cl} (hr : r < G.rows) (hc : c < G.cols) (hF : G.f r c = F) : Calls Tryd.prog 65 #[v, .int .i64 r, .int .i64 c] w fun e w' => e = .returned (.tuple #[.agg #[.int .i32 (PG.rn F), .int .i64 (PG.kd F), .int .i64 (PG.pn F).1, .int .i64 (PG.pn F).2.1, .int .i64 (PG.pn F).2.2], .bool true]) ∧ Below w.heap.size w w' := by
  subst hF
  have h := u_at hG h r c
  rw [atI_in hr hc] at h
  exact h
/-- a new block that holds a cell -/
def CBox (F : PG.Cl) (u : Value) (w : World) : Prop := ∃ g, u = .pointer (some ⟨g, 0, none⟩) ∧ Box w g 58 #[.int .i32 (PG.rn F), .int .i64 (PG.kd F), .int .i64 (PG.pn F).1, .int .i64 (PG.pn F).2.1, .int .i64 (PG.pn F).2.2]
def PBox (p : PG.Pn) (u : Value) (w : World) : Prop := ∃ g, u = .pointer (some ⟨g, 0, none⟩) ∧ Box w g 26 #[.int .i64 p.1, .int .i64 p.2.1, .int .i64 p.2.2]
theorem pbox_of {p1 p2 p3 : Int} {u : Value} {B : Nat} {w : World} (h : ∃ g, u = .pointer (some ⟨g, 0, none⟩) ∧ B ≤ g ∧ Box w g 26 #[.int .i64 p1, .int .i64 p2, .int .i64 p3]) : PBox (p1, p2, p3) u w := by
  obtain ⟨g, h1, _, h2⟩ := h
  exact ⟨g, h1, h2⟩
end Go.Proofs.YtdcdinlppjlmfaaDoor
set_option maxRecDepth 100000
namespace Go.Proofs.YtdcdinlppjlmfaaDoor
open Go.RowKit
set_option linter.unusedVariables false
theorem u_keepGrid (rw_ cl : Int) (R K nr cr np cp : Nat) (rs ps : List Int) (Ar Ap : Option Addr) (w w' : World) (b : Below w.heap.size w w') (hR : 1 + rw_ % (5 - 1 + 1) = (R : Int)) (hK : 1 + cl % (9 - 1 + 1) = (K : Int)) (hr : -9223372036854775808 ≤ rw_ ∧ rw_ ≤ 9223372036854775807) (hc : -9223372036854775808 ≤ cl ∧ cl ≤ 9223372036854775807)
    (hs : Arg .i64 w Ar nr cr rs) (hp : Arg .i64 w Ap np cp ps) :
    Calls Tryd.prog 25 #[.agg #[.int .i64 rw_, .int .i64 cl, .slice Ar nr cr, .slice Ap np cp]] w' (GotG w' (PG.ofL R K (PG.keepCells rs ps R K))) := by
  have h1 := hs.le
  have h2 := hs.cap
  have h3 := hp.le
  have h4 := hp.cap
  unfold maxLen at h2 h4
  refine (keepGrid_any rw_ cl R K nr cr np cp w.heap.size rs ps Ar Ap w' hR hK hr.1 hr.2 hc.1 hc.2 (hs.seen.below b) (hp.seen.below b) b.size (by omega) (by omega) (fun x hx => bounds_i64 (hs.wf x hx)) (fun x hx => bounds_i64 (hp.wf x hx))).mono fun e w' hm => ?_
  exact got_gave hm (PG.keep_cells rs ps R K).symm rfl rfl
theorem keepG_right (rs ps : List Int) {R K : Nat} (h1 : 1 ≤ R) (h2 : R ≤ 5) (h3 : 1 ≤ K) (h4 : K ≤ 9) : PG.RightG (PG.ofL R K (PG.keepCells rs ps R K)) := PG.keep_right rs ps h1 (by omega) h3 (by omega)
/-- a range over a text comes to its next rune: `pre` is behind it, `x` ahead -/
theorem text_next {pre post : List Int} {x : Int} (h : U.isR x = true) : pre.length < (strOfNums (pre ++ (U.en x ++ post))).size ∧ Utf8.decode (strOfNums (pre ++ (U.en x ++ post))) pre.length = (x.toNat, (U.en x).length) := by
  refine ⟨?_, decode_en h⟩
  have : 0 < (U.en x).length := by
    unfold U.en
    split
    · simp
    · split
      · simp
      · split <;> simp
  rw [str_size, List.length_append, List.length_append]
  omega
theorem text_round {done rest : List Int} {x : Int} (h : ∀ y ∈ done ++ x :: rest, U.isR y = true) : (U.enc done).length < (strOfNums (U.enc (done ++ x :: rest))).size ∧ Utf8.decode (strOfNums (U.enc (done ++ x :: rest))) (U.enc done).length = (x.toNat, (U.en x).length) ∧ (U.enc (done ++ [x])).length = (U.enc done).length + (U.en x).length ∧ 1 ≤ (U.en x).length ∧ 0 ≤ x ∧ x ≤ 1114111 := by
  have hx := h x (by simp)
  have e1 : U.en1 x = U.en x := by simp [U.en1, hx]
  have e : U.enc (done ++ x :: rest) = U.enc done ++ (U.en x ++ U.enc rest) := by simp [U.enc, e1]
  have hn := text_next (pre := U.enc done) (post := U.enc rest) hx
  rw [e]
  refine ⟨hn.1, hn.2, by rw [U.enc_snoc, e1, List.length_append], en_pos x, ?_⟩
  have := isR_iff.1 hx
  omega
theorem wrap_succ {c : Nat} (h : c ≤ 9) : wrap64 ((c : Int) + 1) = (c : Int) + 1 := by unfold wrap64; omega
theorem meas_succ {k K : Nat} (h : k < K) : K - (intOf (.int .i64 ((k : Int) + 1))).toNat < K - (intOf (.int .i64 (k : Int))).toNat := by
  show K - ((k : Int) + 1).toNat < K - (k : Int).toNat
  omega
theorem text_end (done : List Int) : ¬ (U.enc done).length < (strOfNums (U.enc (done ++ []))).size := by
  rw [List.append_nil, str_size]
  omega
/-- a grid stored over a box -/
theorem store_grid {w : World} {G : PG.Gr} {g B R K : Nat} {cs : Array Value} {s : Value} (hb : Box w g 24 cs) (hs : cs.size = 3) (hR : G.rows = R) (hK : G.cols = K) (hg : IsG w G (gv R K s)) (hB : B ≤ g) : GBox (set3 w g (.int .i64 R) (.int .i64 K) s) G g ∧ Below B w (set3 w g (.int .i64 R) (.int .i64 K) s) := by
  subst hR hK
  have k := set3_kept w g (.int .i64 G.rows) (.int .i64 G.cols) s
  exact ⟨⟨s, set3_box hb hs _ _ _, hg.kept hb (by decide) k⟩, k.toBelow (Nat.le_trans hB (Nat.le_of_lt hb.lt)) (by simp; omega)⟩
end Go.Proofs.YtdcdinlppjlmfaaDoor
set_option maxRecDepth 100000
namespace Go.Proofs.YtdcdinlppjlmfaaDoor
open Go.RowKit
set_option linter.unusedVariables false
end Go.Proofs.YtdcdinlppjlmfaaDoor
