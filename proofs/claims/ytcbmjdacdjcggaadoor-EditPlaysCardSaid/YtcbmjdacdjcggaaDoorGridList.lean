/- A grid's cells as one list, row behind row: what may be a grid, one or two cells more, one cell set; the runes that are wide enough can be written. Names no function of a program. The grids that the statements make of numbers, as plain lists of cells: each is right. Names no function of a program. -/
import Derived.Test.YtcbmjdacdjcggaaDoorGridSpec
import Derived.Test.YtcbmjdacdjcggaaDoorUtfSpec
namespace Go.Proofs.YtcbmjdacdjcggaaDoor.PG
set_option linter.unusedVariables false
def none : Cl := (0, 0, (0, 0, 0))
/-- the grid of a list of cells -/
def ofL (R K : Nat) (l : List Cl) : Gr := ⟨R, K, fun r c => (l[r * K + c]?).getD none⟩
theorem ofL_at {R K : Nat} {l : List Cl} (hl : l.length = R * K) {r c : Nat} (hr : r < R) (hc : c < K) : l[r * K + c]? = some ((ofL R K l).f r c) := by
  have h : r * K + c < l.length := by rw [hl]; exact place_lt hr hc
  show _ = some ((l[r * K + c]?).getD none)
  rw [List.getElem?_eq_getElem h]
  rfl
/-- a list that has a grid's cells in their places is its list -/
theorem cells_of {g : Gr} {l : List Cl} (hl : l.length = g.rows * g.cols) (h : ∀ r c, r < g.rows → c < g.cols → l[r * g.cols + c]? = some (g.f r c)) : l = cells g := by
  refine List.ext_getElem? fun i => ?_
  by_cases hi : i < g.rows * g.cols
  · obtain ⟨_, h1, h2, h3⟩ := place_of hi
    rw [← h3, h _ _ h1 h2, cells_at g h1 h2]
  · rw [List.getElem?_eq_none (by omega), List.getElem?_eq_none (by rw [cells_len]; omega)]
theorem ofL_cells {R K : Nat} {l : List Cl} (hl : l.length = R * K) : cells (ofL R K l) = l := (cells_of (g := ofL R K l) hl fun _ _ hr hc => ofL_at hl hr hc).symm
theorem alike_ofL (g : Gr) : Alike (ofL g.rows g.cols (cells g)) g := ⟨rfl, rfl, fun r c hr hc => by
  have e := ofL_at (cells_len g) hr hc
  rw [cells_at g hr hc] at e
  exact (Option.some.inj e).symm⟩
/-- places of one row and another -/
theorem place_inj {K r c i j : Nat} (hc : c < K) (hj : j < K) (h : r * K + c = i * K + j) : r = i ∧ c = j := by
  have a := place_div (r := r) hc
  have b := place_div (r := i) hj
  rw [h] at a
  exact ⟨a.1.symm.trans b.1, a.2.symm.trans b.2⟩
/-- one cell set -/
theorem set_at {g : Gr} {r c : Nat} (hr : r < g.rows) (hc : c < g.cols) (x : Cl) : (cells g).set (r * g.cols + c) x = cells ⟨g.rows, g.cols, fun i j => if i = r ∧ j = c then x else g.f i j⟩ := by
  refine cells_of (g := ⟨g.rows, g.cols, fun i j => if i = r ∧ j = c then x else g.f i j⟩) (by rw [List.length_set, cells_len]) fun i j hi hj => ?_
  show ((cells g).set (r * g.cols + c) x)[i * g.cols + j]? = some (if i = r ∧ j = c then x else g.f i j)
  have hi : i < g.rows := hi
  have hj : j < g.cols := hj
  by_cases h : i = r ∧ j = c
  · obtain ⟨rfl, rfl⟩ := h
    rw [if_pos ⟨rfl, rfl⟩, List.getElem?_set_self (by rw [cells_len]; exact place_lt hi hj)]
  · rw [if_neg h, List.getElem?_set_ne, cells_at g hi hj]
    intro e
    have := place_inj hc hj e
    exact h ⟨this.1.symm, this.2.symm⟩
/-- a row, cut out of the list -/
theorem row_cut {g : Gr} {r : Nat} (hr : r < g.rows) : ((cells g).drop (r * g.cols)).take g.cols = (List.range g.cols).map (g.f r) := by
  refine List.ext_getElem? fun j => ?_
  by_cases hj : j < g.cols
  · rw [List.getElem?_take_of_lt hj, List.getElem?_drop, cells_at g hr hj, List.getElem?_map, List.getElem?_range hj]
    rfl
  · rw [List.getElem?_eq_none (by rw [List.length_take]; omega), List.getElem?_eq_none (by rw [List.length_map, List.length_range]; omega)]
/-! cells, one behind the other, that will be a grid w wide -/
structure Ok (w : Nat) (l : List Cl) : Prop where
  each : ∀ j c, l[j]? = some c → okPen (pn c) ∧
    ((kd c = 0 ∧ C.width (rn c) = 1) ∨
     (kd c = 1 ∧ C.width (rn c) = 2 ∧ (j + 1) % w ≠ 0 ∧ ∃ d, l[j + 1]? = some d ∧ kd d = 2 ∧ pn d = pn c) ∨
     (kd c = 2 ∧ rn c = 0 ∧ j % w ≠ 0 ∧ ∃ d, l[j - 1]? = some d ∧ kd d = 1))
theorem ok_nil (w : Nat) : Ok w [] := ⟨fun j c h => by simp at h⟩
theorem snoc_at {α : Type} {l : List α} {x c : α} {j : Nat} (h : (l ++ [x])[j]? = some c) : l[j]? = some c ∨ (j = l.length ∧ c = x) := by
  rcases Nat.lt_or_ge j l.length with a | a
  · rw [List.getElem?_append_left a] at h
    exact .inl h
  · rw [List.getElem?_append_right a] at h
    rcases Nat.eq_or_lt_of_le a with b | b
    · rw [← b, Nat.sub_self] at h
      exact .inr ⟨b.symm, (Option.some.inj h).symm⟩
    · rw [List.getElem?_eq_none (by simp; omega)] at h
      exact absurd h (by simp)
theorem grow_at {α : Type} {l m : List α} {d : α} {j : Nat} (h : l[j]? = some d) : (l ++ m)[j]? = some d := by
  have a : j < l.length := by
    rcases Nat.lt_or_ge j l.length with a | a
    · exact a
    · rw [List.getElem?_eq_none a] at h; exact absurd h (by simp)
  rw [List.getElem?_append_left a]
  exact h
theorem Ok.grow {w : Nat} {l m : List Cl} (h : Ok w l) {j : Nat} {c : Cl} (hc : l[j]? = some c) : okPen (pn c) ∧
    ((kd c = 0 ∧ C.width (rn c) = 1) ∨
     (kd c = 1 ∧ C.width (rn c) = 2 ∧ (j + 1) % w ≠ 0 ∧ ∃ d, (l ++ m)[j + 1]? = some d ∧ kd d = 2 ∧ pn d = pn c) ∨
     (kd c = 2 ∧ rn c = 0 ∧ j % w ≠ 0 ∧ ∃ d, (l ++ m)[j - 1]? = some d ∧ kd d = 1)) := by
  obtain ⟨h0, h | ⟨h1, h2, h3, d, h4, h5⟩ | ⟨h1, h2, h3, d, h4, h5⟩⟩ := h.each j c hc
  · exact ⟨h0, .inl h⟩
  · exact ⟨h0, .inr (.inl ⟨h1, h2, h3, d, grow_at h4, h5⟩)⟩
  · exact ⟨h0, .inr (.inr ⟨h1, h2, h3, d, grow_at h4, h5⟩)⟩
theorem ok_one {w : Nat} {l : List Cl} (h : Ok w l) {x : Int} {p : Pn} (hx : C.width x = 1) (hp : okPen p) : Ok w (l ++ [(x, 0, p)]) := by
  refine ⟨fun j c hc => ?_⟩
  rcases snoc_at hc with a | ⟨_, rfl⟩
  · exact h.grow a
  · exact ⟨hp, .inl ⟨rfl, hx⟩⟩
theorem ok_two {w : Nat} {l : List Cl} (h : Ok w l) {x : Int} {p : Pn} (hx : C.width x = 2) (hp : okPen p) (hw : (l.length + 1) % w ≠ 0) : Ok w (l ++ [(x, 1, p), (0, 2, p)]) := by
  have e : l ++ [(x, 1, p), (0, 2, p)] = l ++ [(x, 1, p)] ++ [(0, 2, p)] := by simp
  refine ⟨fun j c hc => ?_⟩
  rw [e] at hc
  rcases snoc_at hc with a | ⟨hj, rfl⟩
  · rcases snoc_at a with b | ⟨hj, rfl⟩
    · exact h.grow b
    · refine ⟨hp, .inr (.inl ⟨rfl, hx, by rw [hj]; exact hw, (0, 2, p), ?_, rfl, rfl⟩)⟩
      rw [e, hj]
      exact List.getElem?_concat_length (l := l ++ [(x, 1, p)]) (a := ((0, 2, p) : Cl)) ▸ by simp
  · have hj : j = l.length + 1 := by simpa using hj
    refine ⟨hp, .inr (.inr ⟨rfl, rfl, by rw [hj]; exact hw, (x, 1, p), ?_, rfl⟩)⟩
    rw [hj]
    simp
theorem mod_row {w r c : Nat} (hc : c < w) : (r * w + c) % w = c := (place_div hc).2
theorem ok_grid {R K : Nat} {l : List Cl} (h : Ok K l) (hl : l.length = R * K) (h1 : 1 ≤ R) (h2 : R ≤ 40) (h3 : 1 ≤ K) (h4 : K ≤ 60) : RightG (ofL R K l) := by
  refine ⟨h1, h2, h3, h4, fun r hr c hc => ?_⟩
  have hc : c < K := hc
  have hr : r < R := hr
  have e := ofL_at hl hr hc
  obtain ⟨h0, k | ⟨k1, k2, k3, d, k4, k5, k6⟩ | ⟨k1, k2, k3, d, k4, k5⟩⟩ := h.each _ _ e
  · exact ⟨h0, .inl k⟩
  · have hn : c + 1 < K := by
      rcases Nat.lt_or_ge (c + 1) K with a | a
      · exact a
      · exfalso
        apply k3
        have : c + 1 = K := by omega
        rw [Nat.add_assoc, this, ← Nat.succ_mul]
        exact Nat.mul_mod_left _ _
    have e' := ofL_at hl hr hn
    rw [← Nat.add_assoc, k4] at e'
    have e' := Option.some.inj e'
    exact ⟨h0, .inr (.inl ⟨k1, k2, hn, by rw [← e']; exact k5, by rw [← e']; exact k6⟩)⟩
  · rw [mod_row hc] at k3
    have hn : c - 1 < K := by omega
    have e' := ofL_at hl hr hn
    rw [show r * K + (c - 1) = r * K + c - 1 from by omega, k4] at e'
    have e' := Option.some.inj e'
    exact ⟨h0, .inr (.inr ⟨k1, k2, by omega, by rw [← e']; exact k5⟩)⟩
/-- two more of them are still within the grid -/
theorem two_fit {R K i : Nat} (hi : i < R * K) (hw : (i + 1) % K ≠ 0) : i + 2 ≤ R * K := by
  rcases Nat.lt_or_ge (i + 1) (R * K) with a | a
  · omega
  · exfalso
    apply hw
    have : i + 1 = R * K := by omega
    rw [this]
    exact Nat.mul_mod_left _ _
/-- what is one wide, or two, is a rune -/
theorem width_rune {x : Int} (h : C.width x = 1 ∨ C.width x = 2) : U.isR x = true := by
  have hn : ¬ C.narrow x := fun hn => by
    rw [C.width_ref] at h
    unfold C.refWidth at h
    rw [if_pos hn] at h
    omega
  unfold C.narrow at hn
  unfold U.isR
  exact decide_eq_true (by omega)
/-- a row's text -/
def text (f : Nat → Cl) (n : Nat) : List Int := U.enc (runes f n)
theorem runes_isR {f : Nat → Cl} {n : Nat} (h : RightRow f n) : ∀ x ∈ runes f n, U.isR x = true := fun x hx => width_rune (runes_wide h hx)
theorem runes_len (f : Nat → Cl) (n : Nat) : (runes f n).length ≤ n := by
  unfold runes
  rw [List.length_map]
  exact Nat.le_trans (List.length_filter_le _ _) (by rw [List.length_range]; exact Nat.le_refl n)
theorem text_len (f : Nat → Cl) (n : Nat) : (text f n).length ≤ 4 * n := Nat.le_trans (U.enc_len _) (Nat.mul_le_mul_left 4 (runes_len f n))
/-- a wide rune's text is longer than blanks are -/
theorem runes_blank (p : Pn) (n : Nat) : runes (fun _ => blank p) n = List.replicate n 32 := by
  induction n with
  | zero => rfl
  | succ n ih =>
    rw [runes_succ, ih, if_pos (by rw [kd_blank]; omega), List.replicate_succ']
    rfl
end Go.Proofs.YtcbmjdacdjcggaaDoor.PG
namespace Go.Proofs.YtcbmjdacdjcggaaDoor.PG
set_option linter.unusedVariables false
theorem width_han {x : Int} (h0 : 11904 ≤ x) (h1 : x ≤ 42191) : C.width x = 2 := by
  rw [C.width_ref]
  unfold C.refWidth
  rw [if_neg (show ¬ C.narrow x from by unfold C.narrow; omega)]
  unfold C.wides
  rw [C.isWide_out (by omega), C.isWide_in (by omega)]
theorem width_ascii {x : Int} (h0 : 32 ≤ x) (h1 : x ≤ 126) : C.width x = 1 := by
  rw [C.width_ref]
  unfold C.refWidth
  rw [if_neg (show ¬ C.narrow x from by unfold C.narrow; omega)]
  unfold C.wides
  rw [C.isWide_out (by omega), C.isWide_out (by omega), C.isWide_out (by omega), C.isWide_out (by omega), C.isWide_out (by omega), C.isWide_out (by omega), C.isWide_out (by omega), C.isWide_out (by omega), C.isWide_out (by omega)]
  rfl
def pick (l : List Int) (i : Nat) : Int := if l = [] then 0 else l.getD (i % l.length) 0
def keepPen (v : Int) : Pn := (C.kcol v, C.kcol (v.tdiv 16), v.tdiv 64 % 256)
theorem keepPen_ok (v : Int) : okPen (keepPen v) := C.right_iff.2 ⟨C.kcol_col _, C.kcol_col _, by show 0 ≤ v.tdiv 64 % 256; omega, by show v.tdiv 64 % 256 ≤ 255; omega⟩
/-- one round -/
def keepStep (rs ps : List Int) (w : Nat) (l : List Cl) : List Cl :=
  if (pick rs l.length).tmod 5 = 4 ∧ (l.length + 1) % w ≠ 0 then l ++ [(19968 + (pick rs l.length).tmod 9, 1, keepPen (pick ps (l.length / 3))), (0, 2, keepPen (pick ps (l.length / 3)))]
  else l ++ [(97 + pick rs l.length % 10, 0, keepPen (pick ps (l.length / 3)))]
theorem tmod_pos {n : Int} (h : n.tmod 5 = 4) : 0 ≤ n := by
  rcases Int.lt_or_le n 0 with a | a
  · exfalso
    have h1 := Int.neg_tmod n 5
    rw [h] at h1
    have h2 := Int.tmod_nonneg (5 : Int) (show (0 : Int) ≤ -n by omega)
    omega
  · exact a
theorem keepStep_ok (rs ps : List Int) {R w : Nat} {l : List Cl} (h : Ok w l) (hl : l.length < R * w) : Ok w (keepStep rs ps w l) ∧ l.length < (keepStep rs ps w l).length ∧ (keepStep rs ps w l).length ≤ R * w := by
  unfold keepStep
  by_cases hc : (pick rs l.length).tmod 5 = 4 ∧ (l.length + 1) % w ≠ 0
  · rw [if_pos hc]
    have h0 := tmod_pos hc.1
    have h1 := Int.tmod_nonneg (9 : Int) h0
    have h2 := Int.tmod_lt_of_pos (pick rs l.length) (b := 9) (by omega)
    refine ⟨ok_two h (width_han (by omega) (by omega)) (keepPen_ok _) hc.2, by simp, ?_⟩
    have := two_fit hl hc.2
    simpa using this
  · rw [if_neg hc]
    exact ⟨ok_one h (width_ascii (by omega) (by omega)) (keepPen_ok _), by simp, by simp; omega⟩
/-- so many rounds at most -/
def keepGo (rs ps : List Int) (w total : Nat) : Nat → List Cl → List Cl
  | 0, l => l
  | k + 1, l => if l.length < total then keepGo rs ps w total k (keepStep rs ps w l) else l
theorem keepGo_ok (rs ps : List Int) {R w : Nat} : ∀ k l, Ok w l → l.length ≤ R * w → R * w - l.length ≤ k → Ok w (keepGo rs ps w (R * w) k l) ∧ (keepGo rs ps w (R * w) k l).length = R * w := by
  intro k
  induction k with
  | zero => intro l h hl hk; exact ⟨h, by show l.length = _; omega⟩
  | succ k ih =>
    intro l h hl hk
    unfold keepGo
    by_cases hc : l.length < R * w
    · rw [if_pos hc]
      obtain ⟨a, b, c⟩ := keepStep_ok rs ps h hc
      exact ih _ a c (by omega)
    · rw [if_neg hc]
      exact ⟨h, by omega⟩
def keepCells (rs ps : List Int) (R w : Nat) : List Cl := keepGo rs ps w (R * w) (R * w) []
theorem keepCells_ok (rs ps : List Int) (R w : Nat) : Ok w (keepCells rs ps R w) ∧ (keepCells rs ps R w).length = R * w := keepGo_ok rs ps _ _ (ok_nil w) (by simp) (by simp)
/-- what is left of the rounds: the loop's relation -/
theorem keepGo_step (rs ps : List Int) {R w k : Nat} {l : List Cl} (h : Ok w l) (hl : l.length < R * w) (hk : R * w - l.length ≤ k) : keepGo rs ps w (R * w) k l = keepGo rs ps w (R * w) k (keepStep rs ps w l) := by
  induction k generalizing l with
  | zero => omega
  | succ k ih =>
    obtain ⟨a, b, c⟩ := keepStep_ok rs ps h hl
    conv => lhs; unfold keepGo
    rw [if_pos hl]
    rcases Nat.lt_or_ge (keepStep rs ps w l).length (R * w) with d | d
    · rw [ih a d (by omega)]
      conv => rhs; unfold keepGo
      rw [if_pos d]
    · conv => rhs; unfold keepGo
      rw [if_neg (by omega)]
      cases k with
      | zero => rfl
      | succ k => unfold keepGo; rw [if_neg (by omega)]
theorem keepGo_done (rs ps : List Int) {w total k : Nat} {l : List Cl} (hl : total ≤ l.length) : keepGo rs ps w total k l = l := by
  cases k with
  | zero => rfl
  | succ k => unfold keepGo; rw [if_neg (by omega)]
/-- the grid of numbers is right -/
theorem keep_right (rs ps : List Int) {R w : Nat} (h1 : 1 ≤ R) (h2 : R ≤ 40) (h3 : 1 ≤ w) (h4 : w ≤ 60) : RightG (ofL R w (keepCells rs ps R w)) := ok_grid (keepCells_ok rs ps R w).1 (keepCells_ok rs ps R w).2 h1 h2 h3 h4
theorem keep_cells (rs ps : List Int) (R w : Nat) : cells (ofL R w (keepCells rs ps R w)) = keepCells rs ps R w := ofL_cells (keepCells_ok rs ps R w).2
end Go.Proofs.YtcbmjdacdjcggaaDoor.PG
