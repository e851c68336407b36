/- The grids that the statements make of numbers, as plain lists of cells: each is right. Names no function of a program. -/
import Derived.Test.YtfeapcneebofjaaDoorGridList
namespace Go.Proofs.YtfeapcneebofjaaDoor.PG
set_option linter.unusedVariables false
theorem width_han {x : Int} (h0 : 11904 ≤ x) (h1 : x ≤ 42191) : C.width x = 2 := by
  rw [C.width_ref]
  unfold C.refWidth
  rw [if_neg (show ¬ C.narrow x from by unfold C.narrow; omega)]
  unfold C.wides
  rw [C.isWide_out (by omega), C.isWide_in (by omega)]
theorem width_ascii {x : Int} (h0 : 32 ≤ x) (h1 : x ≤ 126) : C.width x = 1 := by
  rw [C.width_ref]
  unfold C.refWidth
  rw [if_neg (show ¬ C.narrow x from by unfold C.narrow; omega)]
  unfold C.wides
  rw [C.isWide_out (by omega), C.isWide_out (by omega), C.isWide_out (by omega), C.isWide_out (by omega), C.isWide_out (by omega), C.isWide_out (by omega), C.isWide_out (by omega), C.isWide_out (by omega), C.isWide_out (by omega)]
  rfl
def pick (l : List Int) (i : Nat) : Int := if l = [] then 0 else l.getD (i % l.length) 0
def keepPen (v : Int) : Pn := (C.kcol v, C.kcol (v.tdiv 16), v.tdiv 64 % 256)
theorem keepPen_ok (v : Int) : okPen (keepPen v) := C.right_iff.2 ⟨C.kcol_col _, C.kcol_col _, by show 0 ≤ v.tdiv 64 % 256; omega, by show v.tdiv 64 % 256 ≤ 255; omega⟩
/-- one round -/
def keepStep (rs ps : List Int) (w : Nat) (l : List Cl) : List Cl :=
  if (pick rs l.length).tmod 5 = 4 ∧ (l.length + 1) % w ≠ 0 then l ++ [(19968 + (pick rs l.length).tmod 9, 1, keepPen (pick ps (l.length / 3))), (0, 2, keepPen (pick ps (l.length / 3)))]
  else l ++ [(97 + pick rs l.length % 10, 0, keepPen (pick ps (l.length / 3)))]
theorem tmod_pos {n : Int} (h : n.tmod 5 = 4) : 0 ≤ n := by
  rcases Int.lt_or_le n 0 with a | a
  · exfalso
    have h1 := Int.neg_tmod n 5
    rw [h] at h1
    have h2 := Int.tmod_nonneg (5 : Int) (show (0 : Int) ≤ -n by omega)
    omega
  · exact a
theorem keepStep_ok (rs ps : List Int) {R w : Nat} {l : List Cl} (h : Ok w l) (hl : l.length < R * w) : Ok w (keepStep rs ps w l) ∧ l.length < (keepStep rs ps w l).length ∧ (keepStep rs ps w l).length ≤ R * w := by
  unfold keepStep
  by_cases hc : (pick rs l.length).tmod 5 = 4 ∧ (l.length + 1) % w ≠ 0
  · rw [if_pos hc]
    have h0 := tmod_pos hc.1
    have h1 := Int.tmod_nonneg (9 : Int) h0
    have h2 := Int.tmod_lt_of_pos (pick rs l.length) (b := 9) (by omega)
    refine ⟨ok_two h (width_han (by omega) (by omega)) (keepPen_ok _) hc.2, by simp, ?_⟩
    have := two_fit hl hc.2
    simpa using this
  · rw [if_neg hc]
    exact ⟨ok_one h (width_ascii (by omega) (by omega)) (keepPen_ok _), by simp, by simp; omega⟩
/-- so many rounds at most -/
def keepGo (rs ps : List Int) (w total : Nat) : Nat → List Cl → List Cl
  | 0, l => l
  | k + 1, l => if l.length < total then keepGo rs ps w total k (keepStep rs ps w l) else l
theorem keepGo_ok (rs ps : List Int) {R w : Nat} : ∀ k l, Ok w l → l.length ≤ R * w → R * w - l.length ≤ k → Ok w (keepGo rs ps w (R * w) k l) ∧ (keepGo rs ps w (R * w) k l).length = R * w := by
  intro k
  induction k with
  | zero => intro l h hl hk; exact ⟨h, by show l.length = _; omega⟩
  | succ k ih =>
    intro l h hl hk
    unfold keepGo
    by_cases hc : l.length < R * w
    · rw [if_pos hc]
      obtain ⟨a, b, c⟩ := keepStep_ok rs ps h hc
      exact ih _ a c (by omega)
    · rw [if_neg hc]
      exact ⟨h, by omega⟩
def keepCells (rs ps : List Int) (R w : Nat) : List Cl := keepGo rs ps w (R * w) (R * w) []
theorem keepCells_ok (rs ps : List Int) (R w : Nat) : Ok w (keepCells rs ps R w) ∧ (keepCells rs ps R w).length = R * w := keepGo_ok rs ps _ _ (ok_nil w) (by simp) (by simp)
/-- what is left of the rounds: the loop's relation -/
theorem keepGo_step (rs ps : List Int) {R w k : Nat} {l : List Cl} (h : Ok w l) (hl : l.length < R * w) (hk : R * w - l.length ≤ k) : keepGo rs ps w (R * w) k l = keepGo rs ps w (R * w) k (keepStep rs ps w l) := by
  induction k generalizing l with
  | zero => omega
  | succ k ih =>
    obtain ⟨a, b, c⟩ := keepStep_ok rs ps h hl
    conv => lhs; unfold keepGo
    rw [if_pos hl]
    rcases Nat.lt_or_ge (keepStep rs ps w l).length (R * w) with d | d
    · rw [ih a d (by omega)]
      conv => rhs; unfold keepGo
      rw [if_pos d]
    · conv => rhs; unfold keepGo
      rw [if_neg (by omega)]
      cases k with
      | zero => rfl
      | succ k => unfold keepGo; rw [if_neg (by omega)]
theorem keepGo_done (rs ps : List Int) {w total k : Nat} {l : List Cl} (hl : total ≤ l.length) : keepGo rs ps w total k l = l := by
  cases k with
  | zero => rfl
  | succ k => unfold keepGo; rw [if_neg (by omega)]
/-- the grid of numbers is right -/
theorem keep_right (rs ps : List Int) {R w : Nat} (h1 : 1 ≤ R) (h2 : R ≤ 40) (h3 : 1 ≤ w) (h4 : w ≤ 60) : RightG (ofL R w (keepCells rs ps R w)) := ok_grid (keepCells_ok rs ps R w).1 (keepCells_ok rs ps R w).2 h1 h2 h3 h4
theorem keep_cells (rs ps : List Int) (R w : Nat) : cells (ofL R w (keepCells rs ps R w)) = keepCells rs ps R w := ofL_cells (keepCells_ok rs ps R w).2
end Go.Proofs.YtfeapcneebofjaaDoor.PG
