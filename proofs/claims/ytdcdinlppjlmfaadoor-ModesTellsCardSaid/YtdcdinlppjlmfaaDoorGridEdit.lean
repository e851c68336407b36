/- Package edit's inRow: a row's cells moved. Package edit's ofRows: rows moved. What package edit's functions make, told of plain grids. Package edit's Line and Erase, told of plain grids. Package edit's Erase, told of plain grids; Line's and Erase's words for the laws. What package edit's Line and Erase make, told of plain grids, for the laws (Insert, Delete, Up, Down: EditMany). -/
import Derived.Test.YtdcdinlppjlmfaaDoorEditMem
import Derived.Test.YtdcdinlppjlmfaaDoorGridShift
set_option maxRecDepth 100000
namespace Go.Proofs.YtdcdinlppjlmfaaDoor
open Go.RowKit
set_option linter.unusedVariables false
end Go.Proofs.YtdcdinlppjlmfaaDoor
set_option maxRecDepth 100000
namespace Go.Proofs.YtdcdinlppjlmfaaDoor
open Go.RowKit
set_option linter.unusedVariables false
end Go.Proofs.YtdcdinlppjlmfaaDoor
set_option maxRecDepth 100000
namespace Go.Proofs.YtdcdinlppjlmfaaDoor
open Go.RowKit
set_option linter.unusedVariables false
/-- a call gives such a grid back, in new memory -/
def NewG (w : World) (G : PG.Gr) (e : Ending) (w' : World) : Prop := ∃ s, e = .returned (gv G.rows G.cols s) ∧ w'.ownsRow w.heap.size 58 5 s (G.rows * G.cols) (ccells (PG.cells G)) ∧ Below w.heap.size w w'
theorem NewG.got {w w' : World} {G : PG.Gr} {e : Ending} (h : NewG w G e w') : GotG w G e w' := by
  obtain ⟨s, rfl, ho, hb⟩ := h
  exact ⟨_, rfl, ⟨_, rfl, own_base' ho (Nat.zero_le _)⟩, hb⟩
theorem new_made {w : World} {R K : Nat} {G : PG.Gr} {l : List PG.Cl} {e : Ending} {w' : World} (h : MadeG w R K (R * K) l e w') (hl : l = PG.cells G) (hR : G.rows = R) (hK : G.cols = K) : NewG w G e w' := by
  subst hR hK hl
  obtain ⟨g, rfl, ho, hb⟩ := h
  exact ⟨_, rfl, ho, hb⟩
theorem new_gave {w : World} {R K : Nat} {G : PG.Gr} {l : List PG.Cl} {e : Ending} {w' : World} (h : GaveG w R K l e w') (hl : l = PG.cells G) (hR : G.rows = R) (hK : G.cols = K) : NewG w G e w' := by
  subst hR hK hl
  obtain ⟨v, rfl, ho, hb⟩ := h
  rw [PG.cells_len] at ho
  exact ⟨_, rfl, ho, hb⟩
/-- an answer stored into its box -/
theorem new_stored {w w3 : World} {H : PG.Gr} {A : Option Addr} {n c gb B : Nat} {cs : Array Value} (ho : w3.ownsRow B 58 5 (.slice A n c) (H.rows * H.cols) (ccells (PG.cells H))) (hB : w.heap.size ≤ B) (x : Box w3 gb 24 cs) (hb : Below w.heap.size w w3) (hg : w.heap.size ≤ gb) :
    NewG w H (.returned (.agg #[.int .i64 H.rows, .int .i64 H.cols, .slice A n c])) (((w3.setCell ⟨gb, 0, none⟩ (.int .i64 H.rows)).setCell ⟨gb, 1, none⟩ (.int .i64 H.cols)).setCell ⟨gb, 2, none⟩ (.slice A n c)) := by
  have n2 := own_ne_box ho x (by decide)
  exact ⟨_, rfl, own_base' (ownsRow_setCell_other (ownsRow_setCell_other (ownsRow_setCell_other ho (a := ⟨gb, 0, none⟩) n2 (.int .i64 H.rows)) (a := ⟨gb, 1, none⟩) n2 (.int .i64 H.cols)) (a := ⟨gb, 2, none⟩) n2 (.slice A n c)) hB, below_set3 hb hg _ _ _⟩
theorem got_stored {w w3 : World} {H : PG.Gr} {A : Option Addr} {n c gb B : Nat} {cs : Array Value} (ho : w3.ownsRow B 58 5 (.slice A n c) (H.rows * H.cols) (ccells (PG.cells H))) (x : Box w3 gb 24 cs) (hb : Below w.heap.size w w3) (hg : w.heap.size ≤ gb) :
    GotG w H (.returned (.agg #[.int .i64 H.rows, .int .i64 H.cols, .slice A n c])) (((w3.setCell ⟨gb, 0, none⟩ (.int .i64 H.rows)).setCell ⟨gb, 1, none⟩ (.int .i64 H.cols)).setCell ⟨gb, 2, none⟩ (.slice A n c)) := by
  have n2 := own_ne_box ho x (by decide)
  exact ⟨_, rfl, ⟨_, rfl, own_base' (ownsRow_setCell_other (ownsRow_setCell_other (ownsRow_setCell_other ho (a := ⟨gb, 0, none⟩) n2 (.int .i64 H.rows)) (a := ⟨gb, 1, none⟩) n2 (.int .i64 H.cols)) (a := ⟨gb, 2, none⟩) n2 (.slice A n c)) (Nat.zero_le _)⟩, below_set3 hb hg _ _ _⟩
end Go.Proofs.YtdcdinlppjlmfaaDoor
set_option maxRecDepth 100000
namespace Go.Proofs.YtdcdinlppjlmfaaDoor
open Go.RowKit
set_option linter.unusedVariables false
theorem PG.lineI_out {g : PG.Gr} {r c k : Int} {p : PG.Pn} (h : ¬ ((0 ≤ r ∧ r < g.rows ∧ 0 ≤ c ∧ c < g.cols) ∧ 0 ≤ k ∧ k ≤ 2)) : PG.lineI g r c k p = g := if_neg h
theorem PG.eraseI_out {g : PG.Gr} {r c k : Int} {p : PG.Pn} (h : ¬ ((0 ≤ r ∧ r < g.rows ∧ 0 ≤ c ∧ c < g.cols) ∧ 0 ≤ k ∧ k ≤ 2)) : PG.eraseI g r c k p = g := if_neg h
theorem PG.lineI_0 {g : PG.Gr} {r c : Int} {p : PG.Pn} (hi : 0 ≤ r ∧ r < g.rows ∧ 0 ≤ c ∧ c < g.cols) : PG.lineI g r c 0 p = PG.wipeI g r c g.cols p := by
  unfold PG.lineI PG.wipeI
  rw [if_pos ⟨hi, by decide, by decide⟩, if_pos hi.1, if_pos rfl, if_neg (by decide)]
  rw [show (max (c : Int) 0).toNat = c.toNat by omega, show (min (g.cols : Int) g.cols).toNat = g.cols by omega]
theorem PG.lineI_1 {g : PG.Gr} {r c : Int} {p : PG.Pn} (hi : 0 ≤ r ∧ r < g.rows ∧ 0 ≤ c ∧ c < g.cols) : PG.lineI g r c 1 p = PG.wipeI g r 0 (c + 1) p := by
  unfold PG.lineI PG.wipeI
  rw [if_pos ⟨hi, by decide, by decide⟩, if_pos hi.1, if_neg (by decide), if_pos rfl]
  rw [show (max (0 : Int) 0).toNat = 0 by omega, show (min ((c + 1) : Int) g.cols).toNat = c.toNat + 1 by omega]
theorem PG.lineI_2 {g : PG.Gr} {r c : Int} {p : PG.Pn} (hi : 0 ≤ r ∧ r < g.rows ∧ 0 ≤ c ∧ c < g.cols) : PG.lineI g r c 2 p = PG.wipeI g r 0 g.cols p := by
  unfold PG.lineI PG.wipeI
  rw [if_pos ⟨hi, by decide, by decide⟩, if_pos hi.1, if_neg (by decide), if_neg (by decide)]
  rw [show (max (0 : Int) 0).toNat = 0 by omega, show (min (g.cols : Int) g.cols).toNat = g.cols by omega]
end Go.Proofs.YtdcdinlppjlmfaaDoor
set_option maxRecDepth 100000
namespace Go.Proofs.YtdcdinlppjlmfaaDoor
open Go.RowKit
set_option linter.unusedVariables false
/-- the grid, the pen, the answer, the grid under way, each in a box; the cells under way in a row of the call's own -/
def EEr (w : World) (R K n cp : Nat) (A : Option Addr) (g cap gb : Nat) (p : PG.Pn) (l : List PG.Cl) (wx : World) : Prop :=
  Box wx w.heap.size 24 #[.int .i64 R, .int .i64 K, .slice A n cp] ∧ Box wx (w.heap.size + 1) 26 #[.int .i64 p.1, .int .i64 p.2.1, .int .i64 p.2.2] ∧ Box wx (w.heap.size + 1 + 1) 24 #[.int .i64 0, .int .i64 0, .slice none 0 0] ∧
  Box wx gb 24 #[.int .i64 R, .int .i64 K, .slice (some ⟨g, 0, none⟩) n cap] ∧ w.heap.size + 1 + 1 < gb ∧ wx.ownsRow w.heap.size 58 5 (.slice (some ⟨g, 0, none⟩) n cap) n (ccells l) ∧ Below w.heap.size w wx
section
variable {w wx wy : World} {R K n cp g cap gb : Nat} {A : Option Addr} {p : PG.Pn} {l l2 : List PG.Cl}
theorem EEr.call (h : EEr w R K n cp A g cap gb p l wx) (b : Below wx.heap.size wx wy) : EEr w R K n cp A g cap gb p l wy :=
  ⟨h.1.below b h.1.lt, h.2.1.below b h.2.1.lt, h.2.2.1.below b h.2.2.1.lt, h.2.2.2.1.below b h.2.2.2.1.lt, h.2.2.2.2.1, h.2.2.2.2.2.1.kept (grown_of_below b none) (by simp [Value.ownBlock]), h.2.2.2.2.2.2.trans (b.mono h.2.2.2.2.2.2.size)⟩
theorem EEr.drew (h : EEr w R K n cp A g cap gb p l wx) : EEr w R K n cp A g cap gb p l wx.drew := ⟨h.1.drew, h.2.1.drew, h.2.2.1.drew, h.2.2.2.1.drew, h.2.2.2.2.1, h.2.2.2.2.2.1, h.2.2.2.2.2.2.drew⟩
theorem EEr.wrote (h : EEr w R K n cp A g cap gb p l wx) (o : wy.ownsRow w.heap.size 58 5 (.slice (some ⟨g, 0, none⟩) n cap) n (ccells l2)) (k : Kept [some g] wx wy) : EEr w R K n cp A g cap gb p l2 wy := by
  have ho := h.2.2.2.2.2.1
  have hb := h.2.2.2.2.2.2
  have n0 := own_ne_box ho h.1 (by decide)
  have n1 := own_ne_box ho h.2.1 (by decide)
  have n2 := own_ne_box ho h.2.2.1 (by decide)
  have n3 := own_ne_box ho h.2.2.2.1 (by decide)
  have lt := (ho.lt g rfl).1
  have hn : ∀ q, (Value.slice (some ⟨g, 0, none⟩) n cap).ownBlock ≠ some q → some q ∉ [some g] := fun q hq hm => hq (by
    simp only [List.mem_singleton, Option.some.injEq] at hm
    rw [hm]
    rfl)
  exact ⟨h.1.kept k (hn _ n0), h.2.1.kept k (hn _ n1), h.2.2.1.kept k (hn _ n2), h.2.2.2.1.kept k (hn _ n3), h.2.2.2.2.1, o, hb.trans (k.toBelow hb.size (fun q hq => by simp at hq; omega))⟩
end
namespace PG
theorem erase_0 {g : Gr} {r c : Nat} {p : Pn} (hr : r < g.rows) : spl (cells (wipeG g r c g.cols p)) ((r + 1) * g.cols) (List.replicate ((g.rows - (r + 1)) * g.cols) (blank p)) = cells (eraseG g r c 0 p) := by
  have hs := wipe_size g r c g.cols p
  have e := blank_rows (g := wipeG g r c g.cols p) (t := r + 1) (b := g.rows) (p := p) (by omega) (by rw [hs.1]; exact Nat.le_refl _)
  rw [hs.2, hs.1] at e
  rw [e]
  refine cells_ext ⟨rfl, rfl, fun i j hi hj => ?_⟩
  have hi : i < g.rows := hi
  unfold eraseG wipeG
  rw [if_pos hr]
  show (if r + 1 ≤ i ∧ i < g.rows then blank p else if i = r then mend (wiped (g.f r) c g.cols p) g.cols j else g.f i j) = if (0 : Nat) = 2 ∨ (0 : Nat) = 0 ∧ r < i ∨ (0 : Nat) = 1 ∧ i < r then blank p else if i = r then mend (wiped (g.f r) (if (0 : Nat) = 0 then c else 0) (if (0 : Nat) = 1 then c + 1 else g.cols) p) g.cols j else g.f i j
  by_cases h : r < i
  · rw [if_pos (by omega), if_pos (by omega)]
  · rw [if_neg (show ¬ (r + 1 ≤ i ∧ i < g.rows) by omega), if_neg (show ¬ ((0 : Nat) = 2 ∨ (0 : Nat) = 0 ∧ r < i ∨ (0 : Nat) = 1 ∧ i < r) by omega)]
    rfl
theorem erase_1 {g : Gr} {r c : Nat} {p : Pn} (hr : r < g.rows) : spl (cells (wipeG g r 0 (c + 1) p)) 0 (List.replicate (r * g.cols) (blank p)) = cells (eraseG g r c 1 p) := by
  have hs := wipe_size g r 0 (c + 1) p
  have e := blank_rows (g := wipeG g r 0 (c + 1) p) (t := 0) (b := r) (p := p) (by omega) (by rw [hs.1]; omega)
  rw [hs.2, hs.1, Nat.zero_mul, Nat.sub_zero] at e
  rw [e]
  refine cells_ext ⟨rfl, rfl, fun i j hi hj => ?_⟩
  unfold eraseG wipeG
  rw [if_pos hr]
  show (if 0 ≤ i ∧ i < r then blank p else if i = r then mend (wiped (g.f r) 0 (c + 1) p) g.cols j else g.f i j) = if (1 : Nat) = 2 ∨ (1 : Nat) = 0 ∧ r < i ∨ (1 : Nat) = 1 ∧ i < r then blank p else if i = r then mend (wiped (g.f r) (if (1 : Nat) = 0 then c else 0) (if (1 : Nat) = 1 then c + 1 else g.cols) p) g.cols j else g.f i j
  by_cases h : i < r
  · rw [if_pos (by omega), if_pos (by omega)]
  · rw [if_neg (show ¬ (0 ≤ i ∧ i < r) by omega), if_neg (show ¬ ((1 : Nat) = 2 ∨ (1 : Nat) = 0 ∧ r < i ∨ (1 : Nat) = 1 ∧ i < r) by omega)]
    rfl
theorem erase_2 {g : Gr} {r c : Nat} {p : Pn} (l : List Cl) (hl : l.length = g.rows * g.cols) : spl l 0 (List.replicate (g.rows * g.cols) (blank p)) = cells (eraseG g r c 2 p) := by
  rw [spl_all (by rw [List.length_replicate, hl]), new_cells]
  exact (cells_ext (erase_all g r c p)).symm
theorem line_size (g : Gr) (r c k : Int) (p : Pn) : (lineI g r c k p).rows = g.rows ∧ (lineI g r c k p).cols = g.cols := lineI_size g r c k p
end PG
end Go.Proofs.YtdcdinlppjlmfaaDoor
namespace Go.Proofs.YtdcdinlppjlmfaaDoor
open Go.RowKit
set_option linter.unusedVariables false
section
variable {G : PG.Gr} {v : Value} {w : World}
end
end Go.Proofs.YtdcdinlppjlmfaaDoor
