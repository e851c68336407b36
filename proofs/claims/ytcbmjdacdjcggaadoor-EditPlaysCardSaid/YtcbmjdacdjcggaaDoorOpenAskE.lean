/- An argument that is a slice of stage 8's calls (four numbers, a pen of three numbers), opened. -/
import Derived.Test.YtcbmjdacdjcggaaDoorOpenMany
import Derived.Test.YtcbmjdacdjcggaaDoorOpenGrid
import Derived.Test.YtcbmjdacdjcggaaDoorLib
import Derived.Test.YtcbmjdacdjcggaaDoorRows
set_option maxRecDepth 100000
namespace Go.Proofs.YtcbmjdacdjcggaaDoor
open Go Go.Joins Go.ChangeShapes Go.WideShapes Go.RowKit Go.Deep
set_option linter.unusedVariables false
theorem add_offE (a : Addr) (k j : Nat) (hj : j ≠ 0) : (a.add k).add j = ⟨(a.add k).block, (a.add k).off + j, none⟩ := by
  generalize a.add k = b
  simp [Addr.add, hj]
/-- n calls stand there -/
def QArgsE (w : World) (A : Option Addr) (n : Nat) : Prop := ∀ i, i < n → ∃ (a : Addr) (kd r c m p1 p2 p3 : Int), A = some a ∧ (a.add (i * 7)).block < w.heap.size ∧
  w.cell? (a.add (i * 7)) = some (.int .i64 kd) ∧ w.cell? ⟨(a.add (i * 7)).block, (a.add (i * 7)).off + 1, none⟩ = some (.int .i64 r) ∧ w.cell? ⟨(a.add (i * 7)).block, (a.add (i * 7)).off + 2, none⟩ = some (.int .i64 c) ∧ w.cell? ⟨(a.add (i * 7)).block, (a.add (i * 7)).off + 3, none⟩ = some (.int .i64 m) ∧ w.cell? ⟨(a.add (i * 7)).block, (a.add (i * 7)).off + 4, none⟩ = some (.int .i64 p1) ∧ w.cell? ⟨(a.add (i * 7)).block, (a.add (i * 7)).off + 5, none⟩ = some (.int .i64 p2) ∧ w.cell? ⟨(a.add (i * 7)).block, (a.add (i * 7)).off + 6, none⟩ = some (.int .i64 p3) ∧
  (-9223372036854775808 ≤ kd ∧ kd ≤ 9223372036854775807) ∧ (-9223372036854775808 ≤ r ∧ r ≤ 9223372036854775807) ∧ (-9223372036854775808 ≤ c ∧ c ≤ 9223372036854775807) ∧ (-9223372036854775808 ≤ m ∧ m ≤ 9223372036854775807) ∧ (-9223372036854775808 ≤ p1 ∧ p1 ≤ 9223372036854775807) ∧ (-9223372036854775808 ≤ p2 ∧ p2 ≤ 9223372036854775807) ∧ (-9223372036854775808 ≤ p3 ∧ p3 ≤ 9223372036854775807)
theorem open_asksE {H : Type} {enc : TypeId × Value → H} {w : World} {held : Bool} {A : Option Addr} {n c : Nat} {d : DataW H} {p : List MemPlace} (h : DataW.Trod enc Tryd.prog w 0 (fun _ => true) held 37 (.slice A n c) d p) : n ≤ maxLen ∧ QArgsE w A n := by
  obtain ⟨fuel, hf⟩ := h
  have hcA : Tryd.prog.cellsOf 41 = 7 := by kernel_rfl
  have hc1 : Tryd.prog.cellsOf 3 = 1 := by kernel_rfl
  have hc3 : Tryd.prog.cellsOf 39 = 3 := by kernel_rfl
  have hf : DataW.trod enc Tryd.prog w 0 (fun _ => true) held fuel 37 [.slice A n c] = some (d, p) := hf
  rcases open_slice Tryd.underlying37 hf with ⟨hcs, _⟩ | ⟨a, len, cap, m, n', D, Pl, hcs, _, hl, hm, hmm, _, hi⟩
  · simp only [List.cons.injEq, and_true] at hcs
    injection hcs with h1 h2 _
    subst h2
    exact ⟨Nat.zero_le _, fun i hi => by omega⟩
  · simp only [List.cons.injEq, and_true] at hcs
    injection hcs with h1 h2 h3
    subst h1 h2 h3
    refine ⟨Nat.le_trans hl hm, fun i hin => ?_⟩
    obtain ⟨cs', hc, ht'⟩ := hi i (by rw [hmm]; simp; omega)
    rw [hcA] at hc
    obtain ⟨_, hcl, hat⟩ := World.cells?_some hc
    obtain ⟨xs, n2, _, _, _, hlen, hg⟩ := DataW.trod_struct Tryd.underlying41 ht'
    obtain ⟨e0, e1, e2, e3, e4, e5, e6, rfl⟩ : ∃ e0 e1 e2 e3 e4 e5 e6, cs' = [e0, e1, e2, e3, e4, e5, e6] := by
      match cs', hcl with
      | [e0, e1, e2, e3, e4, e5, e6], _ => exact ⟨_, _, _, _, _, _, _, rfl⟩
    obtain ⟨x0, x1, x2, x3, x4, rfl⟩ : ∃ x0 x1 x2 x3 x4, xs = [x0, x1, x2, x3, x4] := by
      match xs, hlen with
      | [x0, x1, x2, x3, x4], _ => exact ⟨_, _, _, _, _, rfl⟩
    have g0 : DataW.trod enc Tryd.prog w 0 (fun _ => true) held n2 3 (([e0, e1, e2, e3, e4, e5, e6].drop 0).take (Tryd.prog.cellsOf 3)) = some x0 := hg 0 _ rfl
    rw [hc1] at g0
    have g0 : DataW.trod enc Tryd.prog w 0 (fun _ => true) held n2 3 [e0] = some x0 := g0
    have g1 : DataW.trod enc Tryd.prog w 0 (fun _ => true) held n2 3 (([e0, e1, e2, e3, e4, e5, e6].drop 1).take (Tryd.prog.cellsOf 3)) = some x1 := hg 1 _ rfl
    rw [hc1] at g1
    have g1 : DataW.trod enc Tryd.prog w 0 (fun _ => true) held n2 3 [e1] = some x1 := g1
    have g2 : DataW.trod enc Tryd.prog w 0 (fun _ => true) held n2 3 (([e0, e1, e2, e3, e4, e5, e6].drop 2).take (Tryd.prog.cellsOf 3)) = some x2 := hg 2 _ rfl
    rw [hc1] at g2
    have g2 : DataW.trod enc Tryd.prog w 0 (fun _ => true) held n2 3 [e2] = some x2 := g2
    have g3 : DataW.trod enc Tryd.prog w 0 (fun _ => true) held n2 3 (([e0, e1, e2, e3, e4, e5, e6].drop 3).take (Tryd.prog.cellsOf 3)) = some x3 := hg 3 _ rfl
    rw [hc1] at g3
    have g3 : DataW.trod enc Tryd.prog w 0 (fun _ => true) held n2 3 [e3] = some x3 := g3
    have g4 : DataW.trod enc Tryd.prog w 0 (fun _ => true) held n2 39 (([e0, e1, e2, e3, e4, e5, e6].drop 4).take (Tryd.prog.cellsOf 39)) = some x4 := hg 4 _ rfl
    rw [hc3] at g4
    have g4 : DataW.trod enc Tryd.prog w 0 (fun _ => true) held n2 39 [e4, e5, e6] = some x4 := g4
    obtain ⟨kd, rfl, b0⟩ := open_int_cellG Tryd.underlying3 g0
    obtain ⟨r, rfl, b1⟩ := open_int_cellG Tryd.underlying3 g1
    obtain ⟨c, rfl, b2⟩ := open_int_cellG Tryd.underlying3 g2
    obtain ⟨m', rfl, b3⟩ := open_int_cellG Tryd.underlying3 g3
    obtain ⟨n3, hp⟩ := fields_of_cells Tryd.underlying39 (by kernel_rfl) (by kernel_rfl) rfl g4
    obtain ⟨u5, y5, k5, t5⟩ := hp 0 _ rfl
    obtain ⟨u6, y6, k6, t6⟩ := hp 1 _ rfl
    obtain ⟨u7, y7, k7, t7⟩ := hp 2 _ rfl
    obtain ⟨p1, rfl, b4⟩ := open_int_cellG Tryd.underlying3 t5
    obtain ⟨p2, rfl, b5⟩ := open_int_cellG Tryd.underlying3 t6
    obtain ⟨p3, rfl, b6⟩ := open_int_cellG Tryd.underlying3 t7
    cases k5
    cases k6
    cases k7
    have c0 := hat 0 (by decide)
    have c1 := hat 1 (by decide)
    have c2 := hat 2 (by decide)
    have c3 := hat 3 (by decide)
    have c4 := hat 4 (by decide)
    have c5 := hat 5 (by decide)
    have c6 := hat 6 (by decide)
    rw [Go.Deep.add_add, ← Go.Deep.add_add, add_offE a _ _ (by decide)] at c1 c2 c3 c4 c5 c6
    have c0 : w.cell? (a.add (i * 7)) = some (.int .i64 kd) := c0
    have hb := World.block_lt_of_cell? w _ c0
    rw [addBlock] at hb
    exact ⟨a, kd, r, c, m', p1, p2, p3, rfl, by rw [addBlock]; exact hb, c0, c1, c2, c3, c4, c5, c6, bounds_i64 b0, bounds_i64 b1, bounds_i64 b2, bounds_i64 b3, bounds_i64 b4, bounds_i64 b5, bounds_i64 b6⟩
theorem QArgsE.below {w w' : World} {A : Option Addr} {n B : Nat} (h : QArgsE w A n) (hB : w.heap.size ≤ B) (b : Below B w w') : QArgsE w' A n := fun i hi => by
  obtain ⟨a, kd, r, c, m, p1, p2, p3, e, hb, c0, c1, c2, c3, c4, c5, c6, rest⟩ := h i hi
  have k : ∀ (q : Addr) (v : Value), q.block < w.heap.size → w.cell? q = some v → w'.cell? q = some v := fun q v hq hv => (b.cell (p := q) (by omega)).trans hv
  exact ⟨a, kd, r, c, m, p1, p2, p3, e, Nat.lt_of_lt_of_le hb b.size, k _ _ hb c0, k _ _ hb c1, k _ _ hb c2, k _ _ hb c3, k _ _ hb c4, k _ _ hb c5, k _ _ hb c6, rest⟩
end Go.Proofs.YtcbmjdacdjcggaaDoor
