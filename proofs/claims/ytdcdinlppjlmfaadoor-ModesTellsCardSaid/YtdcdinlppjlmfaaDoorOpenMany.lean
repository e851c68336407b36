/- Arguments by value, opened: a struct of any number of one-cell fields; a field that is a slice of numbers. Names no function of a program. An argument that is linguistkeep's Grid, opened: two numbers, two slices of numbers. An argument that is linguistkeep's Screen, opened: its grid (two numbers, two slices of numbers), five numbers, its pen, its stops. -/
import Derived.Test.YtdcdinlppjlmfaaDoorLib
import Derived.Deep.Slices
import Derived.Deep.Fields
import Derived.ChangeSame
import Derived.OpenShut
import Derived.Lib.SmallJoins
import Derived.Test.YtdcdinlppjlmfaaDoorRows
namespace Go.Proofs.YtdcdinlppjlmfaaDoor
open Go Go.Joins Go.ChangeShapes Go.WideShapes Go.RowKit Go.Deep
set_option linter.unusedVariables false
section
variable {H : Type} {enc : TypeId × Value → H} {P : Program} {w : World} {base : Nat} {spare : Nat → Bool} {held : Bool}
/-- a struct by value: its cells are its fields, each of which reads by itself -/
theorem open_many {r : Reach} {b0 : Nat} {t : TypeId} {fs : Array Field} {v : Value} {d : DataW H} {p : List MemPlace} (hs : P.underlying t = some (.struct fs)) (hone : oneCellFields P fs = true) (hC : P.cellsOf t = fs.size)
    (hv : Value.okWide P w r b0 t v) (h : DataW.Trod enc P w base spare held t v d p) :
    ∃ (cs : Array Value) (n : Nat), v = .agg cs ∧ cs.size = fs.size ∧ ∀ (j : Nat) (f : Field), fs[j]? = some f → ∃ (u : Value) (y : DataW H × List MemPlace), cs[j]? = some u ∧ DataW.trod enc P w base spare held n f.type [u] = some y := by
  obtain ⟨cs, rfl, hsz⟩ := okWide_struct hs hv
  have hsz' : cs.size = fs.size := hsz.trans hC
  obtain ⟨fuel, hf⟩ := h
  obtain ⟨xs, n, _, hx, _, hlen, hg⟩ := DataW.trod_struct hs hf
  refine ⟨cs, n, rfl, hsz', fun j f hj => ?_⟩
  obtain ⟨o, k⟩ := hone_of hone j f hj
  have hjl : j < fs.size := (Array.getElem?_eq_some_iff.1 hj).1
  have hg' := hg j f hj
  rw [o, k] at hg'
  have hl : j < cs.toList.length := by simpa using hsz' ▸ hjl
  have hd : ((Value.agg cs).cells.toList.drop j).take 1 = [cs.toList[j]] := by
    show (cs.toList.drop j).take 1 = _
    rw [List.drop_eq_getElem_cons hl]
    rfl
  rw [hd] at hg'
  have hxl : j < xs.length := by omega
  refine ⟨cs.toList[j], xs[j], ?_, ?_⟩
  · rw [← Array.getElem?_toList]
    exact List.getElem?_eq_getElem hl
  · rw [hg']
    exact List.getElem?_eq_getElem hxl
/-- a cell that reads as a slice of numbers -/
theorem open_slice_cell {k : IntKind} {t e : TypeId} {n : Nat} {u : Value} {y : DataW H × List MemPlace} (ht : P.underlying t = some (.slice e)) (he : P.underlying e = some (.int k)) (hc : P.cellsOf e = 1) (h : DataW.trod enc P w 0 (fun _ => true) held n t [u] = some y) :
    ∃ A m c l, u = .slice A m c ∧ Arg k w A m c l := by
  rcases open_ints ht he hc h with ⟨hcs, _⟩ | ⟨x, l, c, zs, hcs, _, hl, hm, hz, _, hcell, hwz⟩
  · simp only [List.cons.injEq, and_true] at hcs
    exact ⟨none, 0, 0, [], hcs, Arg.none _ _⟩
  · simp only [List.cons.injEq, and_true] at hcs
    exact ⟨some x, l, c, zs.take l, hcs, Arg.some_ hl hm (by simpa using hz) hcell hwz⟩
/-- a list of cells that reads as a struct: each cell is a field, which reads by itself -/
theorem fields_of_cells {e : TypeId} {fs : Array Field} {fuel : Nat} {cs : List Value} {x : DataW H × List MemPlace} (hs : P.underlying e = some (.struct fs)) (hone : oneCellFields P fs = true) (hC : P.cellsOf e = fs.size) (hl : cs.length = fs.size)
    (h : DataW.trod enc P w base spare held fuel e cs = some x) : ∃ n, ∀ (j : Nat) (f : Field), fs[j]? = some f → ∃ (u : Value) (y : DataW H × List MemPlace), cs[j]? = some u ∧ DataW.trod enc P w base spare held n f.type [u] = some y := by
  obtain ⟨xs, n, _, _, _, hlen, hg⟩ := DataW.trod_struct hs h
  refine ⟨n, fun j f hj => ?_⟩
  obtain ⟨o, k⟩ := hone_of hone j f hj
  have hjl : j < fs.size := (Array.getElem?_eq_some_iff.1 hj).1
  have hg' := hg j f hj
  rw [o, k] at hg'
  have hcl : j < cs.length := by omega
  have hxl : j < xs.length := by omega
  have hd : (cs.drop j).take 1 = [cs[j]] := by
    rw [List.drop_eq_getElem_cons hcl]
    rfl
  rw [hd] at hg'
  exact ⟨cs[j], xs[j], List.getElem?_eq_getElem hcl, hg'.trans (List.getElem?_eq_getElem hxl)⟩
/-- a cell that reads as a slice of structs -/
theorem open_slice_many {t e : TypeId} {fs : Array Field} {n : Nat} {u : Value} {y : DataW H × List MemPlace} (ht : P.underlying t = some (.slice e)) (he : P.underlying e = some (.struct fs)) (hone : oneCellFields P fs = true) (hC : P.cellsOf e = fs.size)
    (h : DataW.trod enc P w 0 (fun _ => true) held n t [u] = some y) :
    u = .slice none 0 0 ∨ ∃ (a : Addr) (len cap : Nat), u = .slice (some a) len cap ∧ len ≤ cap ∧ cap ≤ maxLen ∧
      ∀ i, i < len → ∃ n, ∀ (j : Nat) (f : Field), fs[j]? = some f → ∃ (v : Value) (y : DataW H × List MemPlace), w.cell? (a.add (i * fs.size + j)) = some v ∧ DataW.trod enc P w 0 (fun _ => true) held n f.type [v] = some y := by
  rcases open_slice ht h with ⟨hcs, _⟩ | ⟨a, len, cap, m, n', D, Pl, hcs, _, hl, hm, hmm, _, hi⟩
  · simp only [List.cons.injEq, and_true] at hcs
    exact .inl hcs
  · simp only [List.cons.injEq, and_true] at hcs
    refine .inr ⟨a, len, cap, hcs, hl, hm, fun i hil => ?_⟩
    obtain ⟨cs', hc, ht'⟩ := hi i (by rw [hmm]; simp; omega)
    rw [hC] at hc
    obtain ⟨_, hcl, hat⟩ := World.cells?_some hc
    obtain ⟨n2, hf⟩ := fields_of_cells he hone hC hcl ht'
    refine ⟨n2, fun j f hj => ?_⟩
    obtain ⟨v, y', hv, hy⟩ := hf j f hj
    have hjl : j < fs.size := (Array.getElem?_eq_some_iff.1 hj).1
    have := hat j hjl
    rw [hv, Go.Deep.add_add] at this
    exact ⟨v, y', this, hy⟩
end
end Go.Proofs.YtdcdinlppjlmfaaDoor
set_option maxRecDepth 100000
namespace Go.Proofs.YtdcdinlppjlmfaaDoor
open Go Go.Joins Go.ChangeShapes Go.WideShapes Go.RowKit Go.Deep
set_option linter.unusedVariables false
section
variable {H : Type} {enc : TypeId × Value → H} {w : World} {held : Bool}
theorem open_int_cellG {P : Program} {k : IntKind} {t : TypeId} {n : Nat} {u : Value} {y : DataW H × List MemPlace} (he : P.underlying t = some (.int k)) (h : DataW.trod enc P w 0 (fun _ => true) held n t [u] = some y) :
    ∃ z, u = .int k z ∧ (Lit.int k z).wf = true := by
  obtain ⟨z, hc, _, hw⟩ := DataW.trod_int he h
  simp only [List.cons.injEq, and_true] at hc
  exact ⟨z, hc, by first | exact hw | exact hw.1 | simpa using hw⟩
theorem open_keepGrid {r : Reach} {b0 : Nat} {v : Value} {d : DataW H} {p : List MemPlace} (hv : Value.okWide Tryd.prog w r b0 41 v) (h : DataW.Trod enc Tryd.prog w 0 (fun _ => true) held 41 v d p) :
    ∃ (rw cl : Int) (Ap : Option Addr) (np cp : Nat) (lp : List Int) (At : Option Addr) (nt ct : Nat) (lt : List Int), v = .agg #[.int .i64 rw, .int .i64 cl, .slice Ap np cp, .slice At nt ct] ∧ (Lit.int .i64 rw).wf = true ∧ (Lit.int .i64 cl).wf = true ∧ Arg .i64 w Ap np cp lp ∧ Arg .i64 w At nt ct lt := by
  obtain ⟨cs, n, rfl, hsz, hf⟩ := open_many Tryd.underlying41 (by kernel_rfl) (by kernel_rfl) hv h
  obtain ⟨u0, y0, h0, t0⟩ := hf 0 _ rfl
  obtain ⟨u1, y1, h1, t1⟩ := hf 1 _ rfl
  obtain ⟨u2, y2, h2, t2⟩ := hf 2 _ rfl
  obtain ⟨u3, y3, h3, t3⟩ := hf 3 _ rfl
  obtain ⟨rw, rfl, w0⟩ := open_int_cellG Tryd.underlying3 t0
  obtain ⟨cl, rfl, w1⟩ := open_int_cellG Tryd.underlying3 t1
  obtain ⟨Ap, np, cp, lp, rfl, ap⟩ := open_slice_cell (k := .i64) Tryd.underlying37 Tryd.underlying3 (by kernel_rfl) t2
  obtain ⟨At, nt, ct, lt, rfl, at_⟩ := open_slice_cell (k := .i64) Tryd.underlying37 Tryd.underlying3 (by kernel_rfl) t3
  have e : cs = #[.int .i64 rw, .int .i64 cl, .slice Ap np cp, .slice At nt ct] := by
    apply Array.ext_getElem?
    intro i
    by_cases hi : i < 4
    · obtain rfl | rfl | rfl | rfl : i = 0 ∨ i = 1 ∨ i = 2 ∨ i = 3 := by omega
      · rw [h0]; rfl
      · rw [h1]; rfl
      · rw [h2]; rfl
      · rw [h3]; rfl
    · rw [Array.getElem?_eq_none (by rw [hsz]; simpa using hi), Array.getElem?_eq_none (by simpa using hi)]
  exact ⟨rw, cl, Ap, np, cp, lp, At, nt, ct, lt, by rw [e], w0, w1, ap, at_⟩
end
end Go.Proofs.YtdcdinlppjlmfaaDoor
set_option maxRecDepth 100000
namespace Go.Proofs.YtdcdinlppjlmfaaDoor
open Go Go.Joins Go.ChangeShapes Go.WideShapes Go.RowKit Go.Deep
set_option linter.unusedVariables false
section
variable {H : Type} {enc : TypeId × Value → H} {w : World} {held : Bool}
/-- a struct by value, whose fields may have many cells: each field reads by itself -/
theorem open_parts {P : Program} {r : Reach} {b0 : Nat} {t : TypeId} {fs : Array Field} {v : Value} {d : DataW H} {p : List MemPlace} (hs : P.underlying t = some (.struct fs)) (hv : Value.okWide P w r b0 t v) (h : DataW.Trod enc P w 0 (fun _ => true) held t v d p) :
    ∃ (cs : Array Value) (n : Nat), v = .agg cs ∧ cs.size = P.cellsOf t ∧ ∀ (j : Nat) (f : Field), fs[j]? = some f → ∀ k, P.cellsOf f.type = k → ∃ (y : DataW H × List MemPlace), DataW.trod enc P w 0 (fun _ => true) held n f.type ((cs.toList.drop f.offset).take k) = some y := by
  obtain ⟨cs, rfl, hsz⟩ := okWide_struct hs hv
  obtain ⟨fuel, hf⟩ := h
  obtain ⟨xs, n, _, hx, _, hlen, hg⟩ := DataW.trod_struct hs hf
  refine ⟨cs, n, rfl, hsz, fun j f hj k hk => ?_⟩
  subst hk
  have hjl : j < fs.size := (Array.getElem?_eq_some_iff.1 hj).1
  have hxl : j < xs.length := by omega
  exact ⟨xs[j], (hg j f hj).trans (List.getElem?_eq_getElem hxl)⟩
/-- a list of cells that reads as a struct whose fields may have many cells -/
theorem parts_of {P : Program} {t : TypeId} {fs : Array Field} {fuel : Nat} {cs : List Value} {x : DataW H × List MemPlace} (hs : P.underlying t = some (.struct fs)) (h : DataW.trod enc P w 0 (fun _ => true) held fuel t cs = some x) :
    ∃ (n : Nat), cs.length = P.cellsOf t ∧ ∀ (j : Nat) (f : Field), fs[j]? = some f → ∀ k, P.cellsOf f.type = k → ∃ (y : DataW H × List MemPlace), DataW.trod enc P w 0 (fun _ => true) held n f.type ((cs.drop f.offset).take k) = some y := by
  obtain ⟨xs, n, _, hx, hl, hlen, hg⟩ := DataW.trod_struct hs h
  refine ⟨n, hl, fun j f hj k hk => ?_⟩
  subst hk
  have hjl : j < fs.size := (Array.getElem?_eq_some_iff.1 hj).1
  have hxl : j < xs.length := by omega
  exact ⟨xs[j], (hg j f hj).trans (List.getElem?_eq_getElem hxl)⟩
theorem open_keepScreen {r : Reach} {b0 : Nat} {v : Value} {d : DataW H} {p : List MemPlace} (hv : Value.okWide Tryd.prog w r b0 44 v) (h : DataW.Trod enc Tryd.prog w 0 (fun _ => true) held 44 v d p) :
    ∃ (rw cl : Int) (Ap : Option Addr) (np cp : Nat) (lp : List Int) (At : Option Addr) (nt ct : Nat) (lt : List Int) (a b c d e p0 p1 p2 u : Int),
      v = .agg #[.int .i64 rw, .int .i64 cl, .slice Ap np cp, .slice At nt ct, .int .i64 a, .int .i64 b, .int .i64 c, .int .i64 d, .int .i64 e, .int .i64 p0, .int .i64 p1, .int .i64 p2, .int .u64 u] ∧
      (Lit.int .i64 rw).wf = true ∧ (Lit.int .i64 cl).wf = true ∧ Arg .i64 w Ap np cp lp ∧ Arg .i64 w At nt ct lt ∧ (Lit.int .i64 a).wf = true ∧ (Lit.int .i64 b).wf = true ∧ (Lit.int .i64 c).wf = true ∧ (Lit.int .i64 d).wf = true ∧ (Lit.int .i64 e).wf = true ∧
      (Lit.int .i64 p0).wf = true ∧ (Lit.int .i64 p1).wf = true ∧ (Lit.int .i64 p2).wf = true ∧ (Lit.int .u64 u).wf = true := by
  obtain ⟨⟨l⟩, n, rfl, hsz, hf⟩ := open_parts Tryd.underlying44 hv h
  have hl : l.length = 13 := hsz.trans (by kernel_rfl)
  obtain ⟨k0, k1, k2, k3, k4, k5, k6, k7, k8, k9, k10, k11, k12, rfl⟩ : ∃ k0 k1 k2 k3 k4 k5 k6 k7 k8 k9 k10 k11 k12, l = [k0, k1, k2, k3, k4, k5, k6, k7, k8, k9, k10, k11, k12] := by
    match l, hl with
    | [k0, k1, k2, k3, k4, k5, k6, k7, k8, k9, k10, k11, k12], _ => exact ⟨k0, k1, k2, k3, k4, k5, k6, k7, k8, k9, k10, k11, k12, rfl⟩
  obtain ⟨yg, tg⟩ : ∃ y, DataW.trod enc Tryd.prog w 0 (fun _ => true) held n 41 [k0, k1, k2, k3] = some y := hf 0 _ rfl 4 (by kernel_rfl)
  obtain ⟨y1, t1⟩ : ∃ y, DataW.trod enc Tryd.prog w 0 (fun _ => true) held n 3 [k4] = some y := hf 1 _ rfl 1 (by kernel_rfl)
  obtain ⟨y2, t2⟩ : ∃ y, DataW.trod enc Tryd.prog w 0 (fun _ => true) held n 3 [k5] = some y := hf 2 _ rfl 1 (by kernel_rfl)
  obtain ⟨y3, t3⟩ : ∃ y, DataW.trod enc Tryd.prog w 0 (fun _ => true) held n 3 [k6] = some y := hf 3 _ rfl 1 (by kernel_rfl)
  obtain ⟨y4, t4⟩ : ∃ y, DataW.trod enc Tryd.prog w 0 (fun _ => true) held n 3 [k7] = some y := hf 4 _ rfl 1 (by kernel_rfl)
  obtain ⟨y5, t5⟩ : ∃ y, DataW.trod enc Tryd.prog w 0 (fun _ => true) held n 3 [k8] = some y := hf 5 _ rfl 1 (by kernel_rfl)
  obtain ⟨yp, tp⟩ : ∃ y, DataW.trod enc Tryd.prog w 0 (fun _ => true) held n 42 [k9, k10, k11] = some y := hf 6 _ rfl 3 (by kernel_rfl)
  obtain ⟨y7, t7⟩ : ∃ y, DataW.trod enc Tryd.prog w 0 (fun _ => true) held n 27 [k12] = some y := hf 7 _ rfl 1 (by kernel_rfl)
  obtain ⟨ng, _, hg⟩ := parts_of Tryd.underlying41 tg
  obtain ⟨nq, _, hp⟩ := parts_of Tryd.underlying42 tp
  obtain ⟨g0, s0⟩ : ∃ y, DataW.trod enc Tryd.prog w 0 (fun _ => true) held ng 3 [k0] = some y := hg 0 _ rfl 1 (by kernel_rfl)
  obtain ⟨g1, s1⟩ : ∃ y, DataW.trod enc Tryd.prog w 0 (fun _ => true) held ng 3 [k1] = some y := hg 1 _ rfl 1 (by kernel_rfl)
  obtain ⟨g2, s2⟩ : ∃ y, DataW.trod enc Tryd.prog w 0 (fun _ => true) held ng 37 [k2] = some y := hg 2 _ rfl 1 (by kernel_rfl)
  obtain ⟨g3, s3⟩ : ∃ y, DataW.trod enc Tryd.prog w 0 (fun _ => true) held ng 37 [k3] = some y := hg 3 _ rfl 1 (by kernel_rfl)
  obtain ⟨q0, r0⟩ : ∃ y, DataW.trod enc Tryd.prog w 0 (fun _ => true) held nq 3 [k9] = some y := hp 0 _ rfl 1 (by kernel_rfl)
  obtain ⟨q1, r1⟩ : ∃ y, DataW.trod enc Tryd.prog w 0 (fun _ => true) held nq 3 [k10] = some y := hp 1 _ rfl 1 (by kernel_rfl)
  obtain ⟨q2, r2⟩ : ∃ y, DataW.trod enc Tryd.prog w 0 (fun _ => true) held nq 3 [k11] = some y := hp 2 _ rfl 1 (by kernel_rfl)
  obtain ⟨rw, rfl, w0⟩ := open_int_cellG Tryd.underlying3 s0
  obtain ⟨cl, rfl, w1⟩ := open_int_cellG Tryd.underlying3 s1
  obtain ⟨Ap, np, cp, lp, rfl, ap⟩ := open_slice_cell (k := .i64) Tryd.underlying37 Tryd.underlying3 (by kernel_rfl) s2
  obtain ⟨At, nt, ct, lt, rfl, at_⟩ := open_slice_cell (k := .i64) Tryd.underlying37 Tryd.underlying3 (by kernel_rfl) s3
  obtain ⟨a, rfl, wa⟩ := open_int_cellG Tryd.underlying3 t1
  obtain ⟨b, rfl, wb⟩ := open_int_cellG Tryd.underlying3 t2
  obtain ⟨c, rfl, wc⟩ := open_int_cellG Tryd.underlying3 t3
  obtain ⟨d', rfl, wd⟩ := open_int_cellG Tryd.underlying3 t4
  obtain ⟨e, rfl, we⟩ := open_int_cellG Tryd.underlying3 t5
  obtain ⟨p0, rfl, wp0⟩ := open_int_cellG Tryd.underlying3 r0
  obtain ⟨p1, rfl, wp1⟩ := open_int_cellG Tryd.underlying3 r1
  obtain ⟨p2, rfl, wp2⟩ := open_int_cellG Tryd.underlying3 r2
  obtain ⟨u, rfl, wu⟩ := open_int_cellG Tryd.underlying27 t7
  exact ⟨rw, cl, Ap, np, cp, lp, At, nt, ct, lt, a, b, c, d', e, p0, p1, p2, u, rfl, w0, w1, ap, at_, wa, wb, wc, wd, we, wp0, wp1, wp2, wu⟩
end
end Go.Proofs.YtdcdinlppjlmfaaDoor
