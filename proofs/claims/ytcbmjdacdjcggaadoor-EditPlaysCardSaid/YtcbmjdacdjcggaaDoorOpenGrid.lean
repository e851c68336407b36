/- An argument that is linguistkeep's Grid, opened: two numbers, two slices of numbers. -/
import Derived.Test.YtcbmjdacdjcggaaDoorOpenMany
import Derived.Test.YtcbmjdacdjcggaaDoorRows
set_option maxRecDepth 100000
namespace Go.Proofs.YtcbmjdacdjcggaaDoor
open Go Go.Joins Go.ChangeShapes Go.WideShapes Go.RowKit Go.Deep
set_option linter.unusedVariables false
section
variable {H : Type} {enc : TypeId × Value → H} {w : World} {held : Bool}
theorem open_int_cellG {P : Program} {k : IntKind} {t : TypeId} {n : Nat} {u : Value} {y : DataW H × List MemPlace} (he : P.underlying t = some (.int k)) (h : DataW.trod enc P w 0 (fun _ => true) held n t [u] = some y) :
    ∃ z, u = .int k z ∧ (Lit.int k z).wf = true := by
  obtain ⟨z, hc, _, hw⟩ := DataW.trod_int he h
  simp only [List.cons.injEq, and_true] at hc
  exact ⟨z, hc, by first | exact hw | exact hw.1 | simpa using hw⟩
theorem open_keepGrid {r : Reach} {b0 : Nat} {v : Value} {d : DataW H} {p : List MemPlace} (hv : Value.okWide Tryd.prog w r b0 36 v) (h : DataW.Trod enc Tryd.prog w 0 (fun _ => true) held 36 v d p) :
    ∃ (rw cl : Int) (Ap : Option Addr) (np cp : Nat) (lp : List Int) (At : Option Addr) (nt ct : Nat) (lt : List Int), v = .agg #[.int .i64 rw, .int .i64 cl, .slice Ap np cp, .slice At nt ct] ∧ (Lit.int .i64 rw).wf = true ∧ (Lit.int .i64 cl).wf = true ∧ Arg .i64 w Ap np cp lp ∧ Arg .i64 w At nt ct lt := by
  obtain ⟨cs, n, rfl, hsz, hf⟩ := open_many Tryd.underlying36 (by kernel_rfl) (by kernel_rfl) hv h
  obtain ⟨u0, y0, h0, t0⟩ := hf 0 _ rfl
  obtain ⟨u1, y1, h1, t1⟩ := hf 1 _ rfl
  obtain ⟨u2, y2, h2, t2⟩ := hf 2 _ rfl
  obtain ⟨u3, y3, h3, t3⟩ := hf 3 _ rfl
  obtain ⟨rw, rfl, w0⟩ := open_int_cellG Tryd.underlying3 t0
  obtain ⟨cl, rfl, w1⟩ := open_int_cellG Tryd.underlying3 t1
  obtain ⟨Ap, np, cp, lp, rfl, ap⟩ := open_slice_cell (k := .i64) Tryd.underlying34 Tryd.underlying3 (by kernel_rfl) t2
  obtain ⟨At, nt, ct, lt, rfl, at_⟩ := open_slice_cell (k := .i64) Tryd.underlying34 Tryd.underlying3 (by kernel_rfl) t3
  have e : cs = #[.int .i64 rw, .int .i64 cl, .slice Ap np cp, .slice At nt ct] := by
    apply Array.ext_getElem?
    intro i
    by_cases hi : i < 4
    · obtain rfl | rfl | rfl | rfl : i = 0 ∨ i = 1 ∨ i = 2 ∨ i = 3 := by omega
      · rw [h0]; rfl
      · rw [h1]; rfl
      · rw [h2]; rfl
      · rw [h3]; rfl
    · rw [Array.getElem?_eq_none (by rw [hsz]; simpa using hi), Array.getElem?_eq_none (by simpa using hi)]
  exact ⟨rw, cl, Ap, np, cp, lp, At, nt, ct, lt, by rw [e], w0, w1, ap, at_⟩
end
end Go.Proofs.YtcbmjdacdjcggaaDoor
