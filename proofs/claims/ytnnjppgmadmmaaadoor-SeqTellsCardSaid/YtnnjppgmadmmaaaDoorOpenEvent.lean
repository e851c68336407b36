/- An argument that is an api.Event, opened: its numbers, its parameters, its text. SeqTells' contract as its row asks it. -/
import Derived.Test.YtnnjppgmadmmaaaDoorSeqTells
import Derived.Test.YtnnjppgmadmmaaaDoorOpenKeep
set_option maxRecDepth 100000
namespace Go.Proofs.YtnnjppgmadmmaaaDoor
open Go Go.Joins Go.ChangeShapes Go.WideShapes Go.RowKit Go.Deep
set_option linter.unusedVariables false
/-- any bytes are some numbers' -/
theorem str_of (s : ByteArray) : ∃ t : List Int, strOfNums t = s ∧ (∀ x ∈ t, 0 ≤ x ∧ x < 256) ∧ t.length = s.size := by
  refine ⟨s.data.toList.map fun b => (b.toNat : Int), ?_, fun x hx => ?_, by rw [List.length_map]; rfl⟩
  · apply ByteArray.ext
    apply Array.ext'
    simp only [strOfNums, List.map_map]
    conv => rhs; rw [← List.map_id s.data.toList]
    refine List.map_congr_left fun b _ => ?_
    simp
  · obtain ⟨b, _, rfl⟩ := List.mem_map.1 hx
    have := b.toNat_lt
    omega
theorem open_event {H : Type} {enc : TypeId × Value → H} {w : World} {held : Bool} {r : Reach} {b0 : Nat} {v : Value} {d : DataW H} {p : List MemPlace} (hv : Value.okWide Tryd.prog w r b0 24 v) (h : DataW.Trod enc Tryd.prog w 0 (fun _ => true) held 24 v d p) :
    ∃ (kd rn pv it fn : Int) (Ap : Option Addr) (np cp : Nat) (lp t : List Int), v = .agg #[.int .i64 kd, .int .i32 rn, .int .u8 pv, .int .u8 it, .int .u8 fn, .slice Ap np cp, .string (strOfNums t)] ∧ (Lit.int .i64 kd).wf = true ∧ (Lit.int .i32 rn).wf = true ∧ (Lit.int .u8 fn).wf = true ∧ Arg .i64 w Ap np cp lp ∧ (∀ x ∈ t, 0 ≤ x ∧ x < 256) ∧ t.length ≤ maxLen := by
  obtain ⟨cs, n, rfl, hsz, hf⟩ := open_many Tryd.underlying24 (by kernel_rfl) (by kernel_rfl) hv h
  obtain ⟨u0, y0, h0, t0⟩ := hf 0 _ rfl
  obtain ⟨u1, y1, h1, t1⟩ := hf 1 _ rfl
  obtain ⟨u2, y2, h2, t2⟩ := hf 2 _ rfl
  obtain ⟨u3, y3, h3, t3⟩ := hf 3 _ rfl
  obtain ⟨u4, y4, h4, t4⟩ := hf 4 _ rfl
  obtain ⟨u5, y5, h5, t5⟩ := hf 5 _ rfl
  obtain ⟨u6, y6, h6, t6⟩ := hf 6 _ rfl
  obtain ⟨kd, rfl, w0⟩ := open_int_cell Tryd.underlying3 t0
  obtain ⟨rn, rfl, w1⟩ := open_int_cell Tryd.underlying21 t1
  obtain ⟨pv, rfl, w2⟩ := open_int_cell Tryd.underlying5 t2
  obtain ⟨it, rfl, w3⟩ := open_int_cell Tryd.underlying5 t3
  obtain ⟨fn, rfl, w4⟩ := open_int_cell Tryd.underlying5 t4
  obtain ⟨Ap, np, cp, lp, rfl, ap⟩ := open_slice_cell (k := .i64) Tryd.underlying22 Tryd.underlying3 (by kernel_rfl) t5
  obtain ⟨s, hs, _, hw⟩ := DataW.trod_string Tryd.underlying9 t6
  simp only [List.cons.injEq, and_true] at hs
  subst hs
  obtain ⟨t, rfl, hb, hl⟩ := str_of s
  have e : cs = #[.int .i64 kd, .int .i32 rn, .int .u8 pv, .int .u8 it, .int .u8 fn, .slice Ap np cp, .string (strOfNums t)] := by
    apply Array.ext_getElem?
    intro i
    by_cases hi : i < 7
    · obtain rfl | rfl | rfl | rfl | rfl | rfl | rfl : i = 0 ∨ i = 1 ∨ i = 2 ∨ i = 3 ∨ i = 4 ∨ i = 5 ∨ i = 6 := by omega
      · rw [h0]; rfl
      · rw [h1]; rfl
      · rw [h2]; rfl
      · rw [h3]; rfl
      · rw [h4]; rfl
      · rw [h5]; rfl
      · rw [h6]; rfl
    · rw [Array.getElem?_eq_none (by rw [hsz]; simpa using hi), Array.getElem?_eq_none (by simpa using hi)]
  exact ⟨kd, rn, pv, it, fn, Ap, np, cp, lp, t, by rw [e], w0, w1, w4, ap, hb, by rw [hl]; exact hw⟩
theorem seqTells_any (kd rn pv it fn : Int) (Ap : Option Addr) (np cp : Nat) (lp t : List Int) (kd' rn' fn' : Int) (Ap' At' : Option Addr) (np' cp' nt' ct' : Nat) (lp' lt' : List Int) (own : Bool) (w : World) (hkd : -9223372036854775808 ≤ kd ∧ kd ≤ 9223372036854775807) (hrn : (Lit.int .i32 rn).wf = true) (hfn : (Lit.int .u8 fn).wf = true) (hP : Arg .i64 w Ap np cp lp) (htx : ∀ x ∈ t, 0 ≤ x ∧ x < 256) (htl : t.length ≤ maxLen)
    (hk' : -9223372036854775808 ≤ kd' ∧ kd' ≤ 9223372036854775807) (hr' : -9223372036854775808 ≤ rn' ∧ rn' ≤ 9223372036854775807) (hf' : -9223372036854775808 ≤ fn' ∧ fn' ≤ 9223372036854775807) (hP' : Arg .i64 w Ap' np' cp' lp') (hT' : Arg .u8 w At' nt' ct' lt') (ht : Tens w) :
    Calls Tryd.prog 4 #[.agg #[.int .i64 kd, .int .i32 rn, .int .u8 pv, .int .u8 it, .int .u8 fn, .slice Ap np cp, .string (strOfNums t)], .agg #[.int .i64 kd', .int .i64 rn', .int .i64 fn', .slice Ap' np' cp', .slice At' nt' ct'], .bool own] w fun e w' => e = .returned (.bool true) ∧ Below w.heap.size w w' :=
  seqTells_core kd rn pv it fn Ap np cp lp t kd' rn' fn' Ap' At' np' cp' nt' ct' lp' lt' own w hkd (bounds_i32 hrn) (by have := bounds_u8 hfn; omega) hP htx htl hk' hr' hf' hP' hT' ht
end Go.Proofs.YtnnjppgmadmmaaaDoor
