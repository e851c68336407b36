/- An argument that is a slice of linguistkeep's Events, opened; SeqBack's contract as its row asks it. -/
import Derived.Test.YtnnjppgmadmmaaaDoorSeqBack
import Derived.Test.YtnnjppgmadmmaaaDoorOpenKeep
set_option maxRecDepth 100000
namespace Go.Proofs.YtnnjppgmadmmaaaDoor
open Go Go.Joins Go.ChangeShapes Go.WideShapes Go.RowKit Go.Deep
set_option linter.unusedVariables false
theorem add_off (a : Addr) (k j : Nat) (hj : j ≠ 0) : a.add (k + j) = ⟨(a.add k).block, (a.add k).off + j, none⟩ := by
  rw [← add_add]
  generalize a.add k = b
  simp [Addr.add, hj]
theorem open_keeps {H : Type} {enc : TypeId × Value → H} {w : World} {held : Bool} {A : Option Addr} {n c : Nat} {d : DataW H} {p : List MemPlace} (h : DataW.Trod enc Tryd.prog w 0 (fun _ => true) held 40 (.slice A n c) d p) : n ≤ maxLen ∧ KArgs w A n := by
  obtain ⟨fuel, hf⟩ := h
  obtain ⟨fs, hfs⟩ : ∃ fs, Tryd.prog.underlying 33 = some (.struct fs) := ⟨_, Tryd.underlying33⟩
  rcases open_slice_many (n := fuel) Tryd.underlying40 Tryd.underlying33 (by kernel_rfl) (by kernel_rfl) hf with h0 | ⟨a, len, cap, hv, hl, hm, hi⟩
  · injection h0 with h1 h2 _
    subst h2
    exact ⟨Nat.zero_le _, fun i hi => by omega⟩
  · injection hv with h1 h2 h3
    subst h1 h2 h3
    refine ⟨Nat.le_trans hl hm, fun i hin => ?_⟩
    obtain ⟨m, hj⟩ := hi i hin
    obtain ⟨u0, y0, c0, t0⟩ := hj 0 _ rfl
    obtain ⟨u1, y1, c1, t1⟩ := hj 1 _ rfl
    obtain ⟨u2, y2, c2, t2⟩ := hj 2 _ rfl
    obtain ⟨u3, y3, c3, t3⟩ := hj 3 _ rfl
    obtain ⟨u4, y4, c4, t4⟩ := hj 4 _ rfl
    obtain ⟨kd, rfl, w0⟩ := open_int_cell Tryd.underlying3 t0
    obtain ⟨rn, rfl, w1⟩ := open_int_cell Tryd.underlying3 t1
    obtain ⟨fn, rfl, w2⟩ := open_int_cell Tryd.underlying3 t2
    obtain ⟨Ap, np, cp, lp, rfl, ap⟩ := open_slice_cell (k := .i64) Tryd.underlying22 Tryd.underlying3 (by kernel_rfl) t3
    obtain ⟨At, nt, ct, lt, rfl, at_⟩ := open_slice_cell (k := .u8) Tryd.underlying26 Tryd.underlying5 (by kernel_rfl) t4
    have c0 : w.cell? (a.add (i * 5)) = some (.int .i64 kd) := c0
    have c1 : w.cell? (a.add (i * 5 + 1)) = some (.int .i64 rn) := c1
    have c2 : w.cell? (a.add (i * 5 + 2)) = some (.int .i64 fn) := c2
    have c3 : w.cell? (a.add (i * 5 + 3)) = some (.slice Ap np cp) := c3
    have c4 : w.cell? (a.add (i * 5 + 4)) = some (.slice At nt ct) := c4
    rw [add_off a _ _ (by omega)] at c1 c2 c3 c4
    have hb := World.block_lt_of_cell? w _ c0
    rw [addBlock] at hb
    exact ⟨a, kd, rn, fn, Ap, np, cp, lp, At, nt, ct, lt, rfl, hb, c0, c1, c2, c3, c4, bounds_i64 w0, bounds_i64 w1, bounds_i64 w2, ap, at_⟩
theorem seqBack_any (A0 : Option Addr) (n0 c0 : Nat) (kd rn fn : Int) (Ap At : Option Addr) (np cp nt ct : Nat) (lp lt : List Int) (kd' rn' fn' : Int) (Ap' At' : Option Addr) (np' cp' nt' ct' : Nat) (lp' lt' : List Int) (w : World) (hA : KArgs w A0 n0) (hn0 : n0 ≤ maxLen)
    (hk : -9223372036854775808 ≤ kd ∧ kd ≤ 9223372036854775807) (hr : -9223372036854775808 ≤ rn ∧ rn ≤ 9223372036854775807) (hf : -9223372036854775808 ≤ fn ∧ fn ≤ 9223372036854775807) (hP : Arg .i64 w Ap np cp lp) (hT : Arg .u8 w At nt ct lt)
    (hk' : -9223372036854775808 ≤ kd' ∧ kd' ≤ 9223372036854775807) (hr' : -9223372036854775808 ≤ rn' ∧ rn' ≤ 9223372036854775807) (hf' : -9223372036854775808 ≤ fn' ∧ fn' ≤ 9223372036854775807) (hP' : Arg .i64 w Ap' np' cp' lp') (hT' : Arg .u8 w At' nt' ct' lt') (ht : Tens w) (htab : Tabs w) :
    Calls Tryd.prog 5 #[.slice A0 n0 c0, .agg #[.int .i64 kd, .int .i64 rn, .int .i64 fn, .slice Ap np cp, .slice At nt ct], .agg #[.int .i64 kd', .int .i64 rn', .int .i64 fn', .slice Ap' np' cp', .slice At' nt' ct']] w fun e w' => e = .returned (.bool true) ∧ Below w.heap.size w w' :=
  seqBack_core A0 n0 c0 kd rn fn Ap At np cp nt ct lp lt kd' rn' fn' Ap' At' np' cp' nt' ct' lp' lt' w hA hn0 ⟨hk, hr, hf, hP, hT⟩ ⟨hk', hr', hf', hP', hT'⟩ ht htab
end Go.Proofs.YtnnjppgmadmmaaaDoor
