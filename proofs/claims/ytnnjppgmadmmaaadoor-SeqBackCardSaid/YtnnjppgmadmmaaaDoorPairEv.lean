/- x, y := f(..), g(..), where both give events: two calls, two new blocks, two stores, in any order. -/
import Derived.Test.YtnnjppgmadmmaaaDoorAnyOrder
import Derived.Test.YtnnjppgmadmmaaaDoorKeepEvent
import Derived.Test.YtnnjppgmadmmaaaDoorSeqBox
set_option maxRecDepth 100000
namespace Go.Proofs.YtnnjppgmadmmaaaDoor
open Go.RowKit
set_option linter.unusedVariables false
/-- an event's parameters don't lie in this block -/
def Clear (p : PA.Ev × Value) (row : Option Nat) : Prop := 0 < p.1.params.length → ∀ ad n c, p.2 = .slice (some ad) n c → row ≠ some ad.block
theorem ParIn.grown {w w' : World} {p : PA.Ev × Value} {row : Option Nat} (h : ParIn w p) (hg : w.grownBy w' row) (hc : Clear p row) : ParIn w' p := by
  obtain ⟨Ap, cp, h1, h2, h3⟩ := h
  refine ⟨Ap, cp, h1, ⟨h2.1, fun j u hu => ?_⟩, h3⟩
  obtain ⟨ad, ha, hl, hcell⟩ := h2.2 j u hu
  have hj : j < (i64s p.1.params).length := (List.getElem?_eq_some_iff.1 hu).1
  have hne : row ≠ some ad.block := hc (by simp [i64s] at hj; omega) ad _ _ (by rw [h1, ha])
  exact ⟨ad, ha, Nat.lt_of_lt_of_le hl hg.size, (World.cell?_of_block (w := w) (by rw [addBlock]; exact hg.block _ hl hne.symm)).trans hcell⟩
/-- where an event's parameters lie was there already -/
theorem ParIn.old {w : World} {p : PA.Ev × Value} (h : ParIn w p) {g : Nat} (hg : w.heap.size ≤ g) : Clear p (some g) := fun h0 ad n c hp e => by
  obtain ⟨Ap, cp, h1, h2, h3⟩ := h
  obtain ⟨x, hx⟩ : ∃ x, (i64s p.1.params)[0]? = some x := ⟨_, List.getElem?_eq_getElem (by simpa [i64s] using h0)⟩
  obtain ⟨ad', ha, hl, _⟩ := h2.2 0 x hx
  rw [hp] at h1
  injection h1 with e1 _ _
  rw [ha] at e1
  injection e1 with e1
  subst e1
  injection e with e
  omega
theorem Clear.moved {w w' : World} {p : PA.Ev × Value} {v v' : Value} (h : Clear p v.ownBlock) (hp : ParIn w p) (hm : Moved w v v') : Clear p v'.ownBlock := by
  rcases hm with hm | ⟨g, hm, hg⟩
  · rw [hm]; exact h
  · rw [hm]; exact hp.old hg
theorem ParIn.setCell {w : World} {p : PA.Ev × Value} {g o : Nat} (h : ParIn w p) (hc : Clear p (some g)) (u : Value) : ParIn (w.setCell ⟨g, o, none⟩ u) p :=
  h.grown (row := some g) ⟨rfl, rfl, rfl, by simp [World.setCell], fun k hk hne => Below.heap_setCell w _ u k (fun e => hne (by rw [e]))⟩ hc
/-- an event by value -/
def evV (X : PA.Ev) (u : Value) : Value := .agg (ecells X u).toArray
/-- parameters that are new since w0 -/
def Fresh (w0 : World) (v : Value) : Prop := ∀ ad n c, v = .slice (some ad) n c → w0.heap.size ≤ ad.block
structure PairJ (X Y : PA.Ev) (ax ay : Value) (w0 : World) (L : Nat → Bool) (u : Nat → Value) (w : World) : Prop where
  below : Below w0.heap.size w0 w
  l0 : L 0 = true → u 0 = ax
  l2 : L 2 = true → u 2 = ay
  c1 : L 1 = true → ∃ v, u 1 = evV X v ∧ ParIn w (X, v) ∧ Fresh w0 v
  c3 : L 3 = true → ∃ v, u 3 = evV Y v ∧ ParIn w (Y, v) ∧ Fresh w0 v
  a4 : L 4 = true → ∃ g cs, u 4 = .pointer (some ⟨g, 0, none⟩) ∧ w0.heap.size ≤ g ∧ Box w g 24 cs ∧ cs.size = 7
  a5 : L 5 = true → ∃ g cs, u 5 = .pointer (some ⟨g, 0, none⟩) ∧ w0.heap.size ≤ g ∧ Box w g 24 cs ∧ cs.size = 7
  ne : L 4 = true → L 5 = true → u 4 ≠ u 5
  n14 : L 1 = true → L 4 = true → ∀ v g, u 1 = evV X v → u 4 = .pointer (some ⟨g, 0, none⟩) → Clear (X, v) (some g)
  n15 : L 1 = true → L 5 = true → ∀ v g, u 1 = evV X v → u 5 = .pointer (some ⟨g, 0, none⟩) → Clear (X, v) (some g)
  n34 : L 3 = true → L 4 = true → ∀ v g, u 3 = evV Y v → u 4 = .pointer (some ⟨g, 0, none⟩) → Clear (Y, v) (some g)
  n35 : L 3 = true → L 5 = true → ∀ v g, u 3 = evV Y v → u 5 = .pointer (some ⟨g, 0, none⟩) → Clear (Y, v) (some g)
  s6 : L 6 = true → L 4 = true ∧ L 1 = true ∧ ∃ g v, u 4 = .pointer (some ⟨g, 0, none⟩) ∧ u 1 = evV X v ∧ Box w g 24 (ecells X v).toArray
  s7 : L 7 = true → L 5 = true ∧ L 3 = true ∧ ∃ g v, u 5 = .pointer (some ⟨g, 0, none⟩) ∧ u 3 = evV Y v ∧ Box w g 24 (ecells Y v).toArray
theorem evV_inj {X : PA.Ev} {v v' : Value} (h : evV X v = evV X v') : v = v' := by
  unfold evV ecells at h
  simpa using h
theorem PairJ.same {X Y : PA.Ev} {ax ay : Value} {w0 w : World} {L : Nat → Bool} {u u' : Nat → Value} (h : PairJ X Y ax ay w0 L u w) (he : ∀ j, j < 8 → u j = u' j) : PairJ X Y ax ay w0 L u' w := by
  obtain ⟨h1, h2, h3, h4, h5, h6, h7, h8, h9, h10, h11, h12, h13, h14⟩ := h
  constructor <;> (try simp only [← he 0 (by omega), ← he 1 (by omega), ← he 2 (by omega), ← he 3 (by omega), ← he 4 (by omega), ← he 5 (by omega)]) <;> assumption
/-- what a call or a read leaves -/
theorem PairJ.step {X Y : PA.Ev} {ax ay : Value} {w0 w w' : World} {L : Nat → Bool} {u : Nat → Value} (h : PairJ X Y ax ay w0 L u w) (b : Below w.heap.size w w') : PairJ X Y ax ay w0 L u w' where
  below := h.below.trans (b.mono h.below.size)
  l0 := h.l0
  l2 := h.l2
  c1 := fun e => let ⟨v, h1, h2, h3⟩ := h.c1 e; ⟨v, h1, h2.below b, h3⟩
  c3 := fun e => let ⟨v, h1, h2, h3⟩ := h.c3 e; ⟨v, h1, h2.below b, h3⟩
  a4 := fun e => let ⟨g, cs, h1, h2, h3, h4⟩ := h.a4 e; ⟨g, cs, h1, h2, h3.below b h3.lt, h4⟩
  a5 := fun e => let ⟨g, cs, h1, h2, h3, h4⟩ := h.a5 e; ⟨g, cs, h1, h2, h3.below b h3.lt, h4⟩
  ne := h.ne
  n14 := h.n14
  n15 := h.n15
  n34 := h.n34
  n35 := h.n35
  s6 := fun e => let ⟨e1, e2, g, v, h1, h2, h3⟩ := h.s6 e; ⟨e1, e2, g, v, h1, h2, h3.below b h3.lt⟩
  s7 := fun e => let ⟨e1, e2, g, v, h1, h2, h3⟩ := h.s7 e; ⟨e1, e2, g, v, h1, h2, h3.below b h3.lt⟩
section
variable {X Y : PA.Ev} {ax ay : Value} {w0 w w' : World} {L : Nat → Bool} {u : Nat → Value}
theorem PairJ.put0 (h : PairJ X Y ax ay w0 L u w) : PairJ X Y ax ay w0 (mark L 0) (upd u 0 ax) w := by
  obtain ⟨h1, h2, h3, h4, h5, h6, h7, h8, h9, h10, h11, h12, h13, h14⟩ := h
  constructor <;> (try simp only [mark, upd, reduceCtorEq, if_false, if_true]) <;> first | assumption | (intro _; first | rfl | trivial)
theorem PairJ.put2 (h : PairJ X Y ax ay w0 L u w) : PairJ X Y ax ay w0 (mark L 2) (upd u 2 ay) w := by
  obtain ⟨h1, h2, h3, h4, h5, h6, h7, h8, h9, h10, h11, h12, h13, h14⟩ := h
  constructor <;> (try simp only [mark, upd, reduceCtorEq, Nat.reduceEqDiff, if_false, if_true]) <;> first | assumption | (intro _; first | rfl | trivial)
/-- the first call: its event's parameters are new -/
theorem PairJ.put1 (h : PairJ X Y ax ay w0 L u w) (b : Below w.heap.size w w') {A : Option Addr} {c : Nat} (hp : ParIn w' (X, .slice A X.params.length c)) (hn : ∀ ad, A = some ad → w.heap.size ≤ ad.block) (h6 : L 6 = false) :
    PairJ X Y ax ay w0 (mark L 1) (upd u 1 (evV X (.slice A X.params.length c))) w' := by
  have hq := h.step b
  have cl : ∀ v g cs, evV X (.slice A X.params.length c) = evV X v → Box w g 24 cs → Clear (X, v) (some g) := fun v g cs e hb h0 ad n c' hv hg => by
    rw [← evV_inj e] at hv
    injection hv with e1 _ _
    have := hn ad e1
    injection hg with hg
    have := hb.lt
    omega
  obtain ⟨h1, h2, h3, h4, h5, h6', h7, h8, h9, h10, h11, h12, h13, h14⟩ := hq
  constructor <;> (try simp only [mark, upd, reduceCtorEq, Nat.reduceEqDiff, if_false, if_true]) <;> first | assumption | skip
  · intro _; exact ⟨_, rfl, hp, fun ad n c' e => by injection e with e1 _ _; have := hn ad e1; have := h.below.size; omega⟩
  · intro _ e v g ev eg
    obtain ⟨g', cs, k1, k2, k3, k4⟩ := h.a4 e
    rw [eg] at k1
    cases k1
    exact cl v _ cs ev k3
  · intro _ e v g ev eg
    obtain ⟨g', cs, k1, k2, k3, k4⟩ := h.a5 e
    rw [eg] at k1
    cases k1
    exact cl v _ cs ev k3
  · intro e; rw [h6] at e; cases e
theorem PairJ.put3 (h : PairJ X Y ax ay w0 L u w) (b : Below w.heap.size w w') {A : Option Addr} {c : Nat} (hp : ParIn w' (Y, .slice A Y.params.length c)) (hn : ∀ ad, A = some ad → w.heap.size ≤ ad.block) (h6 : L 7 = false) :
    PairJ X Y ax ay w0 (mark L 3) (upd u 3 (evV Y (.slice A Y.params.length c))) w' := by
  have hq := h.step b
  have cl : ∀ v g cs, evV Y (.slice A Y.params.length c) = evV Y v → Box w g 24 cs → Clear (Y, v) (some g) := fun v g cs e hb h0 ad n c' hv hg => by
    rw [← evV_inj e] at hv
    injection hv with e1 _ _
    have := hn ad e1
    injection hg with hg
    have := hb.lt
    omega
  obtain ⟨h1, h2, h3, h4, h5, h6', h7, h8, h9, h10, h11, h12, h13, h14⟩ := hq
  constructor <;> (try simp only [mark, upd, reduceCtorEq, Nat.reduceEqDiff, if_false, if_true]) <;> first | assumption | skip
  · intro _; exact ⟨_, rfl, hp, fun ad n c' e => by injection e with e1 _ _; have := hn ad e1; have := h.below.size; omega⟩
  · intro _ e v g ev eg
    obtain ⟨g', cs, k1, k2, k3, k4⟩ := h.a4 e
    rw [eg] at k1
    cases k1
    exact cl v _ cs ev k3
  · intro _ e v g ev eg
    obtain ⟨g', cs, k1, k2, k3, k4⟩ := h.a5 e
    rw [eg] at k1
    cases k1
    exact cl v _ cs ev k3
  · intro e; rw [h6] at e; cases e
/-- a new block -/
theorem PairJ.put4 (h : PairJ X Y ax ay w0 L u w) {cs : Array Value} (hs : cs.size = 7) (h6 : L 6 = false) :
    PairJ X Y ax ay w0 (mark L 4) (upd u 4 (.pointer (some ⟨w.heap.size, 0, none⟩))) (w.alloc (.cells cs 24)) := by
  have hq := h.step ((Below.refl _ w).alloc (Nat.le_refl _) (.cells cs 24))
  obtain ⟨h1, h2, h3, h4, h5, h6', h7, h8, h9, h10, h11, h12, h13, h14⟩ := hq
  constructor <;> (try simp only [mark, upd, reduceCtorEq, Nat.reduceEqDiff, if_false, if_true]) <;> first | assumption | skip
  · intro _; exact ⟨_, cs, rfl, h.below.size, Box.new w _ _, hs⟩
  · intro _ e eq
    obtain ⟨g', cs, k1, k2, k3, k4⟩ := h.a5 e
    rw [k1] at eq
    simp only [Value.pointer.injEq, Option.some.injEq, Addr.mk.injEq] at eq
    have := k3.lt
    omega
  · intro e _ v g ev eg
    cases eg
    obtain ⟨v', k1, k2, _⟩ := h.c1 e
    rw [k1] at ev
    rw [← evV_inj ev]
    exact k2.old (Nat.le_refl _)
  · intro e _ v g ev eg
    cases eg
    obtain ⟨v', k1, k2, _⟩ := h.c3 e
    rw [k1] at ev
    rw [← evV_inj ev]
    exact k2.old (Nat.le_refl _)
  · intro e; rw [h6] at e; cases e
theorem PairJ.put5 (h : PairJ X Y ax ay w0 L u w) {cs : Array Value} (hs : cs.size = 7) (h6 : L 7 = false) :
    PairJ X Y ax ay w0 (mark L 5) (upd u 5 (.pointer (some ⟨w.heap.size, 0, none⟩))) (w.alloc (.cells cs 24)) := by
  have hq := h.step ((Below.refl _ w).alloc (Nat.le_refl _) (.cells cs 24))
  obtain ⟨h1, h2, h3, h4, h5, h6', h7, h8, h9, h10, h11, h12, h13, h14⟩ := hq
  constructor <;> (try simp only [mark, upd, reduceCtorEq, Nat.reduceEqDiff, if_false, if_true]) <;> first | assumption | skip
  · intro _; exact ⟨_, cs, rfl, h.below.size, Box.new w _ _, hs⟩
  · intro e _ eq
    obtain ⟨g', cs, k1, k2, k3, k4⟩ := h.a4 e
    rw [k1] at eq
    simp only [Value.pointer.injEq, Option.some.injEq, Addr.mk.injEq] at eq
    have := k3.lt
    omega
  · intro e _ v g ev eg
    cases eg
    obtain ⟨v', k1, k2, _⟩ := h.c1 e
    rw [k1] at ev
    rw [← evV_inj ev]
    exact k2.old (Nat.le_refl _)
  · intro e _ v g ev eg
    cases eg
    obtain ⟨v', k1, k2, _⟩ := h.c3 e
    rw [k1] at ev
    rw [← evV_inj ev]
    exact k2.old (Nat.le_refl _)
  · intro e; rw [h6] at e; cases e
end
/-- a struct stored over a block of seven cells -/
def put7 (w : World) (g : Nat) (a b c d e f h : Value) : World := ((((((w.setCell ⟨g, 0, none⟩ a).setCell ⟨g, 1, none⟩ b).setCell ⟨g, 2, none⟩ c).setCell ⟨g, 3, none⟩ d).setCell ⟨g, 4, none⟩ e).setCell ⟨g, 5, none⟩ f).setCell ⟨g, 6, none⟩ h
theorem put7_kept (w : World) (g : Nat) (a b c d e f h : Value) : Kept [some g] w (put7 w g a b c d e f h) := by
  unfold put7
  refine Kept.setCell (Kept.setCell (Kept.setCell (Kept.setCell (Kept.setCell (Kept.setCell (Kept.setCell (Kept.refl _ _) ?_ _) ?_ _) ?_ _) ?_ _) ?_ _) ?_ _) ?_ _ <;> exact From.mem (by simp)
theorem put7_box {w : World} {g : Nat} {t : TypeId} {cs : Array Value} (hb : Box w g t cs) (hs : cs.size = 7) (a b c d e f h : Value) : Box (put7 w g a b c d e f h) g t #[a, b, c, d, e, f, h] := by
  obtain ⟨x0, x1, x2, x3, x4, x5, x6, rfl⟩ : ∃ x0 x1 x2 x3 x4 x5 x6, cs = #[x0, x1, x2, x3, x4, x5, x6] := by
    obtain ⟨l⟩ := cs
    rcases l with _ | ⟨x0, _ | ⟨x1, _ | ⟨x2, _ | ⟨x3, _ | ⟨x4, _ | ⟨x5, _ | ⟨x6, _ | ⟨x7, l⟩⟩⟩⟩⟩⟩⟩⟩ <;> simp at hs
    exact ⟨x0, x1, x2, x3, x4, x5, x6, rfl⟩
  unfold put7
  simpa using ((((((hb.set 0 a).set 1 b).set 2 c).set 3 d).set 4 e).set 5 f).set 6 h
theorem seven_of {cs : Array Value} (hs : cs.size = 7) : ∃ x0 x1 x2 x3 x4 x5 x6, cs = #[x0, x1, x2, x3, x4, x5, x6] := by
  obtain ⟨l⟩ := cs
  rcases l with _ | ⟨x0, _ | ⟨x1, _ | ⟨x2, _ | ⟨x3, _ | ⟨x4, _ | ⟨x5, _ | ⟨x6, _ | ⟨x7, l⟩⟩⟩⟩⟩⟩⟩⟩ <;> simp at hs
  exact ⟨x0, x1, x2, x3, x4, x5, x6, rfl⟩
theorem Kept.grownBy {w w' : World} {g : Nat} (k : Kept [some g] w w') : w.grownBy w' (some g) := ⟨k.os, k.tape, k.output, k.size, fun i hi hn => k.block i hi (by simpa using fun e => hn (by rw [e]))⟩
section
variable {X Y : PA.Ev} {ax ay : Value} {w0 w w' : World} {L : Nat → Bool} {u : Nat → Value}
theorem PairJ.put6 (h : PairJ X Y ax ay w0 L u w) (e1 : L 1 = true) (e4 : L 4 = true) {g : Nat} {v : Value} (hg : u 4 = .pointer (some ⟨g, 0, none⟩)) (hv : u 1 = evV X v) (k : Kept [some g] w w') (hb : Box w' g 24 (ecells X v).toArray) :
    PairJ X Y ax ay w0 (mark L 6) (upd u 6 undef) w' := by
  have hgn : w0.heap.size ≤ g := by
    obtain ⟨g', cs, k1, k2, k3, k4⟩ := h.a4 e4
    rw [hg] at k1; cases k1; exact k2
  have ne5 : L 5 = true → ∀ g', u 5 = .pointer (some ⟨g', 0, none⟩) → some g' ∉ [some g] := fun e5 g' hg' hm => by
    simp only [List.mem_singleton, Option.some.injEq] at hm
    subst hm
    exact h.ne e4 e5 (hg.trans hg'.symm)
  constructor <;> (try simp only [mark, upd, reduceCtorEq, Nat.reduceEqDiff, if_false, if_true])
  · exact h.below.trans (k.toBelow h.below.size (fun q hq => by simp at hq; omega))
  · exact h.l0
  · exact h.l2
  · intro e; obtain ⟨v', h1, h2, h3⟩ := h.c1 e; exact ⟨v', h1, h2.grown k.grownBy (h.n14 e e4 _ _ h1 hg), h3⟩
  · intro e; obtain ⟨v', h1, h2, h3⟩ := h.c3 e; exact ⟨v', h1, h2.grown k.grownBy (h.n34 e e4 _ _ h1 hg), h3⟩
  · intro e; exact ⟨g, _, hg, hgn, hb, rfl⟩
  · intro e; obtain ⟨g', cs, h1, h2, h3, h4⟩ := h.a5 e; exact ⟨g', cs, h1, h2, h3.kept k (ne5 e _ h1), h4⟩
  · exact h.ne
  · exact h.n14
  · exact h.n15
  · exact h.n34
  · exact h.n35
  · intro _; exact ⟨e4, e1, g, v, hg, hv, hb⟩
  · intro e; obtain ⟨x1, x2, g', v', h1, h2, h3⟩ := h.s7 e; exact ⟨x1, x2, g', v', h1, h2, h3.kept k (ne5 x1 _ h1)⟩
theorem PairJ.put7 (h : PairJ X Y ax ay w0 L u w) (e1 : L 3 = true) (e4 : L 5 = true) {g : Nat} {v : Value} (hg : u 5 = .pointer (some ⟨g, 0, none⟩)) (hv : u 3 = evV Y v) (k : Kept [some g] w w') (hb : Box w' g 24 (ecells Y v).toArray) :
    PairJ X Y ax ay w0 (mark L 7) (upd u 7 undef) w' := by
  have hgn : w0.heap.size ≤ g := by
    obtain ⟨g', cs, k1, k2, k3, k4⟩ := h.a5 e4
    rw [hg] at k1; cases k1; exact k2
  have ne5 : L 4 = true → ∀ g', u 4 = .pointer (some ⟨g', 0, none⟩) → some g' ∉ [some g] := fun e5 g' hg' hm => by
    simp only [List.mem_singleton, Option.some.injEq] at hm
    subst hm
    exact h.ne e5 e4 (hg'.trans hg.symm)
  constructor <;> (try simp only [mark, upd, reduceCtorEq, Nat.reduceEqDiff, if_false, if_true])
  · exact h.below.trans (k.toBelow h.below.size (fun q hq => by simp at hq; omega))
  · exact h.l0
  · exact h.l2
  · intro e; obtain ⟨v', h1, h2, h3⟩ := h.c1 e; exact ⟨v', h1, h2.grown k.grownBy (h.n15 e e4 _ _ h1 hg), h3⟩
  · intro e; obtain ⟨v', h1, h2, h3⟩ := h.c3 e; exact ⟨v', h1, h2.grown k.grownBy (h.n35 e e4 _ _ h1 hg), h3⟩
  · intro e; obtain ⟨g', cs, h1, h2, h3, h4⟩ := h.a4 e; exact ⟨g', cs, h1, h2, h3.kept k (ne5 e _ h1), h4⟩
  · intro e; exact ⟨g, _, hg, hgn, hb, rfl⟩
  · exact h.ne
  · exact h.n14
  · exact h.n15
  · exact h.n34
  · exact h.n35
  · intro e; obtain ⟨x1, x2, g', v', h1, h2, h3⟩ := h.s6 e; exact ⟨x1, x2, g', v', h1, h2, h3.kept k (ne5 x1 _ h1)⟩
  · intro _; exact ⟨e4, e1, g, v, hg, hv, hb⟩
theorem PairJ.not6 (h : PairJ X Y ax ay w0 L u w) (hl : L 1 = false ∨ L 4 = false) : L 6 = false := by
  rcases h6 : L 6 with _ | _
  · rfl
  · obtain ⟨a, b, _⟩ := h.s6 h6
    rcases hl with hl | hl
    · rw [b] at hl; cases hl
    · rw [a] at hl; cases hl
theorem PairJ.not7 (h : PairJ X Y ax ay w0 L u w) (hl : L 3 = false ∨ L 5 = false) : L 7 = false := by
  rcases h6 : L 7 with _ | _
  · rfl
  · obtain ⟨a, b, _⟩ := h.s7 h6
    rcases hl with hl | hl
    · rw [b] at hl; cases hl
    · rw [a] at hl; cases hl
end
end Go.Proofs.YtnnjppgmadmmaaaDoor
