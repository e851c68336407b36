/- Events and parsers side by side; append of one row of structs to another. -/
import Derived.Test.YtnnjppgmadmmaaaDoorParseConst
set_option maxRecDepth 100000
namespace Go.Proofs.YtnnjppgmadmmaaaDoor
open Go.RowKit
set_option linter.unusedVariables false
/-- append(out, ys...) of a row of structs, nil or not. -/
theorem wpList_appRow {P : Program} {w : World} {ops : Array Oper} {rest : List Oper} {o : Oper} {a : Act} {Q : Exit → Act → World → Prop} (hgd : o.guard = none) (s x : Operand) (t : TypeId)
    (ho : o.op = .call { callee := .builtin .append, args := #[s, x], argTypes := #[t, t] })
    (base : Nat) (e : TypeId) (i : TypeInfo) (z : Value) (size bytes : Nat) (ht : P.underlying t = some (.slice e)) (hi : P.info? e = some i) (hz : i.zero = some z)
    (hsize : i.size = size) (hby : i.bytes = bytes) (hzs : z.cells.size = size) (hsz : 0 < size)
    (v : Value) (n : Nat) (xs : List Value) (hs : a.eval s = v) (hown : w.ownsRow base e size v n xs)
    (base2 : Nat) (v2 : Value) (m : Nat) (ys : List Value) (hx : a.eval x = v2) (hy : w.ownsRow base2 e size v2 m ys) (h1 : ∀ u ∈ ys, u.oneCell' = true) (hb8 : bytes ≤ 64) (hn : n + m ≤ 1099511627776) (hbase : base ≤ w.heap.size)
    (h : ∀ v' w', w'.ownsRow base e size v' (n + m) (xs ++ ys) → w.grownBy w' v.ownBlock → Moved w v v' → wpList P ops Q rest (a.put o.dst v') w') :
    wpList P ops Q (o :: rest) a w := by
  rcases hy.2 with ⟨rfl, rfl⟩ | ⟨g2, cap, cur, rfl, hb, hh, hm, hc, hcs, htk⟩
  · have hys : ys = [] := List.eq_nil_of_length_eq_zero (by simpa using hy.1)
    subst hys
    refine wpList_plain hgd fun K hK => ?_
    have hrun := run_append_owned_none (P := P) w base t o.type e i size ht hi v n xs hown
    unfold Oper.wp
    simp [execOp, ho, resolve, invoke, builtin, hs, hx, hrun, Result.andThen]
    exact hK _ _ (h v w (by simpa using hown) (grown_refl _ _) (.inl rfl))
  · refine wpList_append_own_at (P := P) w hgd s x t ho base e i z size bytes ht hi hz hsize hby hzs hsz v n xs hs hown ⟨g2, 0, none⟩ m cap ys hx hy.1 (hy.cells rfl) h1 (by simp only [maxLen]; omega) ?_ hbase ?_
    · have : (n + m) * bytes ≤ 1099511627776 * 64 := Nat.mul_le_mul hn hb8
      omega
    · intro v' w' hown' hg _ hat
      refine h v' w' hown' hg ?_
      rcases hat with hat | hat
      · exact .inl hat
      · exact .inr ⟨_, hat, Nat.le_refl _⟩
theorem mcells_one' (w : World) (B : Nat) (M : List (PA.Ev × Value)) (h : OwnM w B M) : ∀ u ∈ mcells M, u.oneCell' = true := by
  intro u hu
  obtain ⟨p, hp, hu⟩ := List.mem_flatMap.1 hu
  obtain ⟨A, c, hv, _⟩ := own_form (h p hp)
  simp only [ecells, List.mem_cons, List.not_mem_nil, or_false] at hu
  rcases hu with rfl | rfl | rfl | rfl | rfl | rfl | rfl
  all_goals first | rfl | (rw [hv]; rfl)
/-- v holds the events M -/
def Evs (w : World) (B : Nat) (v : Value) (M : List (PA.Ev × Value)) : Prop := w.ownsRow B 24 7 v M.length (mcells M) ∧ OwnM w B M
/-- none of M's parameters lies in vp -/
def Off (M : List (PA.Ev × Value)) (vp : Value) : Prop := ∀ p ∈ M, ∀ q, p.2.ownBlock = some q → vp.ownBlock ≠ some q
/-- all of M's parameters lie below H -/
def LowM (H : Nat) (M : List (PA.Ev × Value)) : Prop := ∀ p ∈ M, ∀ q, p.2.ownBlock = some q → q < H
def Low (H : Nat) (v : Value) : Prop := ∀ q, v.ownBlock = some q → q < H
def High (H : Nat) (v : Value) : Prop := ∀ q, v.ownBlock = some q → H ≤ q
theorem LowM.off {H : Nat} {M : List (PA.Ev × Value)} {vp : Value} (h : LowM H M) (k : High H vp) : Off M vp := fun p hp q hq e => by
  have := h p hp q hq
  have := k q e
  omega
theorem Low.ne {H : Nat} {v vp : Value} (h : Low H v) (k : High H vp) : ∀ q, v.ownBlock = some q → vp.ownBlock ≠ some q := fun q hq e => by
  have := h q hq
  have := k q e
  omega
theorem High.ne {H : Nat} {v vp : Value} (h : High H v) (k : Low H vp) : ∀ q, v.ownBlock = some q → vp.ownBlock ≠ some q := fun q hq e => by
  have := h q hq
  have := k q e
  omega
theorem High.nil (H : Nat) : High H (.slice none 0 0) := fun q hq => by simp [Value.ownBlock] at hq
theorem Low.nil (H : Nat) : Low H (.slice none 0 0) := fun q hq => by simp [Value.ownBlock] at hq
theorem High.step {H : Nat} {v v' : Value} {w : World} (h : High H v) (f : From w [v.ownBlock] v'.ownBlock) (hw : H ≤ w.heap.size) : High H v' := fun q hq => by
  rcases f q hq with h1 | h1
  · simp only [List.mem_singleton] at h1
    exact h q h1.symm
  · omega
theorem Evs.lowM {w : World} {B : Nat} {v : Value} {M : List (PA.Ev × Value)} (h : Evs w B v M) : LowM w.heap.size M := fun p hp q hq => ((h.2 p hp).lt q hq).2
theorem Evs.low {w : World} {B : Nat} {v : Value} {M : List (PA.Ev × Value)} (h : Evs w B v M) : Low w.heap.size v := fun q hq => (h.1.lt q hq).2
theorem PB.lowp {w : World} {B g : Nat} {s : PA.S} {vp vt : Value} (h : PB w B g s vp vt) : Low w.heap.size vp := fun q hq => (h.par.lt q hq).2
theorem PB.lowt {w : World} {B g : Nat} {s : PA.S} {vp vt : Value} (h : PB w B g s vp vt) : Low w.heap.size vt := fun q hq => (h.txt.lt q hq).2
theorem PB.highp {w : World} {B g : Nat} {s : PA.S} {vp vt : Value} (h : PB w B g s vp vt) : High B vp := fun q hq => (h.par.lt q hq).1
section
variable {w w' : World} {B g : Nat} {s : PA.S} {vp vt : Value}
theorem Evs.kept {v : Value} {M : List (PA.Ev × Value)} (h : Evs w B v M) (hP : PB w B g s vp vt) (k : Kept [some g, vp.ownBlock, vt.ownBlock] w w') (hd : Off M vp) : Evs w' B v M := by
  refine ⟨own_kept h.1 k (fun q hq => ?_), h.2.kept k (fun p hp q hq => ?_)⟩
  · have a := own_ne_box h.1 hP.box (by decide)
    have b := own_ne_own h.1 hP.par (by decide) hq
    have c := own_ne_own h.1 hP.txt (by decide) hq
    simp only [List.mem_cons, List.not_mem_nil, or_false, not_or, Option.some.injEq]
    exact ⟨fun e => a (by rw [hq, e]), fun e => b e.symm, fun e => c e.symm⟩
  · have a := own_ne_box (h.2 p hp) hP.box (by decide)
    have b := hd p hp q hq
    have c := own_ne_own (h.2 p hp) hP.txt (by decide) hq
    simp only [List.mem_cons, List.not_mem_nil, or_false, not_or, Option.some.injEq]
    exact ⟨fun e => a (by rw [hq, e]), fun e => b e.symm, fun e => c e.symm⟩
theorem Evs.below {v : Value} {M : List (PA.Ev × Value)} (h : Evs w B v M) (hb : Below w.heap.size w w') : Evs w' B v M :=
  ⟨own_kept h.1 (Kept.of_below (L := []) hb) (by simp), h.2.kept (Kept.of_below (L := []) hb) (by simp)⟩
theorem PB.beside {g1 : Nat} {s1 : PA.S} {vp1 vt1 : Value} (h : PB w B g1 s1 vp1 vt1) (hP : PB w B g s vp vt) (k : Kept [some g, vp.ownBlock, vt.ownBlock] w w') (hg : g1 ≠ g) (hp : ∀ q, vp1.ownBlock = some q → vp.ownBlock ≠ some q) (ht : ∀ q, vt1.ownBlock = some q → vt.ownBlock ≠ some q) : PB w' B g1 s1 vp1 vt1 := by
  refine h.kept k ?_ (fun q hq => ?_) (fun q hq => ?_)
  · have b := own_ne_box hP.par h.box (by decide)
    have c := own_ne_box hP.txt h.box (by decide)
    simp only [List.mem_cons, List.not_mem_nil, or_false, not_or, Option.some.injEq]
    exact ⟨hg, fun e => b e.symm, fun e => c e.symm⟩
  · have a := own_ne_box h.par hP.box (by decide)
    have c := own_ne_own h.par hP.txt (by decide) hq
    simp only [List.mem_cons, List.not_mem_nil, or_false, not_or, Option.some.injEq]
    exact ⟨fun e => a (by rw [hq, e]), fun e => hp q hq e.symm, fun e => c e.symm⟩
  · have a := own_ne_box h.txt hP.box (by decide)
    have b := own_ne_own h.txt hP.par (by decide) hq
    simp only [List.mem_cons, List.not_mem_nil, or_false, not_or, Option.some.injEq]
    exact ⟨fun e => a (by rw [hq, e]), fun e => b e.symm, fun e => ht q hq e.symm⟩
theorem bytes_beside {B' n : Nat} {v : Value} {xs : List Value} (h : w.ownsRow B' 5 1 v n xs) (hP : PB w B g s vp vt) (k : Kept [some g, vp.ownBlock, vt.ownBlock] w w') (ht : ∀ q, v.ownBlock = some q → vt.ownBlock ≠ some q) : w'.ownsRow B' 5 1 v n xs := by
  refine own_kept h k (fun q hq => ?_)
  have a := own_ne_box h hP.box (by decide)
  have b := own_ne_own h hP.par (by decide) hq
  simp only [List.mem_cons, List.not_mem_nil, or_false, not_or, Option.some.injEq]
  exact ⟨fun e => a (by rw [hq, e]), fun e => b e.symm, fun e => ht q hq e.symm⟩
end
end Go.Proofs.YtnnjppgmadmmaaaDoor
