/- Worlds that keep all that was there but some rows; rows of any cell size; append of one struct's cells. -/
import Derived.Test.YtnjkongbccblaaaDoorLib
namespace Go.Proofs.YtnjkongbccblaaaDoor
open Go.RowKit
set_option linter.unusedVariables false
/-- all blocks that were there stay, but those of L -/
structure Kept (L : List (Option Nat)) (w w' : World) : Prop where
  os : w'.os = w.os
  tape : w'.tape = w.tape
  output : w'.output = w.output
  size : w.heap.size ≤ w'.heap.size
  block : ∀ k, k < w.heap.size → some k ∉ L → w'.heap[k]? = w.heap[k]?
/-- a block that o names is one of L's, or new -/
def From (w : World) (L : List (Option Nat)) (o : Option Nat) : Prop := ∀ h, o = some h → some h ∈ L ∨ w.heap.size ≤ h
theorem From.none (w : World) (L : List (Option Nat)) : From w L none := fun h e => by cases e
theorem From.mem {w : World} {L : List (Option Nat)} {o : Option Nat} (h : o ∈ L) : From w L o := fun k e => .inl (e ▸ h)
theorem From.mono {w : World} {L L' : List (Option Nat)} {o : Option Nat} (h : From w L o) (hs : ∀ x ∈ L, x ∈ L') : From w L' o := fun k e => (h k e).imp (hs _) id
theorem From.later {w w' : World} {L : List (Option Nat)} {o : Option Nat} (h : From w' L o) (hs : w.heap.size ≤ w'.heap.size) : From w L o := fun k e => (h k e).imp id (fun h => by omega)
theorem From.trans {w w' : World} {L L' : List (Option Nat)} {o : Option Nat} (h : From w' L' o) (hL : ∀ x ∈ L', From w L x) (hs : w.heap.size ≤ w'.heap.size) : From w L o := fun k e => by
  rcases h k e with h | h
  · exact hL _ h k rfl
  · exact .inr (by omega)
theorem From.trans1 {w w' : World} {a b c : Option Nat} (h : From w' [b] c) (k : From w [a] b) (hs : w.heap.size ≤ w'.heap.size) : From w [a] c :=
  h.trans (fun x hx => by simp at hx; subst hx; exact k) hs
theorem From.moved {w : World} {v v' : Value} (h : Moved w v v') : From w [v.ownBlock] v'.ownBlock := fun k e => by
  rcases h with h | ⟨g, h1, h2⟩
  · left; simp [← h, e]
  · rw [h1] at e
    injection e with e
    exact .inr (by omega)
section
variable {L L' : List (Option Nat)} {w w1 w' : World}
theorem Kept.refl (L : List (Option Nat)) (w : World) : Kept L w w := ⟨rfl, rfl, rfl, Nat.le_refl _, fun _ _ _ => rfl⟩
theorem Kept.trans (h : Kept L w w1) (k : Kept L' w1 w') (hL : ∀ x ∈ L', From w L x) : Kept L w w' :=
  ⟨k.os.trans h.os, k.tape.trans h.tape, k.output.trans h.output, Nat.le_trans h.size k.size, fun i hi hn =>
    (k.block i (Nat.lt_of_lt_of_le hi h.size) (fun hm => by
      rcases hL _ hm i rfl with h1 | h1
      · exact hn h1
      · omega)).trans (h.block i hi hn)⟩
theorem Kept.more (h : Kept L w w') (hs : ∀ x ∈ L, x ∈ L') : Kept L' w w' := ⟨h.os, h.tape, h.output, h.size, fun i hi hn => h.block i hi (fun hm => hn (hs _ hm))⟩
theorem Kept.drew (h : Kept L w w') : Kept L w w'.drew := ⟨h.os, h.tape, h.output, h.size, h.block⟩
theorem Kept.drewN (h : Kept L w w') (n : Nat) : Kept L w (w'.drewN n) := ⟨h.os, h.tape, h.output, h.size, h.block⟩
theorem Kept.alloc (h : Kept L w w') (o : Obj) : Kept L w (w'.alloc o) :=
  ⟨h.os, h.tape, h.output, Nat.le_trans h.size (by simp), fun i hi hn => (Below.heap_alloc w' o i (Nat.lt_of_lt_of_le hi h.size)).trans (h.block i hi hn)⟩
theorem Kept.setCell (h : Kept L w w') {p : Addr} (hp : From w L (some p.block)) (u : Value) : Kept L w (w'.setCell p u) :=
  ⟨h.os, h.tape, h.output, by simpa [World.setCell] using h.size, fun i hi hn => (Below.heap_setCell w' p u i (fun e => by
    subst e
    rcases hp _ rfl with h1 | h1
    · exact hn h1
    · omega)).trans (h.block i hi hn)⟩
theorem Kept.grown (h : Kept L w w1) {row : Option Nat} (hg : w1.grownBy w' row) (hr : From w L row) : Kept L w w' :=
  h.trans (L' := [row]) ⟨hg.os, hg.tape, hg.output, hg.size, fun i hi hn => hg.block i hi (by simpa using hn)⟩ (by simpa using hr)
theorem Kept.below (h : Kept L w w1) (hb : Below w1.heap.size w1 w') : Kept L w w' :=
  h.trans (L' := []) ⟨hb.os, hb.tape, hb.output, hb.size, fun i hi _ => hb.block i hi⟩ (by simp)
theorem Kept.of_below (hb : Below w.heap.size w w') : Kept L w w' := (Kept.refl L w).below hb
theorem Kept.toBelow {B : Nat} (h : Kept L w w') (hB : B ≤ w.heap.size) (hL : ∀ k, some k ∈ L → B ≤ k) : Below B w w' :=
  ⟨h.os, h.tape, h.output, h.size, fun k hk => h.block k (by omega) (fun hm => by have := hL k hm; omega)⟩
theorem Kept.cell (h : Kept L w w') {p : Addr} (hp : p.block < w.heap.size) (hn : some p.block ∉ L) : w'.cell? p = w.cell? p := World.cell?_of_block (w := w) (h.block p.block hp hn)
theorem Box.kept {g : Nat} {t : TypeId} {cs : Array Value} (h : Box w g t cs) (k : Kept L w w') (hn : some g ∉ L) : Box w' g t cs := (k.block g h.lt hn).trans h
theorem own_kept {base size n : Nat} {e : TypeId} {v : Value} {xs : List Value} (h : w.ownsRow base e size v n xs) (k : Kept L w w') (hn : ∀ b, v.ownBlock = some b → some b ∉ L) : w'.ownsRow base e size v n xs := by
  refine ⟨h.1, ?_⟩
  rcases h.2 with h | ⟨g, cap, cur, rfl, hb, hh, r⟩
  · exact .inl h
  · exact .inr ⟨g, cap, cur, rfl, hb, (k.block g (Array.getElem?_eq_some_iff.1 hh).1 (hn g rfl)).trans hh, r⟩
end
section
variable {w : World} {base base' size size' n n' : Nat} {e e' t : TypeId} {v v' : Value} {xs xs' : List Value} {g : Nat} {cs : Array Value}
theorem own_type (h : w.ownsRow base e size v n xs) {b : Nat} (hb : v.ownBlock = some b) : ∃ cur, Box w b e cur := by
  rcases h.2 with ⟨rfl, _⟩ | ⟨g, cap, cur, rfl, _, hh, _⟩
  · simp [Value.ownBlock] at hb
  · simp [Value.ownBlock] at hb
    subst hb
    exact ⟨cur, hh⟩
theorem box_type {t' : TypeId} {cs' : Array Value} (h : Box w g t cs) (h' : Box w g t' cs') : t = t' := by
  unfold Box at h h'
  rw [h] at h'
  injection h' with h'
  injection h' with _ ht
theorem own_ne_box (h : w.ownsRow base e size v n xs) (b : Box w g t cs) (hne : e ≠ t) : v.ownBlock ≠ some g := fun hb => by
  obtain ⟨cur, hc⟩ := own_type h hb
  exact hne (box_type hc b)
theorem own_ne_own (h : w.ownsRow base e size v n xs) (h' : w.ownsRow base' e' size' v' n' xs') (hne : e ≠ e') {b : Nat} (hb : v.ownBlock = some b) : v'.ownBlock ≠ some b := fun hb' => by
  obtain ⟨cur, hc⟩ := own_type h hb
  obtain ⟨cur', hc'⟩ := own_type h' hb'
  exact hne (box_type hc hc')
theorem own_store (h : w.ownsRow base e size v n xs) {p : Addr} (hp : v.ownBlock ≠ some p.block) (u : Value) : (w.setCell p u).ownsRow base e size v n xs :=
  own_kept h ((Kept.refl [some p.block] w).setCell (From.mem (by simp)) u) (fun b hb hm => hp (by
    simp only [List.mem_singleton, Option.some.injEq] at hm
    rw [← hm]
    exact hb))
theorem own_alloc' (h : w.ownsRow base e size v n xs) (o : Obj) : (w.alloc o).ownsRow base e size v n xs := h.alloc o
theorem own_base' (h : w.ownsRow base e size v n xs) (hb : base' ≤ base) : w.ownsRow base' e size v n xs := by
  refine ⟨h.1, ?_⟩
  rcases h.2 with h | ⟨g, cap, cur, hv, hg, r⟩
  · exact .inl h
  · exact .inr ⟨g, cap, cur, hv, by omega, r⟩
/-- Any slice value that is owned is written out, whatever the size of its cells. -/
theorem own_form' (h : w.ownsRow base e size v n xs) : ∃ A c, v = .slice A n c ∧ n ≤ c ∧ c ≤ maxLen ∧ ∀ b, v.ownBlock = some b → base ≤ b ∧ b < w.heap.size := by
  have hlt := h.lt
  rcases h.2 with ⟨rfl, rfl⟩ | ⟨g, cap, cur, rfl, _, hh, h1, h2, _, _⟩
  · exact ⟨none, 0, rfl, Nat.le_refl _, Nat.zero_le _, hlt⟩
  · exact ⟨_, _, rfl, h1, h2, hlt⟩
theorem own_nil (h : w.ownsRow base e size (.slice none n' n') n xs) : n = 0 := by
  rcases h.2 with ⟨_, h⟩ | ⟨g, cap, cur, hv, _⟩
  · exact h
  · cases hv
end
/-- append(out, x) of one struct of 'size' cells that was just laid. -/
theorem wpList_appS {P : Program} {w : World} {ops : Array Oper} {rest : List Oper} {o : Oper} {a : Act} {Q : Exit → Act → World → Prop} (hgd : o.guard = none) (s x : Operand) (t : TypeId)
    (ho : o.op = .call { callee := .builtin .append, args := #[s, x], argTypes := #[t, t] })
    (base : Nat) (e : TypeId) (i : TypeInfo) (z : Value) (size bytes : Nat) (ht : P.underlying t = some (.slice e)) (hi : P.info? e = some i) (hz : i.zero = some z)
    (hsize : i.size = size) (hby : i.bytes = bytes) (hzs : z.cells.size = size) (hsz : 0 < size)
    (v : Value) (n : Nat) (xs : List Value) (hs : a.eval s = v) (hown : w.ownsRow base e size v n xs) (cs : Array Value) (te : TypeId)
    (g : Nat) (hx : a.eval x = .slice (some ⟨g, 0, none⟩) 1 1) (hcs : cs.size = size) (hgw : g = w.heap.size) (h1 : ∀ u ∈ cs.toList, u.oneCell' = true) (hb8 : bytes ≤ 64) (hn : n ≤ 1099511627776) (hbase : base ≤ w.heap.size)
    (h : ∀ v' w', w'.ownsRow base e size v' (n + 1) (xs ++ cs.toList) → w.grownBy w' v.ownBlock → Moved w v v' → wpList P ops Q rest (a.put o.dst v') w') :
    wpList P ops Q (o :: rest) a (w.alloc (.cells cs te)) := by
  subst hgw
  refine wpList_append_own_at (P := P) (w.alloc (.cells cs te)) hgd s x t ho base e i z size bytes ht hi hz hsize hby hzs hsz v n xs hs (hown.alloc _) ⟨w.heap.size, 0, none⟩ 1 1 cs.toList hx (by simpa using hcs) (fun j u hu => ?_)
    h1 (by simp only [maxLen]; omega) ?_ (by simp; omega) ?_
  · rw [Addr.add_lit, Nat.zero_add, (Box.new w te cs).cell j]
    simpa using hu
  · have : (n + 1) * bytes ≤ 1099511627777 * 64 := Nat.mul_le_mul (by omega) hb8
    omega
  · intro v' w' hown' hg _ hat
    refine h v' w' hown' ⟨hg.os, hg.tape, hg.output, Nat.le_trans (by simp) hg.size, fun k hk hne => (hg.block k (by simp; omega) hne).trans (Below.heap_alloc w _ k hk)⟩ ?_
    rcases hat with hat | hat
    · exact .inl hat
    · exact .inr ⟨_, hat, by simp⟩
end Go.Proofs.YtnjkongbccblaaaDoor
