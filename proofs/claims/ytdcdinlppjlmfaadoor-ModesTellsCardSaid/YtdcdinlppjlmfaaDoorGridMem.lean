/- A grid's cells in memory: five cells of the heap each; append of a row of structs that is seen; one struct written into a row of the call's own. The contracts of the document's own Blank, Plain, row, copied. copy of structs of five cells into a row of the call's own; a row that was just made. Names no function of a program. The contract of the document's own Mend. The contract of the document's own Wipe. -/
import Derived.Test.YtdcdinlppjlmfaaDoorKept
import Derived.Test.YtdcdinlppjlmfaaDoorLib
import Derived.Test.YtdcdinlppjlmfaaDoorCellSpec
import Derived.Test.YtdcdinlppjlmfaaDoorKeepPen
import Derived.RegionTactic
import Derived.Laws.CopyRow
import Derived.OwnWalk
import Derived.BigRegion
import Derived.Deep.RegionHeld3
import Derived.Deep.RegionHeldLaw
set_option maxRecDepth 100000
namespace Go.Proofs.YtdcdinlppjlmfaaDoor
open Go.RowKit
set_option linter.unusedVariables false
def c5 (c : PG.Cl) : List Value := [.int .i32 (PG.rn c), .int .i64 (PG.kd c), .int .i64 (PG.pn c).1, .int .i64 (PG.pn c).2.1, .int .i64 (PG.pn c).2.2]
def cv (c : PG.Cl) : Value := .agg #[.int .i32 (PG.rn c), .int .i64 (PG.kd c), .int .i64 (PG.pn c).1, .int .i64 (PG.pn c).2.1, .int .i64 (PG.pn c).2.2]
def pv (p : PG.Pn) : Value := .agg #[.int .i64 p.1, .int .i64 p.2.1, .int .i64 p.2.2]
def ccells (l : List PG.Cl) : List Value := l.flatMap c5
theorem ccells_nil : ccells [] = [] := rfl
theorem ccells_cons (c : PG.Cl) (l : List PG.Cl) : ccells (c :: l) = c5 c ++ ccells l := rfl
theorem ccells_append (a b : List PG.Cl) : ccells (a ++ b) = ccells a ++ ccells b := by simp [ccells]
theorem ccells_len (l : List PG.Cl) : (ccells l).length = l.length * 5 := by
  induction l with
  | nil => rfl
  | cons c l ih => rw [ccells_cons, List.length_append, ih, List.length_cons]; show 5 + _ = _; omega
theorem ccells_at : ∀ (l : List PG.Cl) (k j : Nat) (c : PG.Cl) (u : Value), l[k]? = some c → (c5 c)[j]? = some u → (ccells l)[k * 5 + j]? = some u
  | [], k, j, c, u, h, _ => by simp at h
  | d :: l, 0, j, c, u, h, hu => by
    simp at h
    subst h
    have hj : j < 5 := (List.getElem?_eq_some_iff.1 hu).1
    rw [ccells_cons, Nat.zero_mul, Nat.zero_add, List.getElem?_append_left (by show j < 5; exact hj)]
    exact hu
  | d :: l, k + 1, j, c, u, h, hu => by
    have ih := ccells_at l k j c u (by simpa using h) hu
    rw [ccells_cons, List.getElem?_append_right (by show 5 ≤ _; omega), show (k + 1) * 5 + j - (c5 d).length = k * 5 + j from by show (k + 1) * 5 + j - 5 = _; omega]
    exact ih
theorem ccells_one (l : List PG.Cl) : ∀ u ∈ ccells l, u.oneCell' = true := by
  intro u hu
  obtain ⟨c, _, hu⟩ := List.mem_flatMap.1 hu
  simp only [c5, List.mem_cons, List.not_mem_nil, or_false] at hu
  rcases hu with rfl | rfl | rfl | rfl | rfl <;> rfl
theorem ccells_take (l : List PG.Cl) (k : Nat) : (ccells l).take (k * 5) = ccells (l.take k) := by
  induction l generalizing k with
  | nil => simp [ccells]
  | cons c l ih =>
    cases k with
    | zero => simp [ccells]
    | succ k =>
      rw [ccells_cons, List.take_succ_cons, ccells_cons, List.take_append, ← ih k, List.take_of_length_le (l := c5 c) (by show 5 ≤ _; omega)]
      congr 2
      show (k + 1) * 5 - 5 = k * 5
      omega
theorem ccells_drop (l : List PG.Cl) (k : Nat) : (ccells l).drop (k * 5) = ccells (l.drop k) := by
  induction l generalizing k with
  | nil => simp [ccells]
  | cons c l ih =>
    cases k with
    | zero => simp
    | succ k =>
      rw [ccells_cons, List.drop_succ_cons, ← ih k, List.drop_append, List.drop_of_length_le (l := c5 c) (by show 5 ≤ _; omega), List.nil_append]
      congr 1
      show (k + 1) * 5 - 5 = k * 5
      omega
/-- five cells written, one behind the other -/
def set5 (xs : List Value) (o : Nat) (c : PG.Cl) : List Value := ((((xs.set o (.int .i32 (PG.rn c))).set (o + 1) (.int .i64 (PG.kd c))).set (o + 2) (.int .i64 (PG.pn c).1)).set (o + 3) (.int .i64 (PG.pn c).2.1)).set (o + 4) (.int .i64 (PG.pn c).2.2)
theorem set5_far (a : List Value) (xs : List Value) (o : Nat) (c : PG.Cl) : set5 (a ++ xs) (a.length + o) c = a ++ set5 xs o c := by
  have h : ∀ (ys : List Value) (j : Nat) (u : Value), (a ++ ys).set (a.length + j) u = a ++ ys.set j u := fun ys j u => by
    rw [List.set_append_right _ _ (by omega), Nat.add_sub_cancel_left]
  unfold set5
  rw [h, Nat.add_assoc, h, Nat.add_assoc, h, Nat.add_assoc, h, Nat.add_assoc, h]
theorem set5_cells : ∀ (l : List PG.Cl) (k : Nat) (c : PG.Cl), k < l.length → set5 (ccells l) (k * 5) c = ccells (l.set k c)
  | [], k, c, h => by simp at h
  | d :: l, 0, c, h => by
    rw [List.set_cons_zero, ccells_cons, ccells_cons]
    rfl
  | d :: l, k + 1, c, h => by
    have ih := set5_cells l k c (by simpa using h)
    rw [List.set_cons_succ, ccells_cons, ccells_cons, ← ih, ← set5_far]
    congr 1
    show (k + 1) * 5 = 5 + k * 5
    omega
/-- the slice (A, n) reads as the cells l -/
def SeenC (w : World) (B : Nat) (A : Option Addr) (n : Nat) (l : List PG.Cl) : Prop := Seen w B A (n * 5) (ccells l)
section
variable {w w' : World} {B B' n : Nat} {A : Option Addr} {l : List PG.Cl}
theorem SeenC.len (h : SeenC w B A n l) : l.length = n := by
  have := h.1
  rw [ccells_len] at this
  omega
theorem SeenC.nil_ (w : World) (B : Nat) (A : Option Addr) : SeenC w B A 0 [] := Seen.nil_ w B A
theorem SeenC.below (h : SeenC w B A n l) (hb : Below B w w') : SeenC w' B A n l := Seen.below h hb
theorem SeenC.more (h : SeenC w B A n l) (hB : B ≤ B') : SeenC w B' A n l := Seen.more h hB
theorem SeenC.of_own {base : Nat} {e : TypeId} {c : Nat} (h : w.ownsRow base e 5 (.slice A n c) n (ccells l)) : SeenC w w.heap.size A n l := by
  refine ⟨h.1, fun j u hu => ?_⟩
  rcases h.2 with ⟨_, rfl⟩ | ⟨g, cap, cur, hv, _, hh, _, _, _, _⟩
  · have := h.1
    rw [List.eq_nil_of_length_eq_zero (l := ccells l) (by omega)] at hu
    simp at hu
  · injection hv with hA
    subst hA
    exact ⟨_, rfl, (Array.getElem?_eq_some_iff.1 hh).1, h.cells (g := g) rfl j u hu⟩
/-- one of them, its five cells -/
theorem SeenC.at_ (h : SeenC w B A n l) {k : Nat} {c : PG.Cl} (hk : l[k]? = some c) : ∃ ad, A = some ad ∧ ad.block < B ∧ ∀ j u, (c5 c)[j]? = some u → w.cell? (ad.add (k * 5 + j)) = some u := by
  obtain ⟨ad, h1, h2, _⟩ := h.2 (k * 5 + 0) _ (ccells_at l k 0 c _ hk rfl)
  refine ⟨ad, h1, h2, fun j u hu => ?_⟩
  obtain ⟨ad', h1', _, h3⟩ := h.2 (k * 5 + j) u (ccells_at l k j c u hk hu)
  rw [h1] at h1'
  injection h1' with e
  subst e
  exact h3
theorem add_next (ad : Addr) (x j : Nat) (hj : 0 < j) : ad.add (x + j) = ⟨(ad.add x).block, (ad.add x).off + j, none⟩ := by
  unfold Addr.add
  by_cases hx : x = 0
  · subst hx
    simp
    omega
  · rw [if_neg (by omega), if_neg hx]
    simp [Nat.add_assoc]
/-- one of them, as a load of the struct asks for it -/
theorem SeenC.five (h : SeenC w B A n l) {k : Nat} {c : PG.Cl} (hk : l[k]? = some c) : ∃ ad, A = some ad ∧ ad.block < B ∧ w.cell? (ad.add (k * 5)) = some (.int .i32 (PG.rn c)) ∧ w.cell? ⟨(ad.add (k * 5)).block, (ad.add (k * 5)).off + 1, none⟩ = some (.int .i64 (PG.kd c)) ∧
    w.cell? ⟨(ad.add (k * 5)).block, (ad.add (k * 5)).off + 2, none⟩ = some (.int .i64 (PG.pn c).1) ∧ w.cell? ⟨(ad.add (k * 5)).block, (ad.add (k * 5)).off + 3, none⟩ = some (.int .i64 (PG.pn c).2.1) ∧ w.cell? ⟨(ad.add (k * 5)).block, (ad.add (k * 5)).off + 4, none⟩ = some (.int .i64 (PG.pn c).2.2) := by
  obtain ⟨ad, h1, h2, h3⟩ := h.at_ hk
  refine ⟨ad, h1, h2, h3 0 _ rfl, ?_, ?_, ?_, ?_⟩
  · rw [← add_next ad (k * 5) 1 (by omega)]; exact h3 1 _ rfl
  · rw [← add_next ad (k * 5) 2 (by omega)]; exact h3 2 _ rfl
  · rw [← add_next ad (k * 5) 3 (by omega)]; exact h3 3 _ rfl
  · rw [← add_next ad (k * 5) 4 (by omega)]; exact h3 4 _ rfl
/-- some of them -/
theorem SeenC.drop (h : SeenC w B A n l) {k cap : Nat} (hk : k ≤ n) (hc : n ≤ cap) : SeenC w B (if cap = k then A else A.map (·.add (k * 5))) (n - k) (l.drop k) := by
  have := Seen.drop h (k := k * 5) (cap := cap * 5) (by omega) (by omega)
  unfold SeenC
  rw [← ccells_drop]
  have e : (if cap = k then A else A.map (·.add (k * 5))) = (if cap * 5 = k * 5 then A else A.map (·.add (k * 5))) := by
    by_cases h : cap = k
    · rw [if_pos h, if_pos (by omega)]
    · rw [if_neg h, if_neg (by omega)]
  rw [e, show (n - k) * 5 = n * 5 - k * 5 from by omega]
  exact this
theorem SeenC.take (h : SeenC w B A n l) {k : Nat} (hk : k ≤ n) : SeenC w B A k (l.take k) := by
  unfold SeenC
  rw [← ccells_take]
  exact Seen.take h (by omega)
end
/-- one struct of five cells written into a row of the call's own -/
def store5 (w : World) (g o : Nat) (c : PG.Cl) : World := ((((w.setCell ⟨g, o, none⟩ (.int .i32 (PG.rn c))).setCell ⟨g, o + 1, none⟩ (.int .i64 (PG.kd c))).setCell ⟨g, o + 2, none⟩ (.int .i64 (PG.pn c).1)).setCell ⟨g, o + 3, none⟩ (.int .i64 (PG.pn c).2.1)).setCell ⟨g, o + 4, none⟩ (.int .i64 (PG.pn c).2.2)
theorem grown_five {w w1 w2 w3 w4 w5 : World} {r : Option Nat} (h1 : w.grownBy w1 r) (h2 : w1.grownBy w2 r) (h3 : w2.grownBy w3 r) (h4 : w3.grownBy w4 r) (h5 : w4.grownBy w5 r) : w.grownBy w5 r := by
  have two : ∀ {a b c : World}, a.grownBy b r → b.grownBy c r → a.grownBy c r := fun h k =>
    ⟨k.os.trans h.os, k.tape.trans h.tape, k.output.trans h.output, Nat.le_trans h.size k.size, fun i hi hne => (k.block i (Nat.lt_of_lt_of_le hi h.size) hne).trans (h.block i hi hne)⟩
  exact two (two (two (two h1 h2) h3) h4) h5
theorem own_store5 {w : World} {base n g cap : Nat} {e : TypeId} {l : List PG.Cl} (h : w.ownsRow base e 5 (.slice (some ⟨g, 0, none⟩) n cap) n (ccells l)) {k : Nat} (c : PG.Cl) (hk : k < n) (hl : l.length = n) :
    (store5 w g (k * 5) c).ownsRow base e 5 (.slice (some ⟨g, 0, none⟩) n cap) n (ccells (l.set k c)) ∧ w.grownBy (store5 w g (k * 5) c) (some g) := by
  obtain ⟨h1, g1⟩ := h.stored (k * 5) (.int .i32 (PG.rn c))
  obtain ⟨h2, g2⟩ := h1.stored (k * 5 + 1) (.int .i64 (PG.kd c))
  obtain ⟨h3, g3⟩ := h2.stored (k * 5 + 2) (.int .i64 (PG.pn c).1)
  obtain ⟨h4, g4⟩ := h3.stored (k * 5 + 3) (.int .i64 (PG.pn c).2.1)
  obtain ⟨h5, g5⟩ := h4.stored (k * 5 + 4) (.int .i64 (PG.pn c).2.2)
  refine ⟨?_, ?_⟩
  · rw [← set5_cells l k c (by omega)]
    exact h5
  · exact grown_five g1 g2 g3 g4 g5
/-- one of a row of the call's own, as a load or a store of the struct asks for it -/
theorem own_five {w : World} {base n g cap : Nat} {e : TypeId} {l : List PG.Cl} (h : w.ownsRow base e 5 (.slice (some ⟨g, 0, none⟩) n cap) n (ccells l)) {k : Nat} {c : PG.Cl} (hk : l[k]? = some c) :
    w.cell? ⟨g, k * 5, none⟩ = some (.int .i32 (PG.rn c)) ∧ w.cell? ⟨g, k * 5 + 1, none⟩ = some (.int .i64 (PG.kd c)) ∧ w.cell? ⟨g, k * 5 + 2, none⟩ = some (.int .i64 (PG.pn c).1) ∧ w.cell? ⟨g, k * 5 + 3, none⟩ = some (.int .i64 (PG.pn c).2.1) ∧ w.cell? ⟨g, k * 5 + 4, none⟩ = some (.int .i64 (PG.pn c).2.2) ∧
    w.frozen? ⟨g, k * 5, none⟩ = false ∧ w.frozen? ⟨g, k * 5 + 1, none⟩ = false ∧ w.frozen? ⟨g, k * 5 + 2, none⟩ = false ∧ w.frozen? ⟨g, k * 5 + 3, none⟩ = false ∧ w.frozen? ⟨g, k * 5 + 4, none⟩ = false := by
  have at_ : ∀ j u, (c5 c)[j]? = some u → w.cell? ⟨g, k * 5 + j, none⟩ = some u := fun j u hu => by
    have h1 := ccells_at l k j c u hk hu
    have := h.cells (g := g) rfl (k * 5 + j) u h1
    rw [Addr.add_lit, Nat.zero_add] at this
    exact this
  exact ⟨at_ 0 _ rfl, at_ 1 _ rfl, at_ 2 _ rfl, at_ 3 _ rfl, at_ 4 _ rfl, h.frozenAt _, h.frozenAt _, h.frozenAt _, h.frozenAt _, h.frozenAt _⟩
/-- append(out, ys...) of structs: whatever slice the source is, nil too -/
theorem wp_appC {P : Program} {w : World} {o : Oper} {a : Act} {K : Act → World → Prop} {Q : Exit → Act → World → Prop} (s x : Operand) (t : TypeId)
    (ho : o.op = .call { callee := .builtin .append, args := #[s, x], argTypes := #[t, t] })
    (base : Nat) (e : TypeId) (i : TypeInfo) (z : Value) (bytes : Nat) (ht : P.underlying t = some (.slice e)) (hi : P.info? e = some i) (hz : i.zero = some z)
    (hsize : i.size = 5) (hby : i.bytes = bytes) (hzs : z.cells.size = 5)
    (v : Value) (n : Nat) (xs : List PG.Cl) (hs : a.eval s = v) (hown : w.ownsRow base e 5 v n (ccells xs))
    (B : Nat) (A : Option Addr) (m c : Nat) (ys : List PG.Cl) (hx : a.eval x = .slice A m c) (hy : SeenC w B A m ys) (hb8 : bytes ≤ 64) (hn : n + m ≤ 1099511627776) (hbase : base ≤ w.heap.size)
    (h : ∀ v' w', w'.ownsRow base e 5 v' (n + m) (ccells (xs ++ ys)) → w.grownBy w' v.ownBlock → Moved w v v' → K (a.put o.dst v') w') :
    o.wp P a w K Q := by
  rw [ccells_append] at h
  have hlen := hy.len
  rcases A with _ | ad
  · have hn0 : ys = [] := by
      rcases ys with _ | ⟨y, ys⟩
      · rfl
      · obtain ⟨ad, h0, _⟩ := hy.at_ (k := 0) rfl
        cases h0
    subst hn0
    have hm : m = 0 := by simpa using hlen.symm
    subst hm
    have hrun : (Builtin.append_ #[t, t] o.type #[v, .slice none 0 c]).run P w = .ok v w := by
      rcases hown.2 with ⟨rfl, rfl⟩ | ⟨g, cap, cur, rfl, _, _, hnc, _⟩
      · simp [Builtin.append_, run_underlying ht, sizeOf, typeInfo, hi, Builtin.lenOf, Builtin.firstCells]
      · simp [Builtin.append_, run_underlying ht, sizeOf, typeInfo, hi, Builtin.lenOf, Builtin.firstCells, hnc, storeCells]
    unfold Oper.wp
    simp [execOp, ho, resolve, invoke, builtin, hs, hx, hrun, Result.andThen]
    exact h v w (by simpa [ccells] using hown) (grown_refl _ _) (.inl rfl)
  · obtain ⟨v', w', hr, h2, h3, _, h5⟩ := run_append_own_at (P := P) w base t o.type e i z 5 bytes ht hi hz hsize hby hzs (by omega) v n (ccells xs) hown ad m c (ccells ys) hy.1 (fun j u hu => by
      obtain ⟨ad', h1, _, h3⟩ := hy.2 j u hu
      injection h1 with h1
      subst h1
      exact h3) (ccells_one ys) (by simp only [maxLen]; omega) (by have : (n + m) * bytes ≤ 1099511627776 * 64 := Nat.mul_le_mul hn hb8; omega) hbase
    unfold Oper.wp execOp
    simp only [ho, resolve, invoke, builtin, Sem.run_bind, Sem.run_pure, Result.andThen_ok, List.map_toArray, List.map_cons, List.map_nil, hs, hx, hr]
    refine h v' w' h2 h3 ?_
    rcases h5 with hat | hat
    · exact .inl hat
    · exact .inr ⟨_, hat, Nat.le_refl _⟩
theorem wpList_appC {P : Program} {w : World} {ops : Array Oper} {rest : List Oper} {o : Oper} {a : Act} {Q : Exit → Act → World → Prop} (hgd : o.guard = none) (s x : Operand) (t : TypeId)
    (ho : o.op = .call { callee := .builtin .append, args := #[s, x], argTypes := #[t, t] })
    (base : Nat) (e : TypeId) (i : TypeInfo) (z : Value) (bytes : Nat) (ht : P.underlying t = some (.slice e)) (hi : P.info? e = some i) (hz : i.zero = some z)
    (hsize : i.size = 5) (hby : i.bytes = bytes) (hzs : z.cells.size = 5)
    (v : Value) (n : Nat) (xs : List PG.Cl) (hs : a.eval s = v) (hown : w.ownsRow base e 5 v n (ccells xs))
    (B : Nat) (A : Option Addr) (m c : Nat) (ys : List PG.Cl) (hx : a.eval x = .slice A m c) (hy : SeenC w B A m ys) (hb8 : bytes ≤ 64) (hn : n + m ≤ 1099511627776) (hbase : base ≤ w.heap.size)
    (h : ∀ v' w', w'.ownsRow base e 5 v' (n + m) (ccells (xs ++ ys)) → w.grownBy w' v.ownBlock → Moved w v v' → wpList P ops Q rest (a.put o.dst v') w') :
    wpList P ops Q (o :: rest) a w :=
  wpList_plain hgd fun _ hK => wp_appC s x t ho base e i z bytes ht hi hz hsize hby hzs v n xs hs hown B A m c ys hx hy hb8 hn hbase fun v' w' h2 h3 h4 => hK _ _ (h v' w' h2 h3 h4)
end Go.Proofs.YtdcdinlppjlmfaaDoor
namespace Go.Proofs.YtdcdinlppjlmfaaDoor
open Go.RowKit
set_option linter.unusedVariables false
theorem rblank_any (p : PG.Pn) (w : World) : Calls Tryd.prog 72 #[pv p] w fun e w' => e = .returned (cv (PG.blank p)) ∧ Below w.heap.size w w' := by
  obtain ⟨f, b, g⟩ := p
  show Calls Tryd.prog 72 #[.agg #[.int .i64 f, .int .i64 b, .int .i64 g]] w fun e w' => e = .returned (.agg #[.int .i32 32, .int .i64 0, .int .i64 f, .int .i64 b, .int .i64 g]) ∧ Below w.heap.size w w'
  go_enter Tryd.func72, Tryd.ntmps72
  go_wp2
  exact bodyPost_ret (v := .agg #[.int .i32 32, .int .i64 0, .int .i64 f, .int .i64 b, .int .i64 g]) (by simp [results, Tryd.results72, go_sem]) rfl ⟨rfl, ((Below.refl _ _).alloc (Nat.le_refl _) _).alloc (by simp) _⟩
theorem rplain_any (w : World) : Calls Tryd.prog 75 #[] w fun e w' => e = .returned (pv PG.plain) ∧ Below w.heap.size w w' := by
  show Calls Tryd.prog 75 #[] w fun e w' => e = .returned (.agg #[.int .i64 (-1), .int .i64 (-1), .int .i64 0]) ∧ Below w.heap.size w w'
  go_enter Tryd.func75, Tryd.ntmps75
  go_wp2
  exact bodyPost_ret (v := .agg #[.int .i64 (-1), .int .i64 (-1), .int .i64 0]) (by simp [results, Tryd.results75, go_sem]) rfl ⟨rfl, (Below.refl _ _).alloc (Nat.le_refl _) _⟩
/-- a grid by value -/
def gv (R K : Nat) (s : Value) : Value := .agg #[.int .i64 R, .int .i64 K, s]
set_option maxHeartbeats 1000000 in
theorem rrow_any (R K r n c B : Nat) (A : Option Addr) (l : List PG.Cl) (w : World) (hl : SeenC w B A n l) (hn : n = R * K) (hnc : n ≤ c) (hc : c ≤ maxLen) (hr : r < R) (hR : R ≤ 40) (hK : K ≤ 60) :
    Calls Tryd.prog 71 #[gv R K (.slice A n c), .int .i64 r] w fun e w' => (∃ A' c', e = .returned (.slice A' K c') ∧ SeenC w B A' K ((l.drop (r * K)).take K) ∧ K ≤ c' ∧ c' ≤ maxLen) ∧ Below w.heap.size w w' := by
  have hle : r * K + K ≤ R * K := by rw [← Nat.succ_mul]; exact Nat.mul_le_mul_right K hr
  have hRK : R * K ≤ 2400 := Nat.mul_le_mul hR hK
  have e1 : (r : Int) * (K : Int) = ((r * K : Nat) : Int) := by simp
  have e2 : ((r : Int) + 1) * (K : Int) = ((r * K + K : Nat) : Int) := by rw [Int.add_mul, e1]; simp
  have hs := (hl.drop (k := r * K) (cap := c) (by omega) hnc).take (k := K) (by omega)
  generalize r * K = x at *
  unfold gv
  go_enter Tryd.func71, Tryd.ntmps71
  go_wp2_with fail
  · rw [if_pos h] at hs
    go_ret
    exact ⟨⟨_, _, rfl, hs, by omega, by omega⟩, (Below.refl _ _).alloc (Nat.le_refl _) _⟩
  · rw [if_neg h] at hs
    go_ret
    exact ⟨⟨_, _, rfl, hs, by omega, by omega⟩, (Below.refl _ _).alloc (Nat.le_refl _) _⟩
def zcell : Value := .agg #[.int .i32 0, .int .i64 0, .int .i64 0, .int .i64 0, .int .i64 0]
theorem info_cell : (Tryd.prog.info? 58).map (fun i => (i.zero, i.size, i.bytes)) = some (some zcell, 5, 40) := by kernel_rfl
theorem zcell_size : zcell.cells.size = 5 := rfl
theorem own_lit5 {w : World} {base g : Nat} (e : TypeId) (hg : g = w.heap.size) (hb : base ≤ w.heap.size) : (w.alloc (.cells #[] e)).ownsRow base e 5 (.slice (some ⟨g, 0, none⟩) 0 0) 0 (ccells []) := by
  subst hg
  exact World.ownsRow_made w #[] 0 hb (Nat.zero_le _) rfl
/-- two boxes, and a row behind them that grew -/
theorem boxes2 {w w1 : World} {t0 t1 t2 : TypeId} {cs ds es : Array Value} (hg : (((w.alloc (.cells cs t0)).alloc (.cells ds t1)).alloc (.cells es t2)).grownBy w1 (some (w.heap.size + 2))) : Box w1 w.heap.size t0 cs ∧ Box w1 (w.heap.size + 1) t1 ds ∧ Below w.heap.size w w1 := by
  refine ⟨(((Box.new w t0 cs).alloc _).alloc _).grown hg (by simp), ?_, ?_⟩
  · have h := Box.new (w.alloc (.cells cs t0)) t1 ds
    rw [show (w.alloc (.cells cs t0)).heap.size = w.heap.size + 1 from by simp] at h
    exact (h.alloc _).grown hg (by simp)
  · exact ((((Below.refl _ _).alloc (Nat.le_refl _) _).alloc (by simp) _).alloc (by simp; omega) _).grown hg (by simp; omega) (by rintro g ⟨⟩; omega)
theorem boxes2b {w w1 : World} {t0 t1 : TypeId} {cs ds : Array Value} (hg : Below ((w.alloc (.cells cs t0)).alloc (.cells ds t1)).heap.size ((w.alloc (.cells cs t0)).alloc (.cells ds t1)) w1) : Box w1 w.heap.size t0 cs ∧ Box w1 (w.heap.size + 1) t1 ds ∧ Below w.heap.size w w1 := by
  refine ⟨((Box.new w t0 cs).alloc _).below hg (by simp; omega), ?_, ?_⟩
  · have h := Box.new (w.alloc (.cells cs t0)) t1 ds
    rw [show (w.alloc (.cells cs t0)).heap.size = w.heap.size + 1 from by simp] at h
    exact h.below hg (by simp)
  · exact (((Below.refl _ _).alloc (Nat.le_refl _) _).alloc (by simp) _).trans (hg.mono (by simp; omega))
/-- a call gives a grid back, its cells in new memory -/
def GaveG (w : World) (R K : Nat) (l : List PG.Cl) (e : Ending) (w' : World) : Prop := ∃ v, e = .returned (gv R K v) ∧ w'.ownsRow w.heap.size 58 5 v l.length (ccells l) ∧ Below w.heap.size w w'
set_option maxHeartbeats 1000000 in
theorem rcopied_any (R K n c B : Nat) (A : Option Addr) (l : List PG.Cl) (w : World) (hl : SeenC w B A n l) (hB : B ≤ w.heap.size) (hn : n ≤ 1099511627776) :
    Calls Tryd.prog 78 #[gv R K (.slice A n c)] w (GaveG w R K l) := by
  obtain ⟨i0, hi, hz0, hz1, hz2⟩ := info_parts info_cell
  have hlen := hl.len
  unfold GaveG gv
  go_enter Tryd.func78, Tryd.ntmps78
  go_wp2_with (
    at_builtin
    refine wpList_appC rfl (.tmp 3) (.tmp 5) 22 rfl w.heap.size 58 i0 _ 40 Tryd.underlying22 hi hz0 hz1 hz2 rfl (.slice (some ⟨w.heap.size + 2, 0, none⟩) 0 0) 0 [] rfl (own_lit5 _ (by simp) (by simp; omega)) B A n c l rfl (hl.below (by repeat (first | exact Below.refl _ _ | refine Below.alloc ?_ (by first | omega | (simp; omega)) _))) (by omega) (by omega) (by simp; omega) ?_
    intro v1 w1 hown1 hg1 hm1
    obtain ⟨x0, x1, bb⟩ := boxes2 hg1
    obtain ⟨A1, c1, rfl, _⟩ := own_form' hown1
    obtain ⟨y0, y1, y2, z0, z1, z2⟩ := x0.three
    obtain ⟨p0, p1, p2, q0, q1, q2⟩ := x1.three
    clear hg1 hm1)
  have n0 := own_ne_box hown1 x0 (by decide)
  have n1 := own_ne_box hown1 x1 (by decide)
  have X := (x1.far (p := ⟨w.heap.size, 2, none⟩) (by show w.heap.size + 1 ≠ w.heap.size; omega) (.slice A1 n c1)).set3 (.int .i64 R) (.int .i64 K) (.slice A1 n c1)
  obtain ⟨j0, j1, j2, _⟩ := X.three
  refine bodyPost_ret (v := .agg #[.int .i64 R, .int .i64 K, .slice A1 n c1]) (by simp [results, Tryd.results78, go_sem, j0, j1, j2]) rfl ⟨_, rfl, ?_, ?_⟩
  · rw [hlen]
    simp only [Nat.zero_add, List.nil_append] at hown1 n0 n1
    exact ownsRow_setCell_other (ownsRow_setCell_other (ownsRow_setCell_other (ownsRow_setCell_other hown1 n0 _) n1 _) n1 _) n1 _
  · exact below_set3 (bb.setCell (Nat.le_refl _) _) (by omega) _ _ _
/-- some places of a list written anew -/
def spl (l : List PG.Cl) (x : Nat) (m : List PG.Cl) : List PG.Cl := l.take x ++ m ++ l.drop (x + m.length)
theorem spl_nil (l : List PG.Cl) (x : Nat) : spl l x [] = l := by simp [spl]
theorem spl_len {l : List PG.Cl} {x : Nat} {m : List PG.Cl} (h : x + m.length ≤ l.length) : (spl l x m).length = l.length := by
  unfold spl
  simp only [List.length_append, List.length_take, List.length_drop]
  omega
theorem spl_snoc {l : List PG.Cl} {x : Nat} {m : List PG.Cl} (c : PG.Cl) (h : x + m.length < l.length) : (spl l x m).set (x + m.length) c = spl l x (m ++ [c]) := by
  unfold spl
  have hl : (l.take x ++ m).length = x + m.length := by rw [List.length_append, List.length_take]; omega
  rw [List.set_append_right _ _ (by omega), hl, Nat.sub_self, List.drop_eq_getElem_cons h, List.set_cons_zero, List.length_append, List.length_singleton]
  simp [List.append_assoc, Nat.add_assoc]
theorem spl_more {l ls : List PG.Cl} {x k : Nat} {c : PG.Cl} (hk : ls[k]? = some c) (h : x + ls.length ≤ l.length) : (spl l x (ls.take k)).set (x + k) c = spl l x (ls.take (k + 1)) := by
  have hkl : k < ls.length := (List.getElem?_eq_some_iff.1 hk).1
  have e : (ls.take k).length = k := by rw [List.length_take]; omega
  have := spl_snoc (l := l) (x := x) (m := ls.take k) c (by omega)
  rw [e] at this
  rw [this, List.take_add_one, hk]
  rfl
/-- a row of the call's own that holds something: where it lies -/
theorem own_at {w : World} {base n : Nat} {e : TypeId} {size : Nat} {v : Value} {xs : List Value} (h : w.ownsRow base e size v n xs) (hn : 0 < n) : ∃ g cap, v = .slice (some ⟨g, 0, none⟩) n cap ∧ base ≤ g ∧ n ≤ cap ∧ cap ≤ maxLen := by
  rcases h.2 with ⟨_, h0⟩ | ⟨g, cap, cur, rfl, hb, _, h1, h2, _⟩
  · omega
  · exact ⟨g, cap, rfl, hb, h1, h2⟩
set_option maxHeartbeats 1000000 in
theorem rset_any (R K r n c n2 c2 B : Nat) (A A2 : Option Addr) (l ls : List PG.Cl) (w : World) (hl : SeenC w B A n l) (h2 : SeenC w B A2 n2 ls) (hB : B ≤ w.heap.size) (hn : n = R * K) (hr : r < R) (hn2 : n2 ≤ K) (hR : R ≤ 40) (h0 : 1 ≤ K) (hK : K ≤ 60) :
    Calls Tryd.prog 73 #[gv R K (.slice A n c), .int .i64 r, .slice A2 n2 c2] w (GaveG w R K (spl l (r * K) ls)) := by
  have hle : r * K + K ≤ R * K := by rw [← Nat.succ_mul]; exact Nat.mul_le_mul_right K hr
  have hRK : R * K ≤ 2400 := Nat.mul_le_mul hR hK
  have e1 : (r : Int) * (K : Int) = ((r * K : Nat) : Int) := by simp
  have hlen := hl.len
  have hlen2 := h2.len
  have F := hide (fun w' (hb : Below w.heap.size w w') => rcopied_any R K n c B A l w' (hl.below (Below.mono hb hB)) (Nat.le_trans hB hb.size) (by omega))
  have hnx : r * K + K ≤ n := by omega
  have hn5 : 1 ≤ n ∧ n ≤ 2400 := by omega
  clear hn hRK hle
  generalize r * K = x at *
  clear hl
  unfold GaveG gv
  unfold GaveG gv at F
  go_enter Tryd.func73, Tryd.ntmps73
  go_wp2_with (
    go_at_call 78
    go_must (refine (F.out _ (((Below.refl _ _).alloc (Nat.le_refl _) _).alloc (by simp) _)).mono ?_)
    go_must (rintro e w1 ⟨v1, rfl, hown1, b1⟩)
    obtain ⟨x0, x1, bb⟩ := boxes2b b1
    have ho1 := own_base' hown1 (show w.heap.size ≤ _ by simp; omega)
    clear hown1 b1
    rw [hlen] at ho1
    obtain ⟨g, cap, rfl, hgb, hgc, hgm⟩ := own_at ho1 (by omega)
    obtain ⟨y0, y1, y2, z0, z1, z2⟩ := x0.three
    clear F)
  have n0 := own_ne_box ho1 x0 (by decide)
  have n1 := own_ne_box ho1 x1 (by decide)
  have X0 := x0.set3 (.int .i64 R) (.int .i64 K) (.slice (some ⟨g, 0, none⟩) n cap)
  have X1 := ((x1.far (p := ⟨w.heap.size, 0, none⟩) (by show w.heap.size + 1 ≠ w.heap.size; omega) (.int .i64 R)).far (p := ⟨w.heap.size, 1, none⟩) (by show w.heap.size + 1 ≠ w.heap.size; omega) (.int .i64 K)).far (p := ⟨w.heap.size, 2, none⟩) (by show w.heap.size + 1 ≠ w.heap.size; omega) (.slice (some ⟨g, 0, none⟩) n cap)
  have O1 := ownsRow_setCell_other (ownsRow_setCell_other (ownsRow_setCell_other ho1 (a := ⟨w.heap.size, 0, none⟩) n0 (.int .i64 R)) (a := ⟨w.heap.size, 1, none⟩) n0 (.int .i64 K)) (a := ⟨w.heap.size, 2, none⟩) n0 (.slice (some ⟨g, 0, none⟩) n cap)
  have bs := below_set3 bb (Nat.le_refl _) (.int .i64 R) (.int .i64 K) (.slice (some ⟨g, 0, none⟩) n cap)
  have hg0 : g ≠ w.heap.size := fun e => n0 (by rw [e]; rfl)
  have hg1 : g ≠ w.heap.size + 1 := fun e => n1 (by rw [e]; rfl)
  go_loopw [13] (fun i wr => ∃ k : Nat, k ≤ n2 ∧ i = .int .i64 k ∧ Box wr w.heap.size 24 #[.int .i64 R, .int .i64 K, .slice (some ⟨g, 0, none⟩) n cap] ∧ Box wr (w.heap.size + 1) 24 #[.int .i64 0, .int .i64 0, .slice none 0 0] ∧
      wr.ownsRow w.heap.size 58 5 (.slice (some ⟨g, 0, none⟩) n cap) n (ccells (spl l x (ls.take k))) ∧ Below w.heap.size w wr)
    (fun i _ => n2 - (intOf i).toNat)
  case atStart => exact ⟨0, Nat.zero_le _, rfl, X0, X1, by rw [List.take_zero, spl_nil]; exact O1, bs⟩
  case round =>
    clear X0 X1 O1 bs y0 y1 y2 z0 z1 z2 n0 n1 x0 x1 ho1 bb
    obtain ⟨k, hk, rfl, b0, b1, ho, hb⟩ := hrel
    obtain ⟨y0, y1, y2, z0, z1, z2⟩ := b0.three
    by_cases hlt : k < n2
    · have hck : ls[k]? = some ls[k] := List.getElem?_eq_getElem (by omega)
      generalize ls[k] = cc at hck
      obtain ⟨ad, rfl, hadB, d0, d1, d2, d3, d4⟩ := (h2.below (hb.mono hB)).five hck
      have HH := hide h2
      have HO := hide ho
      have HK := hide hck
      have hls : (spl l x (ls.take k)).length = n := by rw [spl_len (by rw [List.length_take]; omega)]; exact hlen
      have hold : (spl l x (ls.take k))[x + k]? = some (spl l x (ls.take k))[x + k] := List.getElem?_eq_getElem (by omega)
      generalize (spl l x (ls.take k))[x + k] = cd at hold
      obtain ⟨v0, v1, v2, v3, v4, f0, f1, f2, f3, f4⟩ := own_five ho hold
      have l0 := b0.lt
      have l1 := b1.lt
      have l2 : g < wr.heap.size := (ho.lt g rfl).2
      clear h2 ho hck hold
      go_wp2_with fail
      go_roundw
      case rel =>
        have S := own_store5 HO.out (k := x + k) cc (by omega) hls
        refine ⟨k + 1, by omega, by go_num, (b0.grown S.2 (by simp; omega)).alloc _, (b1.grown S.2 (by simp; omega)).alloc _, ?_, (hb.grown S.2 (by omega) (by rintro _ ⟨⟩; omega)).alloc (Nat.le_trans hb.size S.2.size) _⟩
        rw [← spl_more HK.out (by omega)]
        exact S.1.alloc _
      case measure => simp [intOf]; omega
    · obtain rfl : k = n2 := by omega
      rw [List.take_of_length_le (by omega)] at ho
      have m0 := own_ne_box ho b1 (by decide)
      have X := b1.set3 (.int .i64 R) (.int .i64 K) (.slice (some ⟨g, 0, none⟩) n cap)
      have O := ownsRow_setCell_other (ownsRow_setCell_other (ownsRow_setCell_other ho (a := ⟨w.heap.size + 1, 0, none⟩) m0 (.int .i64 R)) (a := ⟨w.heap.size + 1, 1, none⟩) m0 (.int .i64 K)) (a := ⟨w.heap.size + 1, 2, none⟩) m0 (.slice (some ⟨g, 0, none⟩) n cap)
      have bz := below_set3 hb (show w.heap.size ≤ w.heap.size + 1 by omega) (.int .i64 R) (.int .i64 K) (.slice (some ⟨g, 0, none⟩) n cap)
      have hsl : (spl l x ls).length = n := by rw [spl_len (by omega)]; exact hlen
      obtain ⟨j0, j1, j2, _⟩ := X.three
      obtain ⟨q0, q1, q2, q3, q4, q5⟩ := b1.three
      have X := hide X
      have O := hide O
      have bz := hide bz
      have hsl := hide hsl
      clear ho
      go_wp2_with fail
      refine bodyPost_ret (v := .agg #[.int .i64 R, .int .i64 K, .slice (some ⟨g, 0, none⟩) n cap]) (by simp [results, Tryd.results73, go_sem, j0, j1, j2]) rfl ⟨_, rfl, ?_, bz.out⟩
      rw [hsl.out]
      exact O.out
end Go.Proofs.YtdcdinlppjlmfaaDoor
namespace Go.Proofs.YtdcdinlppjlmfaaDoor
open Go.RowKit
set_option linter.unusedVariables false
/-- a guard: the next operation is the one of this slot ('with_reducible refine at_op (o := ⟨some 42, _, _, _, _, _⟩) ?_') -/
theorem at_op {P : Program} {w : World} {ops : Array Oper} {rest : List Oper} {o : Oper} {a : Act} {Q : Exit → Act → World → Prop} (h : wpList P ops Q (o :: rest) a w) : wpList P ops Q (o :: rest) a w := h
theorem take_mid {α : Type} (cur c : List α) (x n : Nat) (hx : x + c.length ≤ n) (hn : n ≤ cur.length) :
    (cur.take x ++ c ++ cur.drop (x + c.length)).take n = (cur.take n).take x ++ c ++ (cur.take n).drop (x + c.length) := by
  have e1 : (cur.take n).take x = cur.take x := by rw [List.take_take, Nat.min_eq_left (by omega)]
  rw [e1, List.take_append, List.take_of_length_le (by simp; omega), List.drop_take]
  congr 2
  simp only [List.length_append, List.length_take]
  omega
theorem run_copyC {P : Program} (w : World) (dT sT ty elem : TypeId) (i : TypeInfo) (hu : P.underlying dT = some (.slice elem)) (hi : P.info? elem = some i) (hsize : i.size = 5)
    (base : Nat) (e : TypeId) (g y x n cap dLen dCap : Nat) (l : List PG.Cl) (hown : w.ownsRow base e 5 (.slice (some ⟨g, 0, none⟩) n cap) n (ccells l)) (hyx : y = x * 5)
    (A : Option Addr) (B sLen sCap m : Nat) (ys : List PG.Cl) (hm : Nat.min sLen dLen = m) (hs : SeenC w B A m ys) (hx : x + m ≤ n) :
    ∃ w', (Builtin.copy_ #[dT, sT] ty #[.slice (some ⟨g, y, none⟩) dLen dCap, .slice A sLen sCap]).run P w = .ok (goInt m) w' ∧
      w'.ownsRow base e 5 (.slice (some ⟨g, 0, none⟩) n cap) n (ccells (spl l x ys)) ∧ w.grownBy w' (some g) := by
  subst hyx
  have hlen := hs.len
  have hcl := ccells_len ys
  rw [hlen] at hcl
  rcases hown.2 with ⟨h', _⟩ | ⟨g', cap', cur, h', hb, hg, hnc, hcm, hcs, htake⟩
  · simp at h'
  simp only [Value.slice.injEq, Option.some.injEq, Addr.mk.injEq, and_true, true_and] at h'
  obtain ⟨rfl, rfl⟩ := h'
  have hxn : x * 5 + (ccells ys).length ≤ n * 5 := by rw [hcl]; omega
  have hnc5 : n * 5 ≤ cap * 5 := by omega
  have hst := run_storeCells_at P g (x * 5) e (ccells ys) 0 cur w hg (by rw [hcs]; omega) (ccells_one ys)
  simp only [Nat.add_zero] at hst
  refine ⟨w.setRow g (cur.toList.take (x * 5) ++ ccells ys ++ cur.toList.drop (x * 5 + (ccells ys).length)).toArray, ?_, ⟨?_, .inr ⟨g, cap, _, rfl, hb, setRow_heap w g cur _ e (0, 0) hg, hnc, hcm, ?_, ?_⟩⟩, ?_⟩
  · rcases A with _ | ad
    · have hm0 : ys = [] := by
        rcases ys with _ | ⟨c, ys⟩
        · rfl
        · obtain ⟨ad, h0, _⟩ := hs.at_ (k := 0) rfl
          cases h0
      subst hm0
      obtain rfl : m = 0 := by simpa using hlen.symm
      simp only [ccells_nil, List.length_nil] at hst ⊢
      simp [Builtin.copy_, run_underlying hu, Builtin.lenOf, Builtin.firstCells, sizeOf, typeInfo, hi, hm, hst]
    · have hl := run_loadCells_list (P := P) w ad (ccells ys) (fun j v hv => by
        obtain ⟨ad', h1, _, h3⟩ := hs.2 j v hv
        injection h1 with h1
        subst h1
        exact h3)
      rw [hcl] at hl
      simp [Builtin.copy_, run_underlying hu, Builtin.lenOf, Builtin.firstCells, sizeOf, typeInfo, hi, hsize, hm, hl, hst]
  · have h1 := hown.1
    rw [ccells_len] at h1 ⊢
    rw [spl_len (by omega)]
    exact h1
  · have e1 : (ccells ys).length ≤ cur.size := by omega
    simp only [List.size_toArray, List.length_append, List.length_take, List.length_drop, Array.length_toList]
    omega
  · rw [List.toList_toArray, take_mid _ _ _ _ hxn (by rw [Array.length_toList]; omega), htake, hcl]
    unfold spl
    rw [ccells_append, ccells_append, ← ccells_take, ← ccells_drop, hlen, show x * 5 + m * 5 = (x + m) * 5 by omega]
  · exact ⟨rfl, rfl, rfl, by simp [World.setRow], fun k _ hk => setRow_other w g k _ (fun e => hk (by rw [e]))⟩
theorem wpList_copyC {P : Program} {w : World} {ops : Array Oper} {rest : List Oper} {o : Oper} {a : Act} {Q : Exit → Act → World → Prop} (hgd : o.guard = none) (d s : Operand) (dT sT : TypeId)
    (ho : o.op = .call { callee := .builtin .copy, args := #[d, s], argTypes := #[dT, sT] }) (elem : TypeId) (i : TypeInfo) (hu : P.underlying dT = some (.slice elem)) (hi : P.info? elem = some i) (hsize : i.size = 5)
    (base : Nat) (e : TypeId) (g y x n cap dLen dCap : Nat) (l : List PG.Cl) (hd : a.eval d = .slice (some ⟨g, y, none⟩) dLen dCap) (hown : w.ownsRow base e 5 (.slice (some ⟨g, 0, none⟩) n cap) n (ccells l)) (hyx : y = x * 5)
    (A : Option Addr) (B sLen sCap m : Nat) (ys : List PG.Cl) (hsv : a.eval s = .slice A sLen sCap) (hm : Nat.min sLen dLen = m) (hs : SeenC w B A m ys) (hx : x + m ≤ n)
    (h : ∀ w', w'.ownsRow base e 5 (.slice (some ⟨g, 0, none⟩) n cap) n (ccells (spl l x ys)) → w.grownBy w' (some g) → wpList P ops Q rest (a.put o.dst (goInt m)) w') :
    wpList P ops Q (o :: rest) a w := by
  refine wpList_plain hgd fun K hK => ?_
  obtain ⟨w', hrun, h1, h2⟩ := run_copyC (P := P) w dT sT o.type elem i hu hi hsize base e g y x n cap dLen dCap l hown hyx A B sLen sCap m ys hm hs hx
  unfold Oper.wp
  simp [execOp, ho, resolve, invoke, builtin, hd, hsv, hrun, Result.andThen]
  exact hK _ _ (h w' h1 h2)
/-- copy to or of nothing -/
theorem run_copyC0 {P : Program} (w : World) (dT sT ty elem : TypeId) (i : TypeInfo) (hu : P.underlying dT = some (.slice elem)) (hi : P.info? elem = some i)
    (D A : Option Addr) (dLen dCap sLen sCap : Nat) (hm : Nat.min sLen dLen = 0) :
    (Builtin.copy_ #[dT, sT] ty #[.slice D dLen dCap, .slice A sLen sCap]).run P w = .ok (goInt 0) w := by
  have hl : ∀ ad, (loadCells ad 0).run P w = .ok #[] w := fun ad => run_loadCells_list (P := P) w ad [] (fun j v hv => by simp at hv)
  rcases A with _ | ad <;> rcases D with _ | d <;>
    simp [Builtin.copy_, run_underlying hu, Builtin.lenOf, Builtin.firstCells, sizeOf, typeInfo, hi, hm, storeCells, hl]
theorem wpList_copyC0 {P : Program} {w : World} {ops : Array Oper} {rest : List Oper} {o : Oper} {a : Act} {Q : Exit → Act → World → Prop} (hgd : o.guard = none) (d s : Operand) (dT sT : TypeId)
    (ho : o.op = .call { callee := .builtin .copy, args := #[d, s], argTypes := #[dT, sT] }) (elem : TypeId) (i : TypeInfo) (hu : P.underlying dT = some (.slice elem)) (hi : P.info? elem = some i)
    (D A : Option Addr) (dLen dCap sLen sCap : Nat) (hd : a.eval d = .slice D dLen dCap) (hsv : a.eval s = .slice A sLen sCap) (hm : Nat.min sLen dLen = 0)
    (h : wpList P ops Q rest (a.put o.dst (goInt 0)) w) : wpList P ops Q (o :: rest) a w := by
  refine wpList_plain hgd fun K hK => ?_
  have hrun := run_copyC0 (P := P) w dT sT o.type elem i hu hi D A dLen dCap sLen sCap hm
  unfold Oper.wp
  simp [execOp, ho, resolve, invoke, builtin, hd, hsv, hrun, Result.andThen]
  exact hK _ _ h
/-- what 'make' lays -/
theorem made_cells (n : Nat) : (madeCells zcell.cells (n * 5)).toList = ccells (List.replicate n PG.none) := by
  have hz : zcell.cells = #[.int .i32 0, .int .i64 0, .int .i64 0, .int .i64 0, .int .i64 0] := rfl
  refine List.ext_getElem? fun j => ?_
  by_cases hj : j < n * 5
  · have hk : j / 5 < n := by omega
    have hr : (List.replicate n PG.none)[j / 5]? = some PG.none := by rw [List.getElem?_replicate, if_pos hk]
    have h5 : j % 5 < 5 := by omega
    have hu : ∃ u, (c5 PG.none)[j % 5]? = some u ∧ zcell.cells[j % zcell.cells.size]! = u := by
      rw [hz]
      have hs : (#[Value.int .i32 0, .int .i64 0, .int .i64 0, .int .i64 0, .int .i64 0] : Array Value).size = 5 := rfl
      rw [hs]
      generalize j % 5 = k at h5
      obtain rfl | rfl | rfl | rfl | rfl : k = 0 ∨ k = 1 ∨ k = 2 ∨ k = 3 ∨ k = 4 := by omega
      all_goals exact ⟨_, rfl, rfl⟩
    obtain ⟨u, h1, h2⟩ := hu
    have h3 := ccells_at _ _ _ _ _ hr h1
    rw [show j / 5 * 5 + j % 5 = j by omega] at h3
    rw [h3]
    unfold madeCells
    rw [Array.toList_map, Array.toList_range, List.getElem?_map, List.getElem?_range hj, Option.map_some, h2]
  · rw [List.getElem?_eq_none (by simp [madeCells]; omega), List.getElem?_eq_none (by rw [ccells_len, List.length_replicate]; omega)]
theorem add0 (g k : Nat) : (⟨g, 0, none⟩ : Addr).add k = ⟨g, k, none⟩ := by rw [Addr.add_lit, Nat.zero_add]
theorem Kept.of_grown {w w' : World} {r : Option Nat} (h : w.grownBy w' r) : Kept [r] w w' := ⟨h.os, h.tape, h.output, h.size, fun i hi hn => h.block i hi (by simpa using hn)⟩
theorem spl_all {l m : List PG.Cl} (h : m.length = l.length) : spl l 0 m = m := by
  unfold spl
  rw [List.take_zero, List.nil_append, Nat.zero_add, List.drop_of_length_le (by omega), List.append_nil]
end Go.Proofs.YtdcdinlppjlmfaaDoor
namespace Go.Proofs.YtdcdinlppjlmfaaDoor
open Go.RowKit
set_option linter.unusedVariables false
def fnL (l : List PG.Cl) (j : Nat) : PG.Cl := (l[j]?).getD PG.none
def mendL (l : List PG.Cl) : List PG.Cl := (List.range l.length).map (PG.mend (fnL l) l.length)
theorem mendL_len (l : List PG.Cl) : (mendL l).length = l.length := by simp [mendL]
theorem mendL_at {l : List PG.Cl} {k : Nat} (hk : k < l.length) : (mendL l)[k]? = some (PG.mend (fnL l) l.length k) := by
  unfold mendL
  rw [List.getElem?_map, List.getElem?_range hk]
  rfl
/-- the first k of them mended -/
def halfM (l : List PG.Cl) (k : Nat) : List PG.Cl := (mendL l).take k ++ l.drop k
theorem halfM_zero (l : List PG.Cl) : halfM l 0 = l := by simp [halfM]
theorem halfM_all (l : List PG.Cl) : halfM l l.length = mendL l := by
  unfold halfM
  rw [List.take_of_length_le (by rw [mendL_len]; exact Nat.le_refl _), List.drop_of_length_le (Nat.le_refl _), List.append_nil]
theorem halfM_len {l : List PG.Cl} {k : Nat} (hk : k ≤ l.length) : (halfM l k).length = l.length := by
  unfold halfM
  rw [List.length_append, List.length_take, List.length_drop, mendL_len]
  omega
theorem halfM_set {l : List PG.Cl} {k : Nat} (hk : k < l.length) : (halfM l k).set k (PG.mend (fnL l) l.length k) = halfM l (k + 1) := by
  unfold halfM
  have e : ((mendL l).take k).length = k := by rw [List.length_take, mendL_len]; omega
  rw [List.set_append_right _ _ (by omega), e, Nat.sub_self, List.drop_eq_getElem_cons hk, List.set_cons_zero, List.take_add_one, mendL_at hk]
  simp
theorem halfM_keep {l : List PG.Cl} {k : Nat} {c : PG.Cl} (hk : l[k]? = some c) (h : PG.mend (fnL l) l.length k = c) : halfM l k = halfM l (k + 1) := by
  have hkl : k < l.length := (List.getElem?_eq_some_iff.1 hk).1
  rw [← halfM_set hkl, h]
  unfold halfM
  have e : ((mendL l).take k).length = k := by rw [List.length_take, mendL_len]; omega
  rw [List.set_append_right _ _ (by omega), e, Nat.sub_self, List.drop_eq_getElem_cons hkl, List.set_cons_zero]
  rw [List.getElem?_eq_getElem hkl] at hk
  rw [Option.some.inj hk]
theorem halfM_at {l : List PG.Cl} {k : Nat} {c : PG.Cl} (hk : l[k]? = some c) : (halfM l k)[k]? = some c := by
  have hkl : k < l.length := (List.getElem?_eq_some_iff.1 hk).1
  have e : ((mendL l).take k).length = k := by rw [List.length_take, mendL_len]; omega
  unfold halfM
  rw [List.getElem?_append_right (by omega), e, Nat.sub_self, List.getElem?_drop, Nat.add_zero]
  exact hk
theorem fnL_at {l : List PG.Cl} {k : Nat} {c : PG.Cl} (hk : l[k]? = some c) : fnL l k = c := by unfold fnL; rw [hk]; rfl
/-- what Mend makes of one of them -/
theorem mend_blank {l : List PG.Cl} {k : Nat} {c : PG.Cl} (hk : l[k]? = some c) (h : (PG.kd c = 1 ∧ (k + 1 = l.length ∨ ∃ d, l[k + 1]? = some d ∧ PG.kd d ≠ 2)) ∨ (PG.kd c = 2 ∧ (k = 0 ∨ ∃ d, 0 < k ∧ l[k - 1]? = some d ∧ PG.kd d ≠ 1))) : PG.mend (fnL l) l.length k = PG.blank (PG.pn c) := by
  unfold PG.mend
  rw [fnL_at hk, if_pos]
  rcases h with ⟨a, b⟩ | ⟨a, b⟩
  · left
    refine ⟨a, fun ⟨x, y⟩ => ?_⟩
    rcases b with b | ⟨d, b, e⟩
    · omega
    · rw [fnL_at b] at y; exact e y
  · right
    refine ⟨a, fun ⟨x, y⟩ => ?_⟩
    rcases b with b | ⟨d, _, b, e⟩
    · omega
    · rw [fnL_at b] at y; exact e y
theorem mend_stay {l : List PG.Cl} {k : Nat} {c : PG.Cl} (hk : l[k]? = some c) (h : (PG.kd c ≠ 1 ∧ PG.kd c ≠ 2) ∨ (PG.kd c = 1 ∧ ∃ d, l[k + 1]? = some d ∧ PG.kd d = 2) ∨ (PG.kd c = 2 ∧ ∃ d, 0 < k ∧ l[k - 1]? = some d ∧ PG.kd d = 1)) : PG.mend (fnL l) l.length k = c := by
  unfold PG.mend
  rw [fnL_at hk, if_neg]
  rintro (⟨a, b⟩ | ⟨a, b⟩)
  · rcases h with h | ⟨_, d, e, f⟩ | ⟨h, _⟩
    · exact h.1 a
    · exact b ⟨(List.getElem?_eq_some_iff.1 e).1, by rw [fnL_at e]; exact f⟩
    · omega
  · rcases h with h | ⟨h, _⟩ | ⟨_, d, p, e, f⟩
    · exact h.2 a
    · omega
    · exact b ⟨p, by rw [fnL_at e]; exact f⟩
/-- a box, and a row behind it that grew -/
theorem boxes0 {w w1 : World} {t2 : TypeId} {es : Array Value} (hg : (w.alloc (.cells es t2)).grownBy w1 (some w.heap.size)) : Below w.heap.size w w1 :=
  ((Below.refl _ _).alloc (Nat.le_refl _) _).grown hg (by simp) (by rintro g ⟨⟩; omega)
set_option maxHeartbeats 4000000 in
theorem rmend_any (n c B : Nat) (A : Option Addr) (l : List PG.Cl) (w : World) (hl : SeenC w B A n l) (hB : B ≤ w.heap.size) (hn0 : 0 < n) (hn : n ≤ 1099511627776) :
    Calls Tryd.prog 79 #[.slice A n c] w fun e w' => ∃ v, e = .returned v ∧ w'.ownsRow w.heap.size 58 5 v n (ccells (mendL l)) ∧ Below w.heap.size w w' := by
  obtain ⟨i0, hi, hz0, hz1, hz2⟩ := info_parts info_cell
  have hlen := hl.len
  have BC : ∀ (p : PG.Pn) (w' : World), Calls Tryd.prog 72 #[.agg #[.int .i64 p.1, .int .i64 p.2.1, .int .i64 p.2.2]] w' fun e w'' => e = .returned (.agg #[.int .i32 32, .int .i64 0, .int .i64 p.1, .int .i64 p.2.1, .int .i64 p.2.2]) ∧ Below w'.heap.size w' w'' := fun p w' => rblank_any p w'
  have BC := hide BC
  go_enter Tryd.func79, Tryd.ntmps79
  go_wp2_with (
    at_builtin
    go_must (refine wpList_appC rfl (.tmp 8) (.tmp 9) 22 rfl w.heap.size 58 i0 _ 40 Tryd.underlying22 hi hz0 hz1 hz2 rfl (.slice (some ⟨w.heap.size, 0, none⟩) 0 0) 0 [] rfl (own_lit5 _ rfl (Nat.le_refl _)) B A n c l rfl (hl.below ((Below.refl _ _).alloc hB _)) (by omega) (by omega) (by simp) ?_)
    intro v1 w1 hown1 hg1 hm1
    have bb := boxes0 hg1
    simp only [Nat.zero_add, List.nil_append] at hown1
    obtain ⟨g, cap, rfl, hgb, hgc, hgm⟩ := own_at hown1 hn0
    clear hg1 hm1)
  go_loopw [13] (fun i wr => ∃ k : Nat, k ≤ n ∧ i = .int .i64 k ∧ wr.ownsRow w.heap.size 58 5 (.slice (some ⟨g, 0, none⟩) n cap) n (ccells (halfM l k)) ∧ Below w.heap.size w wr)
    (fun i _ => n - (intOf i).toNat)
  case atStart => exact ⟨0, Nat.zero_le _, rfl, by rw [halfM_zero]; exact hown1, bb⟩
  case round =>
    clear hown1 bb
    obtain ⟨k, hk, rfl, ho, hb⟩ := hrel
    by_cases hlt : k < n
    · have hck : l[k]? = some l[k] := List.getElem?_eq_getElem (by omega)
      generalize l[k] = cc at hck
      obtain ⟨ad, rfl, hadB, d0, d1, d2, d3, d4⟩ := (hl.below (hb.mono hB)).five hck
      have hold := halfM_at hck
      have hhl := halfM_len (l := l) (k := k) (by omega)
      obtain ⟨v0, v1, v2, v3, v4, f0, f1, f2, f3, f4⟩ := own_five ho hold
      have l2 : g < wr.heap.size := (ho.lt g rfl).2
      have lb : w.heap.size ≤ wr.heap.size := hb.size
      have la : ad.block < wr.heap.size := by omega
      -- the round's end, nothing written, or a blank
      have FIN0 : PG.mend (fnL l) l.length k = cc → ∀ o, (wr.alloc o).ownsRow w.heap.size 58 5 (.slice (some ⟨g, 0, none⟩) n cap) n (ccells (halfM l (k + 1))) ∧ Below w.heap.size w (wr.alloc o) := fun e o =>
        ⟨by rw [← halfM_keep hck e]; exact ho.alloc o, hb.alloc lb o⟩
      have FIN1 : PG.mend (fnL l) l.length k = PG.blank (PG.pn cc) → ∀ o w2, Below (wr.alloc o).heap.size (wr.alloc o) w2 →
          (w2.cell? ⟨g, k * 5, none⟩ = some (.int .i32 (PG.rn cc)) ∧ w2.cell? ⟨g, k * 5 + 1, none⟩ = some (.int .i64 (PG.kd cc)) ∧ w2.cell? ⟨g, k * 5 + 2, none⟩ = some (.int .i64 (PG.pn cc).1) ∧ w2.cell? ⟨g, k * 5 + 3, none⟩ = some (.int .i64 (PG.pn cc).2.1) ∧ w2.cell? ⟨g, k * 5 + 4, none⟩ = some (.int .i64 (PG.pn cc).2.2) ∧
            w2.frozen? ⟨g, k * 5, none⟩ = false ∧ w2.frozen? ⟨g, k * 5 + 1, none⟩ = false ∧ w2.frozen? ⟨g, k * 5 + 2, none⟩ = false ∧ w2.frozen? ⟨g, k * 5 + 3, none⟩ = false ∧ w2.frozen? ⟨g, k * 5 + 4, none⟩ = false) ∧
          (store5 w2 g (k * 5) (PG.blank (PG.pn cc))).ownsRow w.heap.size 58 5 (.slice (some ⟨g, 0, none⟩) n cap) n (ccells (halfM l (k + 1))) ∧ Below w.heap.size w (store5 w2 g (k * 5) (PG.blank (PG.pn cc))) := fun e o w2 h2 => by
        have o2 := (ho.alloc o).kept (grown_of_below h2 none) (by simp [Value.ownBlock])
        have S := own_store5 o2 (k := k) (PG.blank (PG.pn cc)) hlt (by omega)
        have hs2 := h2.size
        rw [World.size_alloc] at hs2
        refine ⟨own_five o2 hold, ?_, ((hb.alloc lb o).trans (h2.mono (by rw [World.size_alloc]; omega))).grown S.2 (by omega) (by rintro _ ⟨⟩; omega)⟩
        rw [← halfM_set (by omega), e]
        exact S.1
      have FIN0 := hide FIN0
      have FIN1 := hide FIN1
      have HO := hide ho
      have HK := hide hck
      clear ho hck hold
      by_cases ha1 : PG.kd cc = 1
      · rw [ha1] at d1
        by_cases hend : k + 1 = n
        · have G := hide (FIN1.out (mend_blank HK.out (.inl ⟨ha1, .inl (by omega)⟩)))
          clear FIN0 FIN1
          go_wp2_with (
            go_at_call 72
            go_must (refine (BC.out (PG.pn cc) _).mono ?_)
            rintro e w2 ⟨rfl, b2⟩
            obtain ⟨⟨v0, v1, v2, v3, v4, f0, f1, f2, f3, f4⟩, G2⟩ := G.out _ _ b2
            have G2 := hide G2
            clear b2 BC G)
          go_roundw
          case rel => exact ⟨k + 1, by omega, by go_num, G2.out.1, G2.out.2⟩
          case measure => simp [intOf]; omega
        · have hend1 : k + 1 < n := by omega
          have hnx : l[k + 1]? = some l[k + 1] := List.getElem?_eq_getElem (by omega)
          generalize l[k + 1] = cn at hnx
          obtain ⟨ad', e', _, n0, n1, n2, n3, n4⟩ := (hl.below (hb.mono hB)).five hnx
          injection e' with e'
          subst e'
          have la1 : (ad.add ((k + 1) * 5)).block < wr.heap.size := by rw [addBlock]; exact la
          have HN := hide hnx
          clear hnx
          by_cases hb2 : PG.kd cn = 2
          · have G := hide (FIN0.out (mend_stay HK.out (.inr (.inl ⟨ha1, cn, HN.out, hb2⟩))))
            rw [hb2] at n1
            clear FIN0 FIN1 BC
            go_wp2_with fail
            go_roundw
            case rel => exact ⟨k + 1, by omega, by go_num, (G.out _).1, (G.out _).2⟩
            case measure => simp [intOf]; omega
          · have G := hide (FIN1.out (mend_blank HK.out (.inl ⟨ha1, .inr ⟨cn, HN.out, hb2⟩⟩)))
            clear FIN0 FIN1
            go_wp2_with (
              go_at_call 72
              go_must (refine (BC.out (PG.pn cc) _).mono ?_)
              rintro e w2 ⟨rfl, b2⟩
              obtain ⟨⟨v0, v1, v2, v3, v4, f0, f1, f2, f3, f4⟩, G2⟩ := G.out _ _ b2
              have G2 := hide G2
              clear b2 BC G)
            go_roundw
            case rel => exact ⟨k + 1, by omega, by go_num, G2.out.1, G2.out.2⟩
            case measure => simp [intOf]; omega
      · by_cases ha2 : PG.kd cc = 2
        · rw [ha2] at d1
          by_cases hk0 : k < 1
          · have G := hide (FIN1.out (mend_blank HK.out (.inr ⟨ha2, .inl (by omega)⟩)))
            have hz : ((k : Int) == 0) = true := by simp; omega
            clear hk0
            clear FIN0 FIN1
            go_wp2_with (
              go_at_call 72
              go_must (refine (BC.out (PG.pn cc) _).mono ?_)
              rintro e w2 ⟨rfl, b2⟩
              obtain ⟨⟨v0, v1, v2, v3, v4, f0, f1, f2, f3, f4⟩, G2⟩ := G.out _ _ b2
              have G2 := hide G2
              clear b2 BC G)
            go_roundw
            case rel => exact ⟨k + 1, by omega, by go_num, G2.out.1, G2.out.2⟩
            case measure => simp [intOf]; omega
          · have hk1 : 0 < k := by omega
            have hnx : l[k - 1]? = some l[k - 1] := List.getElem?_eq_getElem (by omega)
            generalize l[k - 1] = cn at hnx
            obtain ⟨ad', e', _, n0, n1, n2, n3, n4⟩ := (hl.below (hb.mono hB)).five hnx
            injection e' with e'
            subst e'
            have la1 : (ad.add ((k - 1) * 5)).block < wr.heap.size := by rw [addBlock]; exact la
            have HN := hide hnx
            clear hnx
            by_cases hb1 : PG.kd cn = 1
            · have G := hide (FIN0.out (mend_stay HK.out (.inr (.inr ⟨ha2, cn, hk1, HN.out, hb1⟩))))
              rw [hb1] at n1
              clear FIN0 FIN1 BC
              go_wp2_with fail
              go_roundw
              case rel => exact ⟨k + 1, by omega, by go_num, (G.out _).1, (G.out _).2⟩
              case measure => simp [intOf]; omega
            · have G := hide (FIN1.out (mend_blank HK.out (.inr ⟨ha2, .inr ⟨cn, hk1, HN.out, hb1⟩⟩)))
              have hq : (PG.kd cn != 1) = true := by simpa using hb1
              clear FIN0 FIN1
              go_wp2_with (
                go_at_call 72
                go_must (refine (BC.out (PG.pn cc) _).mono ?_)
                rintro e w2 ⟨rfl, b2⟩
                obtain ⟨⟨v0, v1, v2, v3, v4, f0, f1, f2, f3, f4⟩, G2⟩ := G.out _ _ b2
                have G2 := hide G2
                clear b2 BC G)
              go_roundw
              case rel => exact ⟨k + 1, by omega, by go_num, G2.out.1, G2.out.2⟩
              case measure => simp [intOf]; omega
        · have G := hide (FIN0.out (mend_stay HK.out (.inl ⟨ha1, ha2⟩)))
          clear FIN0 FIN1 BC
          go_wp2_with fail
          go_roundw
          case rel => exact ⟨k + 1, by omega, by go_num, (G.out _).1, (G.out _).2⟩
          case measure => simp [intOf]; omega
    · obtain rfl : k = n := by omega
      rw [← hlen, halfM_all, hlen] at ho
      have ho := hide ho
      have hb := hide hb
      clear BC
      go_wp2_with fail
      go_ret
      exact ⟨_, rfl, ho.out, hb.out⟩
end Go.Proofs.YtdcdinlppjlmfaaDoor
namespace Go.Proofs.YtdcdinlppjlmfaaDoor
open Go.RowKit
set_option linter.unusedVariables false
/-- some of a row made blank -/
def wipeL (l : List PG.Cl) (a b : Nat) (p : PG.Pn) : List PG.Cl := (List.range l.length).map (PG.wiped (fnL l) a b p)
theorem wipeL_len (l : List PG.Cl) (a b : Nat) (p : PG.Pn) : (wipeL l a b p).length = l.length := by simp [wipeL]
theorem wipeL_at {l : List PG.Cl} {a b k : Nat} {p : PG.Pn} (hk : k < l.length) : (wipeL l a b p)[k]? = some (PG.wiped (fnL l) a b p k) := by
  unfold wipeL
  rw [List.getElem?_map, List.getElem?_range hk]
  rfl
theorem wipeL_none (l : List PG.Cl) (a b : Nat) (p : PG.Pn) (h : b ≤ a) : wipeL l a b p = l := by
  refine List.ext_getElem? fun k => ?_
  by_cases hk : k < l.length
  · rw [wipeL_at hk]
    unfold PG.wiped
    rw [if_neg (by omega)]
    unfold fnL
    rw [List.getElem?_eq_getElem hk]
    rfl
  · rw [List.getElem?_eq_none (by rw [wipeL_len]; omega), List.getElem?_eq_none (by omega)]
theorem wipeL_set {l : List PG.Cl} {a k : Nat} (p : PG.Pn) (ha : a ≤ k) (hk : k < l.length) : (wipeL l a k p).set k (PG.blank p) = wipeL l a (k + 1) p := by
  refine List.ext_getElem? fun j => ?_
  by_cases hj : j < l.length
  · rw [wipeL_at hj]
    by_cases e : j = k
    · subst e
      rw [List.getElem?_set_self (by rw [wipeL_len]; exact hj)]
      unfold PG.wiped
      rw [if_pos (by omega)]
    · rw [List.getElem?_set_ne (by omega), wipeL_at hj]
      unfold PG.wiped
      by_cases h : a ≤ j ∧ j < k
      · rw [if_pos h, if_pos (by omega)]
      · rw [if_neg h, if_neg (by omega)]
  · rw [List.getElem?_eq_none (by rw [List.length_set, wipeL_len]; omega), List.getElem?_eq_none (by rw [wipeL_len]; omega)]
set_option maxHeartbeats 4000000 in
theorem rwipe_t (R K r n c B a : Nat) (fr to t : Int) (p : PG.Pn) (A : Option Addr) (l : List PG.Cl) (w : World) (hl : SeenC w B A n l) (hB : B ≤ w.heap.size) (hn : n = R * K) (hnc : n ≤ c) (hc : c ≤ maxLen) (hr : r < R) (hR : R ≤ 40) (h0 : 1 ≤ K) (hK : K ≤ 60)
    (hf : -1000 ≤ fr ∧ fr ≤ 1000) (ht : -1000 ≤ to ∧ to ≤ 1000) (ha : (if fr < 0 then (0 : Int) else fr) = (a : Int)) (hT : (if (K : Int) < to then (K : Int) else to) = t) :
    Calls Tryd.prog 59 #[gv R K (.slice A n c), .int .i64 r, .int .i64 fr, .int .i64 to, pv p] w (GaveG w R K (spl l (r * K) (mendL (wipeL ((l.drop (r * K)).take K) a t.toNat p)))) := by
  have hle : r * K + K ≤ R * K := by rw [← Nat.succ_mul]; exact Nat.mul_le_mul_right K hr
  have hRK : R * K ≤ 2400 := Nat.mul_le_mul hR hK
  have hlen := hl.len
  have hrow : ((l.drop (r * K)).take K).length = K := by rw [List.length_take, List.length_drop]; omega
  have FR := hide (fun w' (hb : Below w.heap.size w w') => rrow_any R K r n c B A l w' (hl.below (Below.mono hb hB)) hn hnc hc hr hR hK)
  have FS := hide (fun w' (hb : Below w.heap.size w w') (A2 : Option Addr) (c2 : Nat) (ls : List PG.Cl) (B2 : Nat) (h2 : SeenC w' B2 A2 K ls) (hB2 : B2 ≤ w'.heap.size) (hBB : B ≤ B2) => rset_any R K r n c K c2 B2 A A2 l ls w' ((hl.below (Below.mono hb hB)).more hBB) h2 hB2 hn hr (Nat.le_refl _) hR h0 hK)
  have BC : ∀ (p : PG.Pn) (w' : World), Calls Tryd.prog 72 #[.agg #[.int .i64 p.1, .int .i64 p.2.1, .int .i64 p.2.2]] w' fun e w'' => e = .returned (.agg #[.int .i32 32, .int .i64 0, .int .i64 p.1, .int .i64 p.2.1, .int .i64 p.2.2]) ∧ Below w'.heap.size w' w'' := fun p w' => rblank_any p w'
  have BC := hide BC
  have hnx : r * K + K ≤ n := by omega
  have hn5 : 1 ≤ n ∧ n ≤ 2400 := by omega
  obtain ⟨i0, hi, hz0, hz1, hz2⟩ := info_parts info_cell
  generalize (l.drop (r * K)).take K = rw_ at *
  unfold GaveG gv at FS
  unfold gv at FR
  clear hn hRK hle
  generalize r * K = x at *
  clear hl
  unfold GaveG gv pv
  go_enter Tryd.func59, Tryd.ntmps59
  go_wp2_with fail
  go_region
  have ht3 : t ≤ K ∧ -1000 ≤ t := by rw [← hT]; split <;> omega
  have ha3 : a ≤ 1000 := by split at ha <;> omega
  clear ha hT hf ht
  have X0 : Box (((w.alloc (.cells #[.int .i64 R, .int .i64 K, .slice A n c] 24)).alloc (.cells #[.int .i64 p.1, .int .i64 p.2.1, .int .i64 p.2.2] 26)).alloc (.cells #[.int .i64 0, .int .i64 0, .slice none 0 0] 24)).drew w.heap.size 24 #[.int .i64 R, .int .i64 K, .slice A n c] := ((Box.new w _ _).alloc _).alloc _
  have X1 : Box (((w.alloc (.cells #[.int .i64 R, .int .i64 K, .slice A n c] 24)).alloc (.cells #[.int .i64 p.1, .int .i64 p.2.1, .int .i64 p.2.2] 26)).alloc (.cells #[.int .i64 0, .int .i64 0, .slice none 0 0] 24)).drew (w.heap.size + 1) 26 #[.int .i64 p.1, .int .i64 p.2.1, .int .i64 p.2.2] := by
    have h := (Box.new (w.alloc (.cells #[.int .i64 R, .int .i64 K, .slice A n c] 24)) 26 #[.int .i64 p.1, .int .i64 p.2.1, .int .i64 p.2.2]).alloc (.cells #[.int .i64 0, .int .i64 0, .slice none 0 0] 24)
    rw [World.size_alloc] at h
    exact h
  have X2 : Box (((w.alloc (.cells #[.int .i64 R, .int .i64 K, .slice A n c] 24)).alloc (.cells #[.int .i64 p.1, .int .i64 p.2.1, .int .i64 p.2.2] 26)).alloc (.cells #[.int .i64 0, .int .i64 0, .slice none 0 0] 24)).drew (w.heap.size + 1 + 1) 24 #[.int .i64 0, .int .i64 0, .slice none 0 0] := by
    have h := Box.new ((w.alloc (.cells #[.int .i64 R, .int .i64 K, .slice A n c] 24)).alloc (.cells #[.int .i64 p.1, .int .i64 p.2.1, .int .i64 p.2.2] 26)) 24 #[.int .i64 0, .int .i64 0, .slice none 0 0]
    rw [World.size_alloc, World.size_alloc] at h
    exact h
  have hb : Below w.heap.size w (((w.alloc (.cells #[.int .i64 R, .int .i64 K, .slice A n c] 24)).alloc (.cells #[.int .i64 p.1, .int .i64 p.2.1, .int .i64 p.2.2] 26)).alloc (.cells #[.int .i64 0, .int .i64 0, .slice none 0 0] 24)).drew := Below.drew ((((Below.refl _ _).alloc (Nat.le_refl _) _).alloc (by simp) _).alloc (by simp; omega) _)
  generalize (((w.alloc (.cells #[.int .i64 R, .int .i64 K, .slice A n c] 24)).alloc (.cells #[.int .i64 p.1, .int .i64 p.2.1, .int .i64 p.2.2] 26)).alloc (.cells #[.int .i64 0, .int .i64 0, .slice none 0 0] 24)).drew = W at *
  have l0 := X0.lt
  have l1 := X1.lt
  have l2 := X2.lt
  obtain ⟨y0, y1, y2, _⟩ := X0.three
  go_wp2_with (first
    | (go_at_call 71
       go_must (refine (FR.out _ (hb.alloc hb.size _)).mono ?_)
       rintro e w1 ⟨⟨A1, c1, rfl, hs1, hk1, hk2⟩, b1⟩
       have hs1 := hs1.below (b1.mono (show B ≤ _ by rw [World.size_alloc]; have := hb.size; omega))
       have OL := ((own_lit5 (w := W) (base := w.heap.size) 58 rfl hb.size).kept (grown_of_below b1 none) (by simp [Value.ownBlock]) : w1.ownsRow w.heap.size 58 5 (.slice (some ⟨W.heap.size, 0, none⟩) 0 0) 0 (ccells []))
       have b1' : Below W.heap.size W w1 := ((Below.refl _ _).alloc (Nat.le_refl _) _).trans (b1.mono (by rw [World.size_alloc]; omega)))
    | (at_builtin
       go_must (refine wpList_appC rfl (.tmp 28) (.tmp 31) 22 rfl w.heap.size 58 i0 _ 40 Tryd.underlying22 hi hz0 hz1 hz2 rfl (.slice (some ⟨W.heap.size, 0, none⟩) 0 0) 0 [] rfl OL B A1 K c1 rw_ rfl hs1 (by omega) (by omega) (Nat.le_trans hb.size b1'.size) ?_)
       intro v2 w2 hown2 hg2 hm2
       simp only [Nat.zero_add, List.nil_append] at hown2
       obtain ⟨g, cap, rfl, hgb, hgc, hgm⟩ := own_at hown2 h0
       have Y0 := (X0.below b1' l0).grown hg2 (by simp [Value.ownBlock]; omega)
       have Y1 := (X1.below b1' l1).grown hg2 (by simp [Value.ownBlock]; omega)
       have Y2 := (X2.below b1' l2).grown hg2 (by simp [Value.ownBlock]; omega)
       have bb : Below w.heap.size w w2 := (hb.trans (b1'.mono hb.size)).grown hg2 (Nat.le_trans hb.size b1'.size) (by rintro _ ⟨⟩; exact hb.size)
       clear hg2 hm2 b1 b1' OL hs1 X0 X1 X2 hb l0 l1 l2 y0 y1 y2))
  go_loopw [12] (fun i wr => ∃ k : Nat, a ≤ k ∧ (k ≤ a ∨ (k : Int) ≤ t) ∧ i = .int .i64 k ∧ Box wr w.heap.size 24 #[.int .i64 R, .int .i64 K, .slice A n c] ∧ Box wr (w.heap.size + 1) 26 #[.int .i64 p.1, .int .i64 p.2.1, .int .i64 p.2.2] ∧ Box wr (w.heap.size + 1 + 1) 24 #[.int .i64 0, .int .i64 0, .slice none 0 0] ∧
      wr.ownsRow w.heap.size 58 5 (.slice (some ⟨g, 0, none⟩) K cap) K (ccells (wipeL rw_ a k p)) ∧ Below w.heap.size w wr)
    (fun i _ => (t - intOf i).toNat)
  case atStart => exact ⟨a, Nat.le_refl _, .inl (Nat.le_refl _), rfl, Y0, Y1, Y2, by rw [wipeL_none _ _ _ _ (Nat.le_refl _)]; exact hown2, bb⟩
  case round =>
    clear hown2 bb Y0 Y1 Y2 FR
    obtain ⟨k, hka, hkt, rfl, x0, x1, x2, ho, hb⟩ := hrel
    obtain ⟨y0, y1, y2, _⟩ := x1.three
    have l1 := x1.lt
    have l2 : g < wr.heap.size := (ho.lt g rfl).2
    have lb : w.heap.size ≤ wr.heap.size := hb.size
    by_cases hlt : (k : Int) < t
    · have hwl := wipeL_len rw_ a k p
      have hck : (wipeL rw_ a k p)[k]? = some (wipeL rw_ a k p)[k] := List.getElem?_eq_getElem (by omega)
      generalize (wipeL rw_ a k p)[k] = cd at hck
      have FIN : ∀ w3, Below wr.heap.size wr w3 →
          (w3.cell? ⟨g, k * 5, none⟩ = some (.int .i32 (PG.rn cd)) ∧ w3.cell? ⟨g, k * 5 + 1, none⟩ = some (.int .i64 (PG.kd cd)) ∧ w3.cell? ⟨g, k * 5 + 2, none⟩ = some (.int .i64 (PG.pn cd).1) ∧ w3.cell? ⟨g, k * 5 + 3, none⟩ = some (.int .i64 (PG.pn cd).2.1) ∧ w3.cell? ⟨g, k * 5 + 4, none⟩ = some (.int .i64 (PG.pn cd).2.2) ∧
            w3.frozen? ⟨g, k * 5, none⟩ = false ∧ w3.frozen? ⟨g, k * 5 + 1, none⟩ = false ∧ w3.frozen? ⟨g, k * 5 + 2, none⟩ = false ∧ w3.frozen? ⟨g, k * 5 + 3, none⟩ = false ∧ w3.frozen? ⟨g, k * 5 + 4, none⟩ = false) ∧
          Box (store5 w3 g (k * 5) (PG.blank p)) w.heap.size 24 #[.int .i64 R, .int .i64 K, .slice A n c] ∧ Box (store5 w3 g (k * 5) (PG.blank p)) (w.heap.size + 1) 26 #[.int .i64 p.1, .int .i64 p.2.1, .int .i64 p.2.2] ∧ Box (store5 w3 g (k * 5) (PG.blank p)) (w.heap.size + 1 + 1) 24 #[.int .i64 0, .int .i64 0, .slice none 0 0] ∧
          (store5 w3 g (k * 5) (PG.blank p)).ownsRow w.heap.size 58 5 (.slice (some ⟨g, 0, none⟩) K cap) K (ccells (wipeL rw_ a (k + 1) p)) ∧ Below w.heap.size w (store5 w3 g (k * 5) (PG.blank p)) := fun w3 h3 => by
        have m0 := own_ne_box ho x0 (by decide)
        have m1 := own_ne_box ho x1 (by decide)
        have m2 := own_ne_box ho x2 (by decide)
        have o3 := ho.kept (grown_of_below h3 none) (by simp [Value.ownBlock])
        have S := own_store5 o3 (k := k) (PG.blank p) (by omega) (by omega)
        have hs3 := h3.size
        refine ⟨own_five o3 hck, (x0.below h3 x0.lt).grown S.2 (fun e => m0 e.symm), (x1.below h3 x1.lt).grown S.2 (fun e => m1 e.symm), (x2.below h3 x2.lt).grown S.2 (fun e => m2 e.symm), ?_, (hb.trans (h3.mono lb)).grown S.2 (by omega) (by rintro _ ⟨⟩; omega)⟩
        rw [← wipeL_set p hka (by omega)]
        exact S.1
      have FIN := hide FIN
      clear ho hck x0 x1 x2
      go_wp2_with (
        go_at_call 72
        go_must (refine (BC.out p _).mono ?_)
        rintro e w3 ⟨rfl, b3⟩
        obtain ⟨⟨v0, v1, v2, v3, v4, f0, f1, f2, f3, f4⟩, G2⟩ := FIN.out _ b3
        have G2 := hide G2
        clear b3 FIN)
      go_roundw
      case rel => exact ⟨k + 1, by omega, .inr (by omega), by go_num, G2.out⟩
      case measure => simp [intOf]; omega
    · have hwe : wipeL rw_ a k p = wipeL rw_ a t.toNat p := by
        rcases hkt with h | h
        · rw [wipeL_none _ _ _ _ h, wipeL_none _ _ _ _ (by omega)]
        · rw [show t.toNat = k from by omega]
      rw [hwe] at ho
      have hwl := wipeL_len rw_ a t.toNat p
      clear hwe
      generalize hlw : wipeL rw_ a t.toNat p = lw at ho hwl
      have hlw := hide hlw
      have MD := hide (fun w' (h : InReg wr w') => rmend_any K cap wr.heap.size (some ⟨g, 0, none⟩) lw w' ((SeenC.of_own ho).below h) h.size h0 (by omega))
      have ST := hide (fun w' (h : InReg wr w') (A2 : Option Addr) (c2 : Nat) (h2 : SeenC w' w'.heap.size A2 K (mendL lw)) => FS.out w' (hb.trans (Below.mono h lb)) A2 c2 (mendL lw) w'.heap.size h2 (Nat.le_refl _) (by have := h.size; omega))
      have z0 := x0.three
      have z2 := x2.three
      have R0 : ∀ w', Box w' w.heap.size 24 #[.int .i64 R, .int .i64 K, .slice A n c] → w'.cell? ⟨w.heap.size, 0, none⟩ = some (.int .i64 R) := fun w' h => h.three.1
      have R1 : ∀ w', Box w' w.heap.size 24 #[.int .i64 R, .int .i64 K, .slice A n c] → w'.cell? ⟨w.heap.size, 1, none⟩ = some (.int .i64 K) := fun w' h => h.three.2.1
      have R2 : ∀ w', Box w' w.heap.size 24 #[.int .i64 R, .int .i64 K, .slice A n c] → w'.cell? ⟨w.heap.size, 2, none⟩ = some (.slice A n c) := fun w' h => h.three.2.2.1
      have kb0 : Box wr.drew w.heap.size 24 #[.int .i64 R, .int .i64 K, .slice A n c] := x0
      have X0 := hide x0
      have Q0 : ∀ w', InReg wr w' → w'.cell? ⟨w.heap.size + 1 + 1, 0, none⟩ = some (.int .i64 0) := fun w' h => (h.box x2).three.1
      have Q1 : ∀ w', InReg wr w' → w'.cell? ⟨w.heap.size + 1 + 1, 1, none⟩ = some (.int .i64 0) := fun w' h => (h.box x2).three.2.1
      have Q2 : ∀ w', InReg wr w' → w'.cell? ⟨w.heap.size + 1 + 1, 2, none⟩ = some (.slice none 0 0) := fun w' h => (h.box x2).three.2.2.1
      have Q3 : ∀ w', InReg wr w' → w'.frozen? ⟨w.heap.size + 1 + 1, 0, none⟩ = false := fun w' h => (h.box x2).three.2.2.2.1
      have Q4 : ∀ w', InReg wr w' → w'.frozen? ⟨w.heap.size + 1 + 1, 1, none⟩ = false := fun w' h => (h.box x2).three.2.2.2.2.1
      have Q5 : ∀ w', InReg wr w' → w'.frozen? ⟨w.heap.size + 1 + 1, 2, none⟩ = false := fun w' h => (h.box x2).three.2.2.2.2.2
      have X2 := hide x2
      have HB := hide hb
      have hd0 : InReg wr wr.drew := (InReg.refl _).drew
      have hX := Lib.hid hd0
      have hbx := kb0
      have hby := kb0
      clear FS BC ho x0 x1 x2 z0 z2 hb y0 y1 y2
      go_wp2_with fail
      go_region_held_law (fun w' => Box w' w.heap.size 24 #[.int .i64 R, .int .i64 K, .slice A n c]) (first | with_reducible exact kb0 | with_reducible exact hbx | with_reducible exact hby)
        (first
          | (go_at_call 79; refine (MD.out _ (by assumption)).mono ?_; rintro e wm ⟨vm, rfl, om, bm⟩; obtain ⟨Am, cm, rfl, _⟩ := own_form' om; have sm := SeenC.of_own om; have hX := Lib.hid (InReg.call (show InReg wr _ from by assumption) bm); have hbx := hX.out.box X0.out)
          | (go_at_call 73; refine (ST.out _ hX.out _ _ sm).mono ?_; rintro e ws ⟨vs, rfl, os, bs⟩; obtain ⟨As, cs, rfl, _⟩ := own_form' os; have hX := Lib.hid (InReg.call hX.out bs); have hbx := hX.out.box X0.out; have hby := ((hbx.far (p := ⟨w.heap.size + 1 + 1, 0, none⟩) (by show w.heap.size ≠ w.heap.size + 1 + 1; omega) (.int .i64 R)).far (p := ⟨w.heap.size + 1 + 1, 1, none⟩) (by show w.heap.size ≠ w.heap.size + 1 + 1; omega) (.int .i64 K)).far (p := ⟨w.heap.size + 1 + 1, 2, none⟩) (by show w.heap.size ≠ w.heap.size + 1 + 1; omega) (.slice As (spl l x (mendL lw)).length cs); have j0 := Q0 _ hX.out; have j1 := Q1 _ hX.out; have j2 := Q2 _ hX.out; have j3 := Q3 _ hX.out; have j4 := Q4 _ hX.out; have j5 := Q5 _ hX.out))
      have xr := hX.out.box X2.out
      have Z := xr.set3 (.int .i64 R) (.int .i64 K) (.slice As (spl l x (mendL lw)).length cs)
      have m := own_ne_box os xr (by decide)
      have O := own_base' (ownsRow_setCell_other (ownsRow_setCell_other (ownsRow_setCell_other os (a := ⟨w.heap.size + 1 + 1, 0, none⟩) m (.int .i64 R)) (a := ⟨w.heap.size + 1 + 1, 1, none⟩) m (.int .i64 K)) (a := ⟨w.heap.size + 1 + 1, 2, none⟩) m (.slice As (spl l x (mendL lw)).length cs)) (Nat.le_trans lb bm.size)
      have bz := below_set3 (HB.out.trans (Below.mono hX.out lb)) (show w.heap.size ≤ w.heap.size + 1 + 1 by omega) (.int .i64 R) (.int .i64 K) (.slice As (spl l x (mendL lw)).length cs)
      obtain ⟨e0, e1, e2, _⟩ := Z.three
      have O := hide O
      have bz := hide bz
      clear R0 R1 R2 Q0 Q1 Q2 Q3 Q4 Q5 j0 j1 j2 j3 j4 j5 hbx hby MD ST os om bm bs
      go_wp2_with fail
      refine bodyPost_ret (v := .agg #[.int .i64 R, .int .i64 K, .slice As (spl l x (mendL lw)).length cs]) (by simp [results, Tryd.results59, go_sem, e0, e1, e2]) rfl ⟨_, rfl, by rw [hlw.out]; exact O.out, bz.out⟩
end Go.Proofs.YtdcdinlppjlmfaaDoor
