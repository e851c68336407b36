/- A grid's cells in memory: five cells of the heap each; append of a row of structs that is seen; one struct written into a row of the call's own. -/
import Derived.Test.YtcbmjdacdjcggaaDoorKept
import Derived.Test.YtcbmjdacdjcggaaDoorArgs
import Derived.Test.YtcbmjdacdjcggaaDoorEnds
import Derived.Test.YtcbmjdacdjcggaaDoorInReg
import Derived.Test.YtcbmjdacdjcggaaDoorGridList
namespace Go.Proofs.YtcbmjdacdjcggaaDoor
open Go.RowKit
set_option linter.unusedVariables false
def c5 (c : PG.Cl) : List Value := [.int .i32 (PG.rn c), .int .i64 (PG.kd c), .int .i64 (PG.pn c).1, .int .i64 (PG.pn c).2.1, .int .i64 (PG.pn c).2.2]
def cv (c : PG.Cl) : Value := .agg #[.int .i32 (PG.rn c), .int .i64 (PG.kd c), .int .i64 (PG.pn c).1, .int .i64 (PG.pn c).2.1, .int .i64 (PG.pn c).2.2]
def pv (p : PG.Pn) : Value := .agg #[.int .i64 p.1, .int .i64 p.2.1, .int .i64 p.2.2]
def ccells (l : List PG.Cl) : List Value := l.flatMap c5
theorem ccells_nil : ccells [] = [] := rfl
theorem ccells_cons (c : PG.Cl) (l : List PG.Cl) : ccells (c :: l) = c5 c ++ ccells l := rfl
theorem ccells_append (a b : List PG.Cl) : ccells (a ++ b) = ccells a ++ ccells b := by simp [ccells]
theorem ccells_len (l : List PG.Cl) : (ccells l).length = l.length * 5 := by
  induction l with
  | nil => rfl
  | cons c l ih => rw [ccells_cons, List.length_append, ih, List.length_cons]; show 5 + _ = _; omega
theorem ccells_at : ∀ (l : List PG.Cl) (k j : Nat) (c : PG.Cl) (u : Value), l[k]? = some c → (c5 c)[j]? = some u → (ccells l)[k * 5 + j]? = some u
  | [], k, j, c, u, h, _ => by simp at h
  | d :: l, 0, j, c, u, h, hu => by
    simp at h
    subst h
    have hj : j < 5 := (List.getElem?_eq_some_iff.1 hu).1
    rw [ccells_cons, Nat.zero_mul, Nat.zero_add, List.getElem?_append_left (by show j < 5; exact hj)]
    exact hu
  | d :: l, k + 1, j, c, u, h, hu => by
    have ih := ccells_at l k j c u (by simpa using h) hu
    rw [ccells_cons, List.getElem?_append_right (by show 5 ≤ _; omega), show (k + 1) * 5 + j - (c5 d).length = k * 5 + j from by show (k + 1) * 5 + j - 5 = _; omega]
    exact ih
theorem ccells_one (l : List PG.Cl) : ∀ u ∈ ccells l, u.oneCell' = true := by
  intro u hu
  obtain ⟨c, _, hu⟩ := List.mem_flatMap.1 hu
  simp only [c5, List.mem_cons, List.not_mem_nil, or_false] at hu
  rcases hu with rfl | rfl | rfl | rfl | rfl <;> rfl
theorem ccells_take (l : List PG.Cl) (k : Nat) : (ccells l).take (k * 5) = ccells (l.take k) := by
  induction l generalizing k with
  | nil => simp [ccells]
  | cons c l ih =>
    cases k with
    | zero => simp [ccells]
    | succ k =>
      rw [ccells_cons, List.take_succ_cons, ccells_cons, List.take_append, ← ih k, List.take_of_length_le (l := c5 c) (by show 5 ≤ _; omega)]
      congr 2
      show (k + 1) * 5 - 5 = k * 5
      omega
theorem ccells_drop (l : List PG.Cl) (k : Nat) : (ccells l).drop (k * 5) = ccells (l.drop k) := by
  induction l generalizing k with
  | nil => simp [ccells]
  | cons c l ih =>
    cases k with
    | zero => simp
    | succ k =>
      rw [ccells_cons, List.drop_succ_cons, ← ih k, List.drop_append, List.drop_of_length_le (l := c5 c) (by show 5 ≤ _; omega), List.nil_append]
      congr 1
      show (k + 1) * 5 - 5 = k * 5
      omega
/-- five cells written, one behind the other -/
def set5 (xs : List Value) (o : Nat) (c : PG.Cl) : List Value := ((((xs.set o (.int .i32 (PG.rn c))).set (o + 1) (.int .i64 (PG.kd c))).set (o + 2) (.int .i64 (PG.pn c).1)).set (o + 3) (.int .i64 (PG.pn c).2.1)).set (o + 4) (.int .i64 (PG.pn c).2.2)
theorem set5_far (a : List Value) (xs : List Value) (o : Nat) (c : PG.Cl) : set5 (a ++ xs) (a.length + o) c = a ++ set5 xs o c := by
  have h : ∀ (ys : List Value) (j : Nat) (u : Value), (a ++ ys).set (a.length + j) u = a ++ ys.set j u := fun ys j u => by
    rw [List.set_append_right _ _ (by omega), Nat.add_sub_cancel_left]
  unfold set5
  rw [h, Nat.add_assoc, h, Nat.add_assoc, h, Nat.add_assoc, h, Nat.add_assoc, h]
theorem set5_cells : ∀ (l : List PG.Cl) (k : Nat) (c : PG.Cl), k < l.length → set5 (ccells l) (k * 5) c = ccells (l.set k c)
  | [], k, c, h => by simp at h
  | d :: l, 0, c, h => by
    rw [List.set_cons_zero, ccells_cons, ccells_cons]
    rfl
  | d :: l, k + 1, c, h => by
    have ih := set5_cells l k c (by simpa using h)
    rw [List.set_cons_succ, ccells_cons, ccells_cons, ← ih, ← set5_far]
    congr 1
    show (k + 1) * 5 = 5 + k * 5
    omega
/-- the slice (A, n) reads as the cells l -/
def SeenC (w : World) (B : Nat) (A : Option Addr) (n : Nat) (l : List PG.Cl) : Prop := Seen w B A (n * 5) (ccells l)
section
variable {w w' : World} {B B' n : Nat} {A : Option Addr} {l : List PG.Cl}
theorem SeenC.len (h : SeenC w B A n l) : l.length = n := by
  have := h.1
  rw [ccells_len] at this
  omega
theorem SeenC.nil_ (w : World) (B : Nat) (A : Option Addr) : SeenC w B A 0 [] := Seen.nil_ w B A
theorem SeenC.below (h : SeenC w B A n l) (hb : Below B w w') : SeenC w' B A n l := Seen.below h hb
theorem SeenC.more (h : SeenC w B A n l) (hB : B ≤ B') : SeenC w B' A n l := Seen.more h hB
theorem SeenC.of_own {base : Nat} {e : TypeId} {c : Nat} (h : w.ownsRow base e 5 (.slice A n c) n (ccells l)) : SeenC w w.heap.size A n l := by
  refine ⟨h.1, fun j u hu => ?_⟩
  rcases h.2 with ⟨_, rfl⟩ | ⟨g, cap, cur, hv, _, hh, _, _, _, _⟩
  · have := h.1
    rw [List.eq_nil_of_length_eq_zero (l := ccells l) (by omega)] at hu
    simp at hu
  · injection hv with hA
    subst hA
    exact ⟨_, rfl, (Array.getElem?_eq_some_iff.1 hh).1, h.cells (g := g) rfl j u hu⟩
/-- one of them, its five cells -/
theorem SeenC.at_ (h : SeenC w B A n l) {k : Nat} {c : PG.Cl} (hk : l[k]? = some c) : ∃ ad, A = some ad ∧ ad.block < B ∧ ∀ j u, (c5 c)[j]? = some u → w.cell? (ad.add (k * 5 + j)) = some u := by
  obtain ⟨ad, h1, h2, _⟩ := h.2 (k * 5 + 0) _ (ccells_at l k 0 c _ hk rfl)
  refine ⟨ad, h1, h2, fun j u hu => ?_⟩
  obtain ⟨ad', h1', _, h3⟩ := h.2 (k * 5 + j) u (ccells_at l k j c u hk hu)
  rw [h1] at h1'
  injection h1' with e
  subst e
  exact h3
theorem add_next (ad : Addr) (x j : Nat) (hj : 0 < j) : ad.add (x + j) = ⟨(ad.add x).block, (ad.add x).off + j, none⟩ := by
  unfold Addr.add
  by_cases hx : x = 0
  · subst hx
    simp
    omega
  · rw [if_neg (by omega), if_neg hx]
    simp [Nat.add_assoc]
/-- one of them, as a load of the struct asks for it -/
theorem SeenC.five (h : SeenC w B A n l) {k : Nat} {c : PG.Cl} (hk : l[k]? = some c) : ∃ ad, A = some ad ∧ ad.block < B ∧ w.cell? (ad.add (k * 5)) = some (.int .i32 (PG.rn c)) ∧ w.cell? ⟨(ad.add (k * 5)).block, (ad.add (k * 5)).off + 1, none⟩ = some (.int .i64 (PG.kd c)) ∧
    w.cell? ⟨(ad.add (k * 5)).block, (ad.add (k * 5)).off + 2, none⟩ = some (.int .i64 (PG.pn c).1) ∧ w.cell? ⟨(ad.add (k * 5)).block, (ad.add (k * 5)).off + 3, none⟩ = some (.int .i64 (PG.pn c).2.1) ∧ w.cell? ⟨(ad.add (k * 5)).block, (ad.add (k * 5)).off + 4, none⟩ = some (.int .i64 (PG.pn c).2.2) := by
  obtain ⟨ad, h1, h2, h3⟩ := h.at_ hk
  refine ⟨ad, h1, h2, h3 0 _ rfl, ?_, ?_, ?_, ?_⟩
  · rw [← add_next ad (k * 5) 1 (by omega)]; exact h3 1 _ rfl
  · rw [← add_next ad (k * 5) 2 (by omega)]; exact h3 2 _ rfl
  · rw [← add_next ad (k * 5) 3 (by omega)]; exact h3 3 _ rfl
  · rw [← add_next ad (k * 5) 4 (by omega)]; exact h3 4 _ rfl
/-- some of them -/
theorem SeenC.drop (h : SeenC w B A n l) {k cap : Nat} (hk : k ≤ n) (hc : n ≤ cap) : SeenC w B (if cap = k then A else A.map (·.add (k * 5))) (n - k) (l.drop k) := by
  have := Seen.drop h (k := k * 5) (cap := cap * 5) (by omega) (by omega)
  unfold SeenC
  rw [← ccells_drop]
  have e : (if cap = k then A else A.map (·.add (k * 5))) = (if cap * 5 = k * 5 then A else A.map (·.add (k * 5))) := by
    by_cases h : cap = k
    · rw [if_pos h, if_pos (by omega)]
    · rw [if_neg h, if_neg (by omega)]
  rw [e, show (n - k) * 5 = n * 5 - k * 5 from by omega]
  exact this
theorem SeenC.take (h : SeenC w B A n l) {k : Nat} (hk : k ≤ n) : SeenC w B A k (l.take k) := by
  unfold SeenC
  rw [← ccells_take]
  exact Seen.take h (by omega)
end
/-- one struct of five cells written into a row of the call's own -/
def store5 (w : World) (g o : Nat) (c : PG.Cl) : World := ((((w.setCell ⟨g, o, none⟩ (.int .i32 (PG.rn c))).setCell ⟨g, o + 1, none⟩ (.int .i64 (PG.kd c))).setCell ⟨g, o + 2, none⟩ (.int .i64 (PG.pn c).1)).setCell ⟨g, o + 3, none⟩ (.int .i64 (PG.pn c).2.1)).setCell ⟨g, o + 4, none⟩ (.int .i64 (PG.pn c).2.2)
theorem grown_five {w w1 w2 w3 w4 w5 : World} {r : Option Nat} (h1 : w.grownBy w1 r) (h2 : w1.grownBy w2 r) (h3 : w2.grownBy w3 r) (h4 : w3.grownBy w4 r) (h5 : w4.grownBy w5 r) : w.grownBy w5 r := by
  have two : ∀ {a b c : World}, a.grownBy b r → b.grownBy c r → a.grownBy c r := fun h k =>
    ⟨k.os.trans h.os, k.tape.trans h.tape, k.output.trans h.output, Nat.le_trans h.size k.size, fun i hi hne => (k.block i (Nat.lt_of_lt_of_le hi h.size) hne).trans (h.block i hi hne)⟩
  exact two (two (two (two h1 h2) h3) h4) h5
theorem own_store5 {w : World} {base n g cap : Nat} {e : TypeId} {l : List PG.Cl} (h : w.ownsRow base e 5 (.slice (some ⟨g, 0, none⟩) n cap) n (ccells l)) {k : Nat} (c : PG.Cl) (hk : k < n) (hl : l.length = n) :
    (store5 w g (k * 5) c).ownsRow base e 5 (.slice (some ⟨g, 0, none⟩) n cap) n (ccells (l.set k c)) ∧ w.grownBy (store5 w g (k * 5) c) (some g) := by
  obtain ⟨h1, g1⟩ := h.stored (k * 5) (.int .i32 (PG.rn c))
  obtain ⟨h2, g2⟩ := h1.stored (k * 5 + 1) (.int .i64 (PG.kd c))
  obtain ⟨h3, g3⟩ := h2.stored (k * 5 + 2) (.int .i64 (PG.pn c).1)
  obtain ⟨h4, g4⟩ := h3.stored (k * 5 + 3) (.int .i64 (PG.pn c).2.1)
  obtain ⟨h5, g5⟩ := h4.stored (k * 5 + 4) (.int .i64 (PG.pn c).2.2)
  refine ⟨?_, ?_⟩
  · rw [← set5_cells l k c (by omega)]
    exact h5
  · exact grown_five g1 g2 g3 g4 g5
/-- one of a row of the call's own, as a load or a store of the struct asks for it -/
theorem own_five {w : World} {base n g cap : Nat} {e : TypeId} {l : List PG.Cl} (h : w.ownsRow base e 5 (.slice (some ⟨g, 0, none⟩) n cap) n (ccells l)) {k : Nat} {c : PG.Cl} (hk : l[k]? = some c) :
    w.cell? ⟨g, k * 5, none⟩ = some (.int .i32 (PG.rn c)) ∧ w.cell? ⟨g, k * 5 + 1, none⟩ = some (.int .i64 (PG.kd c)) ∧ w.cell? ⟨g, k * 5 + 2, none⟩ = some (.int .i64 (PG.pn c).1) ∧ w.cell? ⟨g, k * 5 + 3, none⟩ = some (.int .i64 (PG.pn c).2.1) ∧ w.cell? ⟨g, k * 5 + 4, none⟩ = some (.int .i64 (PG.pn c).2.2) ∧
    w.frozen? ⟨g, k * 5, none⟩ = false ∧ w.frozen? ⟨g, k * 5 + 1, none⟩ = false ∧ w.frozen? ⟨g, k * 5 + 2, none⟩ = false ∧ w.frozen? ⟨g, k * 5 + 3, none⟩ = false ∧ w.frozen? ⟨g, k * 5 + 4, none⟩ = false := by
  have at_ : ∀ j u, (c5 c)[j]? = some u → w.cell? ⟨g, k * 5 + j, none⟩ = some u := fun j u hu => by
    have h1 := ccells_at l k j c u hk hu
    have := h.cells (g := g) rfl (k * 5 + j) u h1
    rw [Addr.add_lit, Nat.zero_add] at this
    exact this
  exact ⟨at_ 0 _ rfl, at_ 1 _ rfl, at_ 2 _ rfl, at_ 3 _ rfl, at_ 4 _ rfl, h.frozenAt _, h.frozenAt _, h.frozenAt _, h.frozenAt _, h.frozenAt _⟩
/-- append(out, ys...) of structs: whatever slice the source is, nil too -/
theorem wp_appC {P : Program} {w : World} {o : Oper} {a : Act} {K : Act → World → Prop} {Q : Exit → Act → World → Prop} (s x : Operand) (t : TypeId)
    (ho : o.op = .call { callee := .builtin .append, args := #[s, x], argTypes := #[t, t] })
    (base : Nat) (e : TypeId) (i : TypeInfo) (z : Value) (bytes : Nat) (ht : P.underlying t = some (.slice e)) (hi : P.info? e = some i) (hz : i.zero = some z)
    (hsize : i.size = 5) (hby : i.bytes = bytes) (hzs : z.cells.size = 5)
    (v : Value) (n : Nat) (xs : List PG.Cl) (hs : a.eval s = v) (hown : w.ownsRow base e 5 v n (ccells xs))
    (B : Nat) (A : Option Addr) (m c : Nat) (ys : List PG.Cl) (hx : a.eval x = .slice A m c) (hy : SeenC w B A m ys) (hb8 : bytes ≤ 64) (hn : n + m ≤ 1099511627776) (hbase : base ≤ w.heap.size)
    (h : ∀ v' w', w'.ownsRow base e 5 v' (n + m) (ccells (xs ++ ys)) → w.grownBy w' v.ownBlock → Moved w v v' → K (a.put o.dst v') w') :
    o.wp P a w K Q := by
  rw [ccells_append] at h
  have hlen := hy.len
  rcases A with _ | ad
  · have hn0 : ys = [] := by
      rcases ys with _ | ⟨y, ys⟩
      · rfl
      · obtain ⟨ad, h0, _⟩ := hy.at_ (k := 0) rfl
        cases h0
    subst hn0
    have hm : m = 0 := by simpa using hlen.symm
    subst hm
    have hrun : (Builtin.append_ #[t, t] o.type #[v, .slice none 0 c]).run P w = .ok v w := by
      rcases hown.2 with ⟨rfl, rfl⟩ | ⟨g, cap, cur, rfl, _, _, hnc, _⟩
      · simp [Builtin.append_, run_underlying ht, sizeOf, typeInfo, hi, Builtin.lenOf, Builtin.firstCells]
      · simp [Builtin.append_, run_underlying ht, sizeOf, typeInfo, hi, Builtin.lenOf, Builtin.firstCells, hnc, storeCells]
    unfold Oper.wp
    simp [execOp, ho, resolve, invoke, builtin, hs, hx, hrun, Result.andThen]
    exact h v w (by simpa [ccells] using hown) (grown_refl _ _) (.inl rfl)
  · obtain ⟨v', w', hr, h2, h3, _, h5⟩ := run_append_own_at (P := P) w base t o.type e i z 5 bytes ht hi hz hsize hby hzs (by omega) v n (ccells xs) hown ad m c (ccells ys) hy.1 (fun j u hu => by
      obtain ⟨ad', h1, _, h3⟩ := hy.2 j u hu
      injection h1 with h1
      subst h1
      exact h3) (ccells_one ys) (by simp only [maxLen]; omega) (by have : (n + m) * bytes ≤ 1099511627776 * 64 := Nat.mul_le_mul hn hb8; omega) hbase
    unfold Oper.wp execOp
    simp only [ho, resolve, invoke, builtin, Sem.run_bind, Sem.run_pure, Result.andThen_ok, List.map_toArray, List.map_cons, List.map_nil, hs, hx, hr]
    refine h v' w' h2 h3 ?_
    rcases h5 with hat | hat
    · exact .inl hat
    · exact .inr ⟨_, hat, Nat.le_refl _⟩
theorem wpList_appC {P : Program} {w : World} {ops : Array Oper} {rest : List Oper} {o : Oper} {a : Act} {Q : Exit → Act → World → Prop} (hgd : o.guard = none) (s x : Operand) (t : TypeId)
    (ho : o.op = .call { callee := .builtin .append, args := #[s, x], argTypes := #[t, t] })
    (base : Nat) (e : TypeId) (i : TypeInfo) (z : Value) (bytes : Nat) (ht : P.underlying t = some (.slice e)) (hi : P.info? e = some i) (hz : i.zero = some z)
    (hsize : i.size = 5) (hby : i.bytes = bytes) (hzs : z.cells.size = 5)
    (v : Value) (n : Nat) (xs : List PG.Cl) (hs : a.eval s = v) (hown : w.ownsRow base e 5 v n (ccells xs))
    (B : Nat) (A : Option Addr) (m c : Nat) (ys : List PG.Cl) (hx : a.eval x = .slice A m c) (hy : SeenC w B A m ys) (hb8 : bytes ≤ 64) (hn : n + m ≤ 1099511627776) (hbase : base ≤ w.heap.size)
    (h : ∀ v' w', w'.ownsRow base e 5 v' (n + m) (ccells (xs ++ ys)) → w.grownBy w' v.ownBlock → Moved w v v' → wpList P ops Q rest (a.put o.dst v') w') :
    wpList P ops Q (o :: rest) a w :=
  wpList_plain hgd fun _ hK => wp_appC s x t ho base e i z bytes ht hi hz hsize hby hzs v n xs hs hown B A m c ys hx hy hb8 hn hbase fun v' w' h2 h3 h4 => hK _ _ (h v' w' h2 h3 h4)
end Go.Proofs.YtcbmjdacdjcggaaDoor
