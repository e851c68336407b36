/- copy of structs of five cells into a row of the call's own; a row that was just made. Names no function of a program. -/
import Derived.Test.YtcbmjdacdjcggaaDoorGridRef
import Derived.Laws.CopyRow
import Derived.OwnWalk
namespace Go.Proofs.YtcbmjdacdjcggaaDoor
open Go.RowKit
set_option linter.unusedVariables false
/-- a guard: the next operation is the one of this slot ('with_reducible refine at_op (o := ⟨some 42, _, _, _, _, _⟩) ?_') -/
theorem at_op {P : Program} {w : World} {ops : Array Oper} {rest : List Oper} {o : Oper} {a : Act} {Q : Exit → Act → World → Prop} (h : wpList P ops Q (o :: rest) a w) : wpList P ops Q (o :: rest) a w := h
theorem take_mid {α : Type} (cur c : List α) (x n : Nat) (hx : x + c.length ≤ n) (hn : n ≤ cur.length) :
    (cur.take x ++ c ++ cur.drop (x + c.length)).take n = (cur.take n).take x ++ c ++ (cur.take n).drop (x + c.length) := by
  have e1 : (cur.take n).take x = cur.take x := by rw [List.take_take, Nat.min_eq_left (by omega)]
  rw [e1, List.take_append, List.take_of_length_le (by simp; omega), List.drop_take]
  congr 2
  simp only [List.length_append, List.length_take]
  omega
theorem run_copyC {P : Program} (w : World) (dT sT ty elem : TypeId) (i : TypeInfo) (hu : P.underlying dT = some (.slice elem)) (hi : P.info? elem = some i) (hsize : i.size = 5)
    (base : Nat) (e : TypeId) (g y x n cap dLen dCap : Nat) (l : List PG.Cl) (hown : w.ownsRow base e 5 (.slice (some ⟨g, 0, none⟩) n cap) n (ccells l)) (hyx : y = x * 5)
    (A : Option Addr) (B sLen sCap m : Nat) (ys : List PG.Cl) (hm : Nat.min sLen dLen = m) (hs : SeenC w B A m ys) (hx : x + m ≤ n) :
    ∃ w', (Builtin.copy_ #[dT, sT] ty #[.slice (some ⟨g, y, none⟩) dLen dCap, .slice A sLen sCap]).run P w = .ok (goInt m) w' ∧
      w'.ownsRow base e 5 (.slice (some ⟨g, 0, none⟩) n cap) n (ccells (spl l x ys)) ∧ w.grownBy w' (some g) := by
  subst hyx
  have hlen := hs.len
  have hcl := ccells_len ys
  rw [hlen] at hcl
  rcases hown.2 with ⟨h', _⟩ | ⟨g', cap', cur, h', hb, hg, hnc, hcm, hcs, htake⟩
  · simp at h'
  simp only [Value.slice.injEq, Option.some.injEq, Addr.mk.injEq, and_true, true_and] at h'
  obtain ⟨rfl, rfl⟩ := h'
  have hxn : x * 5 + (ccells ys).length ≤ n * 5 := by rw [hcl]; omega
  have hnc5 : n * 5 ≤ cap * 5 := by omega
  have hst := run_storeCells_at P g (x * 5) e (ccells ys) 0 cur w hg (by rw [hcs]; omega) (ccells_one ys)
  simp only [Nat.add_zero] at hst
  refine ⟨w.setRow g (cur.toList.take (x * 5) ++ ccells ys ++ cur.toList.drop (x * 5 + (ccells ys).length)).toArray, ?_, ⟨?_, .inr ⟨g, cap, _, rfl, hb, setRow_heap w g cur _ e (0, 0) hg, hnc, hcm, ?_, ?_⟩⟩, ?_⟩
  · rcases A with _ | ad
    · have hm0 : ys = [] := by
        rcases ys with _ | ⟨c, ys⟩
        · rfl
        · obtain ⟨ad, h0, _⟩ := hs.at_ (k := 0) rfl
          cases h0
      subst hm0
      obtain rfl : m = 0 := by simpa using hlen.symm
      simp only [ccells_nil, List.length_nil] at hst ⊢
      simp [Builtin.copy_, run_underlying hu, Builtin.lenOf, Builtin.firstCells, sizeOf, typeInfo, hi, hm, hst]
    · have hl := run_loadCells_list (P := P) w ad (ccells ys) (fun j v hv => by
        obtain ⟨ad', h1, _, h3⟩ := hs.2 j v hv
        injection h1 with h1
        subst h1
        exact h3)
      rw [hcl] at hl
      simp [Builtin.copy_, run_underlying hu, Builtin.lenOf, Builtin.firstCells, sizeOf, typeInfo, hi, hsize, hm, hl, hst]
  · have h1 := hown.1
    rw [ccells_len] at h1 ⊢
    rw [spl_len (by omega)]
    exact h1
  · have e1 : (ccells ys).length ≤ cur.size := by omega
    simp only [List.size_toArray, List.length_append, List.length_take, List.length_drop, Array.length_toList]
    omega
  · rw [List.toList_toArray, take_mid _ _ _ _ hxn (by rw [Array.length_toList]; omega), htake, hcl]
    unfold spl
    rw [ccells_append, ccells_append, ← ccells_take, ← ccells_drop, hlen, show x * 5 + m * 5 = (x + m) * 5 by omega]
  · exact ⟨rfl, rfl, rfl, by simp [World.setRow], fun k _ hk => setRow_other w g k _ (fun e => hk (by rw [e]))⟩
theorem wpList_copyC {P : Program} {w : World} {ops : Array Oper} {rest : List Oper} {o : Oper} {a : Act} {Q : Exit → Act → World → Prop} (hgd : o.guard = none) (d s : Operand) (dT sT : TypeId)
    (ho : o.op = .call { callee := .builtin .copy, args := #[d, s], argTypes := #[dT, sT] }) (elem : TypeId) (i : TypeInfo) (hu : P.underlying dT = some (.slice elem)) (hi : P.info? elem = some i) (hsize : i.size = 5)
    (base : Nat) (e : TypeId) (g y x n cap dLen dCap : Nat) (l : List PG.Cl) (hd : a.eval d = .slice (some ⟨g, y, none⟩) dLen dCap) (hown : w.ownsRow base e 5 (.slice (some ⟨g, 0, none⟩) n cap) n (ccells l)) (hyx : y = x * 5)
    (A : Option Addr) (B sLen sCap m : Nat) (ys : List PG.Cl) (hsv : a.eval s = .slice A sLen sCap) (hm : Nat.min sLen dLen = m) (hs : SeenC w B A m ys) (hx : x + m ≤ n)
    (h : ∀ w', w'.ownsRow base e 5 (.slice (some ⟨g, 0, none⟩) n cap) n (ccells (spl l x ys)) → w.grownBy w' (some g) → wpList P ops Q rest (a.put o.dst (goInt m)) w') :
    wpList P ops Q (o :: rest) a w := by
  refine wpList_plain hgd fun K hK => ?_
  obtain ⟨w', hrun, h1, h2⟩ := run_copyC (P := P) w dT sT o.type elem i hu hi hsize base e g y x n cap dLen dCap l hown hyx A B sLen sCap m ys hm hs hx
  unfold Oper.wp
  simp [execOp, ho, resolve, invoke, builtin, hd, hsv, hrun, Result.andThen]
  exact hK _ _ (h w' h1 h2)
/-- copy to or of nothing -/
theorem run_copyC0 {P : Program} (w : World) (dT sT ty elem : TypeId) (i : TypeInfo) (hu : P.underlying dT = some (.slice elem)) (hi : P.info? elem = some i)
    (D A : Option Addr) (dLen dCap sLen sCap : Nat) (hm : Nat.min sLen dLen = 0) :
    (Builtin.copy_ #[dT, sT] ty #[.slice D dLen dCap, .slice A sLen sCap]).run P w = .ok (goInt 0) w := by
  have hl : ∀ ad, (loadCells ad 0).run P w = .ok #[] w := fun ad => run_loadCells_list (P := P) w ad [] (fun j v hv => by simp at hv)
  rcases A with _ | ad <;> rcases D with _ | d <;>
    simp [Builtin.copy_, run_underlying hu, Builtin.lenOf, Builtin.firstCells, sizeOf, typeInfo, hi, hm, storeCells, hl]
theorem wpList_copyC0 {P : Program} {w : World} {ops : Array Oper} {rest : List Oper} {o : Oper} {a : Act} {Q : Exit → Act → World → Prop} (hgd : o.guard = none) (d s : Operand) (dT sT : TypeId)
    (ho : o.op = .call { callee := .builtin .copy, args := #[d, s], argTypes := #[dT, sT] }) (elem : TypeId) (i : TypeInfo) (hu : P.underlying dT = some (.slice elem)) (hi : P.info? elem = some i)
    (D A : Option Addr) (dLen dCap sLen sCap : Nat) (hd : a.eval d = .slice D dLen dCap) (hsv : a.eval s = .slice A sLen sCap) (hm : Nat.min sLen dLen = 0)
    (h : wpList P ops Q rest (a.put o.dst (goInt 0)) w) : wpList P ops Q (o :: rest) a w := by
  refine wpList_plain hgd fun K hK => ?_
  have hrun := run_copyC0 (P := P) w dT sT o.type elem i hu hi D A dLen dCap sLen sCap hm
  unfold Oper.wp
  simp [execOp, ho, resolve, invoke, builtin, hd, hsv, hrun, Result.andThen]
  exact hK _ _ h
/-- what 'make' lays -/
theorem made_cells (n : Nat) : (madeCells zcell.cells (n * 5)).toList = ccells (List.replicate n PG.none) := by
  have hz : zcell.cells = #[.int .i32 0, .int .i64 0, .int .i64 0, .int .i64 0, .int .i64 0] := rfl
  refine List.ext_getElem? fun j => ?_
  by_cases hj : j < n * 5
  · have hk : j / 5 < n := by omega
    have hr : (List.replicate n PG.none)[j / 5]? = some PG.none := by rw [List.getElem?_replicate, if_pos hk]
    have h5 : j % 5 < 5 := by omega
    have hu : ∃ u, (c5 PG.none)[j % 5]? = some u ∧ zcell.cells[j % zcell.cells.size]! = u := by
      rw [hz]
      have hs : (#[Value.int .i32 0, .int .i64 0, .int .i64 0, .int .i64 0, .int .i64 0] : Array Value).size = 5 := rfl
      rw [hs]
      generalize j % 5 = k at h5
      obtain rfl | rfl | rfl | rfl | rfl : k = 0 ∨ k = 1 ∨ k = 2 ∨ k = 3 ∨ k = 4 := by omega
      all_goals exact ⟨_, rfl, rfl⟩
    obtain ⟨u, h1, h2⟩ := hu
    have h3 := ccells_at _ _ _ _ _ hr h1
    rw [show j / 5 * 5 + j % 5 = j by omega] at h3
    rw [h3]
    unfold madeCells
    rw [Array.toList_map, Array.toList_range, List.getElem?_map, List.getElem?_range hj, Option.map_some, h2]
  · rw [List.getElem?_eq_none (by simp [madeCells]; omega), List.getElem?_eq_none (by rw [ccells_len, List.length_replicate]; omega)]
theorem add0 (g k : Nat) : (⟨g, 0, none⟩ : Addr).add k = ⟨g, k, none⟩ := by rw [Addr.add_lit, Nat.zero_add]
theorem Kept.of_grown {w w' : World} {r : Option Nat} (h : w.grownBy w' r) : Kept [r] w w' := ⟨h.os, h.tape, h.output, h.size, fun i hi hn => h.block i hi (by simpa using hn)⟩
theorem spl_all {l m : List PG.Cl} (h : m.length = l.length) : spl l 0 m = m := by
  unfold spl
  rw [List.take_zero, List.nil_append, Nat.zero_add, List.drop_of_length_le (by omega), List.append_nil]
end Go.Proofs.YtcbmjdacdjcggaaDoor
