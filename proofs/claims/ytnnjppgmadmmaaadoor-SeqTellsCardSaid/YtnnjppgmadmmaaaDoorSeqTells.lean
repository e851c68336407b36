/- SeqTells: any event, of numbers or raw: may it be; its bytes are parsed to it, and to nothing else. -/
import Derived.Test.YtnnjppgmadmmaaaDoorRefScan
import Derived.Test.YtnnjppgmadmmaaaDoorRefRight
import Derived.Test.YtnnjppgmadmmaaaDoorAnyOrder
import Derived.Test.YtnnjppgmadmmaaaDoorSeqBox
import Derived.Test.YtnnjppgmadmmaaaDoorKeepEvent
import Derived.Test.YtnnjppgmadmmaaaDoorSeqRuns
import Derived.Test.YtnnjppgmadmmaaaDoorEventsB
import Derived.Test.YtnnjppgmadmmaaaDoorStepBox
import Derived.Deep.DeepCutAuto
import Derived.Deep.CutBlock
set_option maxRecDepth 100000
namespace Go.Proofs.YtnnjppgmadmmaaaDoor
open Go.RowKit
set_option linter.unusedVariables false
def RowAt (B m2 : Nat) (lp : List Int) (v : Value) (w : World) : Prop := w.ownsRow B 3 1 v m2 (i64s (lp.take m2))
def tCst (gE : Nat) (s0 : ByteArray) (Ap : Option Addr) (np cp m4 m2 : Nat) (j : Nat) : Value :=
  [.pointer (some ⟨gE, 6, none⟩), .string s0, .pointer (some ⟨gE, 6, none⟩), .string s0, .int .i64 (s0.size : Int), .int .i64 (m4 : Int), .string (s0.extract 0 m4), undef, .pointer (some ⟨gE, 5, none⟩), .slice Ap np cp, .pointer (some ⟨gE, 5, none⟩), .slice Ap np cp, .int .i64 (np : Int), .int .i64 (m2 : Int), .slice Ap m2 cp, undef, .pointer (some ⟨gE, 6, none⟩), undef, .pointer (some ⟨gE, 5, none⟩), undef].getD j undef
structure TellsJ (gE : Nat) (kd rn pv it fn : Int) (s0 : ByteArray) (Ap : Option Addr) (np cp : Nat) (lp : List Int) (m4 m2 : Nat) (w1 : World) (L : Nat → Bool) (u : Nat → Value) (w : World) : Prop where
  lt : gE < w1.heap.size
  kept : Kept [some gE] w1 w
  box : ∃ T P, Box w gE 24 #[.int .i64 kd, .int .i32 rn, .int .u8 pv, .int .u8 it, .int .u8 fn, P, T] ∧ (L 17 = false → T = .string s0) ∧ (L 17 = true → T = .string (s0.extract 0 m4)) ∧ (L 19 = false → P = .slice Ap np cp) ∧ (L 19 = true → RowAt w1.heap.size m2 lp P w)
  r7 : L 7 = true → L 15 = false → w.ownsRow w1.heap.size 3 1 (u 7) 0 []
  r15 : L 15 = true → RowAt w1.heap.size m2 lp (u 15) w
  cst : ∀ j, j < 20 → L j = true → j ∉ [7, 15, 17, 19] → u j = tCst gE s0 Ap np cp m4 m2 j
section
variable {gE : Nat} {kd rn pv it fn : Int} {s0 : ByteArray} {Ap : Option Addr} {np cp m4 m2 : Nat} {lp : List Int} {w1 w w' : World} {L : Nat → Bool} {u u' : Nat → Value}
theorem TellsJ.same (h : TellsJ gE kd rn pv it fn s0 Ap np cp lp m4 m2 w1 L u w) (he : ∀ j, j < 20 → u j = u' j) : TellsJ gE kd rn pv it fn s0 Ap np cp lp m4 m2 w1 L u' w :=
  ⟨h.lt, h.kept, h.box, by rw [← he 7 (by omega)]; exact h.r7, by rw [← he 15 (by omega)]; exact h.r15, fun j hl hj hn => by rw [← he j hl]; exact h.cst j hl hj hn⟩
theorem cst_put {j i : Nat} {v : Value} (hc : ∀ j, j < 20 → L j = true → j ∉ [7, 15, 17, 19] → u j = tCst gE s0 Ap np cp m4 m2 j) (hl : j < 20) (hv : i ∉ [7, 15, 17, 19] → v = tCst gE s0 Ap np cp m4 m2 i) (hj : mark L i j = true) (hn : j ∉ [7, 15, 17, 19]) : upd u i v j = tCst gE s0 Ap np cp m4 m2 j := by
  by_cases hji : j = i
  · subst hji
    rw [upd_self]
    exact hv hn
  · rw [upd_at hji]
    rw [mark_at hji] at hj
    exact hc j hl hj hn
theorem TellsJ.put (h : TellsJ gE kd rn pv it fn s0 Ap np cp lp m4 m2 w1 L u w) (i : Nat) (hi : i ∉ [7, 15, 17, 19]) : TellsJ gE kd rn pv it fn s0 Ap np cp lp m4 m2 w1 (mark L i) (upd u i (tCst gE s0 Ap np cp m4 m2 i)) w := by
  simp only [List.mem_cons, List.not_mem_nil, or_false, not_or] at hi
  obtain ⟨h7, h15, h17, h19⟩ := hi
  refine ⟨h.lt, h.kept, ?_, ?_, ?_, fun j hl hj hn => cst_put h.cst hl (fun _ => rfl) hj hn⟩
  · rw [mark_at (Ne.symm h17), mark_at (Ne.symm h19)]; exact h.box
  · rw [mark_at (Ne.symm h7), mark_at (Ne.symm h15), upd_at (Ne.symm h7)]; exact h.r7
  · rw [mark_at (Ne.symm h15), upd_at (Ne.symm h15)]; exact h.r15
theorem TellsJ.put7 (h : TellsJ gE kd rn pv it fn s0 Ap np cp lp m4 m2 w1 L u w) : TellsJ gE kd rn pv it fn s0 Ap np cp lp m4 m2 w1 (mark L 7) (upd u 7 (.slice (some ⟨w.heap.size, 0, none⟩) 0 0)) (w.alloc (.cells #[] 3)) := by
  refine ⟨h.lt, h.kept.alloc _, ?_, fun _ _ => ?_, ?_, fun j hl hj hn => cst_put h.cst hl (fun hh => by simp at hh) hj hn⟩
  · rw [mark_at (by omega), mark_at (by omega)]
    obtain ⟨T, P, a, b, c, d, e⟩ := h.box
    exact ⟨T, P, a.alloc _, b, c, d, fun hh => own_alloc (e hh) _⟩
  · rw [upd_self]; exact own_lit0 _ rfl h.kept.size
  · rw [mark_at (by omega), upd_at (by omega)]; exact fun hh => own_alloc (h.r15 hh) _
theorem TellsJ.put15 (h : TellsJ gE kd rn pv it fn s0 Ap np cp lp m4 m2 w1 L u w) (l7 : L 7 = true) (l15 : L 15 = false) (l19 : L 19 = false) {v : Value} (hv : w'.ownsRow w1.heap.size 3 1 v m2 (i64s (lp.take m2))) (hg : w.grownBy w' (u 7).ownBlock) : TellsJ gE kd rn pv it fn s0 Ap np cp lp m4 m2 w1 (mark L 15) (upd u 15 v) w' := by
  have h7 := h.r7 l7 l15
  refine ⟨h.lt, h.kept.grown hg (fun b hb => .inr (h7.lt b hb).1), ?_, fun _ hh => ?_, fun _ => by rw [upd_self]; exact hv, fun j hl hj hn => cst_put h.cst hl (fun hh => by simp at hh) hj hn⟩
  · rw [mark_at (by omega), mark_at (by omega)]
    obtain ⟨T, P, a, b, c, d, e⟩ := h.box
    exact ⟨T, P, a.grown hg (fun e => by have := (h7.lt gE e.symm).1; have := h.lt; omega), b, c, d, fun hh => by rw [l19] at hh; cases hh⟩
  · rw [mark_self] at hh; cases hh
theorem TellsJ.put17 (h : TellsJ gE kd rn pv it fn s0 Ap np cp lp m4 m2 w1 L u w) : TellsJ gE kd rn pv it fn s0 Ap np cp lp m4 m2 w1 (mark L 17) (upd u 17 undef) (w.setCell ⟨gE, 6, none⟩ (.string (s0.extract 0 m4))) := by
  have hlt := h.lt
  refine ⟨h.lt, h.kept.setCell (p := ⟨gE, 6, none⟩) (From.mem (by simp)) _, ?_, ?_, ?_, fun j hl hj hn => cst_put h.cst hl (fun hh => by simp at hh) hj hn⟩
  · obtain ⟨T, P, a, b, c, d, e⟩ := h.box
    rw [mark_self, mark_at (by omega)]
    exact ⟨_, P, by simpa using a.set 6 (.string (s0.extract 0 m4)), fun hh => (by cases hh), fun _ => rfl, d, fun hh => own_store (e hh) (p := ⟨gE, 6, none⟩) (fun x => by have := ((e hh).lt gE x).1; omega) _⟩
  · rw [mark_at (by omega), mark_at (by omega), upd_at (by omega)]; exact fun a b => own_store (h.r7 a b) (p := ⟨gE, 6, none⟩) (fun x => by have := ((h.r7 a b).lt gE x).1; omega) _
  · rw [mark_at (by omega), upd_at (by omega)]; exact fun a => own_store (h.r15 a) (p := ⟨gE, 6, none⟩) (fun x => by have := ((h.r15 a).lt gE x).1; omega) _
theorem TellsJ.put19 (h : TellsJ gE kd rn pv it fn s0 Ap np cp lp m4 m2 w1 L u w) (l15 : L 15 = true) : TellsJ gE kd rn pv it fn s0 Ap np cp lp m4 m2 w1 (mark L 19) (upd u 19 undef) (w.setCell ⟨gE, 5, none⟩ (u 15)) := by
  have hlt := h.lt
  have hr := h.r15 l15
  have hs := own_store hr (p := ⟨gE, 5, none⟩) (fun x => by have := (hr.lt gE x).1; omega) (u 15)
  refine ⟨h.lt, h.kept.setCell (p := ⟨gE, 5, none⟩) (From.mem (by simp)) _, ?_, fun _ hh => ?_, ?_, fun j hl hj hn => cst_put h.cst hl (fun hh => by simp at hh) hj hn⟩
  · obtain ⟨T, P, a, b, c, d, e⟩ := h.box
    rw [mark_self, mark_at (by omega)]
    exact ⟨T, u 15, by simpa using a.set 5 (u 15), b, c, fun hh => (by cases hh), fun _ => hs⟩
  · rw [mark_at (by omega)] at hh; rw [l15] at hh; cases hh
  · rw [mark_at (by omega), upd_at (by omega)]; exact fun _ => hs
theorem TellsJ.start (hlt : gE < w1.heap.size) (hb : Box w1 gE 24 #[.int .i64 kd, .int .i32 rn, .int .u8 pv, .int .u8 it, .int .u8 fn, .slice Ap np cp, .string s0]) : TellsJ gE kd rn pv it fn s0 Ap np cp lp m4 m2 w1 (fun _ => false) u w1.drew :=
  ⟨hlt, (Kept.refl _ _).drew, ⟨_, _, hb, fun _ => rfl, fun h => (by cases h), fun _ => rfl, fun h => (by cases h)⟩, fun h => (by cases h), fun h => (by cases h), fun j _ h => (by cases h)⟩
end
end Go.Proofs.YtnnjppgmadmmaaaDoor
namespace Go.Proofs.YtnnjppgmadmmaaaDoor
open Go.RowKit
set_option linter.unusedVariables false
theorem arg_below {k : IntKind} {w w' : World} {A : Option Addr} {n c : Nat} {l : List Int} (h : Arg k w A n c l) (b : Below w.heap.size w w') : Arg k w' A n c l :=
  ⟨h.len, (h.seen.below b).more b.size, h.wf, h.le, h.cap, h.nil⟩
theorem not_yet {L : Nat → Bool} {i j : Nat} (hL : L i = false) (h : L j = true → L i = true) : L j = false := by
  rcases hj : L j with _ | _
  · rfl
  · rw [h hj] at hL; cases hL
theorem cases20 {p : Nat → Prop} (h : p 0 ∧ p 1 ∧ p 2 ∧ p 3 ∧ p 4 ∧ p 5 ∧ p 6 ∧ p 7 ∧ p 8 ∧ p 9 ∧ p 10 ∧ p 11 ∧ p 12 ∧ p 13 ∧ p 14 ∧ p 15 ∧ p 16 ∧ p 17 ∧ p 18 ∧ p 19) : ∀ i, i < 20 → p i := by
  obtain ⟨h0, h1, h2, h3, h4, h5, h6, h7, h8, h9, h10, h11, h12, h13, h14, h15, h16, h17, h18, h19⟩ := h
  intro i hi
  match i, hi with
  | 0, _ => exact h0
  | 1, _ => exact h1
  | 2, _ => exact h2
  | 3, _ => exact h3
  | 4, _ => exact h4
  | 5, _ => exact h5
  | 6, _ => exact h6
  | 7, _ => exact h7
  | 8, _ => exact h8
  | 9, _ => exact h9
  | 10, _ => exact h10
  | 11, _ => exact h11
  | 12, _ => exact h12
  | 13, _ => exact h13
  | 14, _ => exact h14
  | 15, _ => exact h15
  | 16, _ => exact h16
  | 17, _ => exact h17
  | 18, _ => exact h18
  | 19, _ => exact h19
  | n + 20, h => exact absurd h (by omega)
/-- append([]int{}, x...), as one step of a region that draws its order -/
theorem tells_append {P : Program} {ops : Array Oper} {Q : Exit → Act → World → Prop} {J : (Nat → Bool) → (Nat → Value) → World → Prop} {L : Nat → Bool} {a : Act} {w : World} {i : Nat} (o : Oper) (base : Nat) (i1 : TypeInfo) (hj : P.info? 3 = some i1) (hy0 : i1.zero = some (.int .i64 0)) (hy1 : i1.size = 1) (hy2 : i1.bytes = 8)
    (ho : ops[i]? = some o) (hd : o.dst.isSome = true) (hgd : o.guard = none) (hop : o.op = .call { callee := .builtin .append, args := #[.tmp 19, .tmp 26], argTypes := #[22, 22] }) (ht : P.underlying 22 = some (.slice 3)) {v0 : Value} (hr : w.ownsRow base 3 1 v0 0 []) {Ap : Option Addr} {m2 cp : Nat} {ys : List Int} {B : Nat} (hy : Seen w B Ap m2 (i64s ys))
    (es : a.eval (.tmp 19) = v0) (ex : a.eval (.tmp 26) = .slice Ap m2 cp) (hm : m2 ≤ 20) (hb : base ≤ w.heap.size)
    (h : ∀ v w2, w2.ownsRow base 3 1 v m2 (i64s ys) → w.grownBy w2 v0.ownBlock → J (mark L i) (upd (fun j => valOf ops j a) i v) w2) : Step P ops Q J L a w i := by
  unfold Step
  refine wpOp_step ho fun K' hK => step_appN hgd (.tmp 19) (.tmp 26) 22 hop base 3 i1 (.int .i64 0) 8 ht hj hy0 hy1 hy2 rfl v0 0 [] es hr B Ap m2 cp (i64s ys) ex hy (by simp [i64s, Value.oneCell']) (by omega) (by omega) hb (fun v' w' h1 h2 h3 => hK _ _ (by exact ⟨o, v', ho, (fun hh => by rw [hh] at hd; cases hd), rfl, h v' w' (by simpa using h1) h2⟩))
theorem str_take (l : List Int) (n : Nat) : (strOfNums l).extract 0 n = strOfNums (l.take n) := by
  apply ByteArray.ext
  rw [ByteArray.data_extract]
  simp [strOfNums, List.map_take]
/-- the event that is tried, in its block -/
def TellsEv (gE : Nat) (own : Bool) (w0 w : World) : Prop :=
  ∃ ev u, Box w gE 24 (ecells ev u).toArray ∧ ParIn w (ev, u) ∧ EvFits ev ∧ (-2147483648 ≤ ev.rune ∧ ev.rune ≤ 2147483647) ∧ ev.text.length ≤ 4096 ∧ (own = true → PA.Right ev) ∧ Below w0.heap.size w0 w
theorem right_rune {e : PA.Ev} (h : PA.Right e) : (-2147483648 ≤ e.rune ∧ e.rune ≤ 2147483647) ∧ e.text.length ≤ 4096 := by
  rcases h with ⟨r, rfl, h⟩ | ⟨b, rfl, _⟩ | ⟨i, f, rfl, _⟩ | ⟨p, i, f, ps, rfl, _⟩ | ⟨t, rfl, h, _⟩
  · refine ⟨?_, by simp [PA.pr]⟩
    show -2147483648 ≤ r ∧ r ≤ 2147483647
    rcases h with h | h <;> omega
  · simp
  · simp
  · simp
  · exact ⟨by simp, h⟩
theorem right_params' {e : PA.Ev} (h : PA.Right e) : e.params.length ≤ 16 := by
  rcases h with ⟨r, rfl, _⟩ | ⟨b, rfl, _⟩ | ⟨i, f, rfl, _⟩ | ⟨p, i, f, ps, rfl, _, _, _, _, hl, _⟩ | ⟨t, rfl, _⟩
  · simp [PA.pr]
  · simp
  · simp
  · exact hl
  · simp
theorem evFits_right' {e : PA.Ev} (h : PA.Right e) : EvFits e := by
  rcases h with ⟨r, rfl, h⟩ | ⟨b, rfl, h0, h1, _⟩ | ⟨i, f, rfl, hi, h0, h1, h⟩ | ⟨p, i, f, ps, rfl, hp, hi, h0, h1, _⟩ | ⟨t, rfl, hl, h⟩
  · exact ⟨by simp [PA.pr], by simp [PA.pr]⟩
  · exact ⟨h0, by simp⟩
  · exact ⟨by simp; omega, by simp⟩
  · exact ⟨by simp; omega, by simp⟩
  · exact ⟨by simp, fun x hx => by have := h x hx; omega⟩
theorem parIn_seen {w : World} {e : PA.Ev} {A : Option Addr} {c : Nat} (h : ParIn w (e, .slice A e.params.length c)) : Seen w w.heap.size A e.params.length (i64s e.params) := by
  obtain ⟨A', c', h1, h2, _⟩ := h
  injection h1 with h1 _ _
  subst h1
  exact h2
theorem printed_one {e : PA.Ev} (h : PA.Right e) : printed [e] = [e] := by
  unfold printed
  rw [List.filter_cons_of_pos (PA.right_rightB h)]
  rfl
theorem seenE_made {w : World} {B : Nat} {e : PA.Ev} {A : Option Addr} {c : Nat} (h : Made1 B w e (.slice A 1 c)) : ∃ u, SeenE w A 1 [(e, u)] := by
  obtain ⟨u, h1, h2⟩ := h
  refine ⟨u, rfl, fun k p hk => ?_⟩
  obtain rfl : k = 0 := by have := (List.getElem?_eq_some_iff.1 hk).1; simp at this; omega
  obtain rfl : p = (e, u) := by simpa using hk.symm
  rcases h1.2 with ⟨hv, h0⟩ | ⟨gb, cap, cur, hv, _, hh, _⟩
  · omega
  · injection hv with e1 e2 e3
    subst e1 e3
    exact ⟨gb, rfl, (Array.getElem?_eq_some_iff.1 hh).1, fun j u' hu => by
      have hj : j < 7 := (List.getElem?_eq_some_iff.1 hu).1
      rw [h1.cellAt _ (by omega), Nat.zero_mul, Nat.zero_add]
      exact hu, h2⟩
theorem parIn_set7 {w : World} {e : PA.Ev} {u : Value} {g : Nat} (h : ParIn w (e, u)) (hc : NotIn g e u) (a b c d x y z : Value) : ParIn (((((((w.setCell ⟨g, 0, none⟩ a).setCell ⟨g, 1, none⟩ b).setCell ⟨g, 2, none⟩ c).setCell ⟨g, 3, none⟩ d).setCell ⟨g, 4, none⟩ x).setCell ⟨g, 5, none⟩ y).setCell ⟨g, 6, none⟩ z) (e, u) :=
  parIn_set (parIn_set (parIn_set (parIn_set (parIn_set (parIn_set (parIn_set h hc _) hc _) hc _) hc _) hc _) hc _) hc _
/-- what the region leaves -/
def TellsOut (gE : Nat) (kd rn pv it fn : Int) (s0 : ByteArray) (lp : List Int) (m4 m2 : Nat) (w1 w : World) : Prop :=
  ∃ P, Box w gE 24 #[.int .i64 kd, .int .i32 rn, .int .u8 pv, .int .u8 it, .int .u8 fn, P, .string (s0.extract 0 m4)] ∧ RowAt w1.heap.size m2 lp P w ∧ Kept [some gE] w1 w
set_option maxHeartbeats 16000000 in
theorem seqTells_core (kd rn pv it fn : Int) (Ap : Option Addr) (np cp : Nat) (lp t : List Int) (kd' rn' fn' : Int) (Ap' At' : Option Addr) (np' cp' nt' ct' : Nat) (lp' lt' : List Int) (own : Bool) (w : World) (hkd : -9223372036854775808 ≤ kd ∧ kd ≤ 9223372036854775807) (hrn : -2147483648 ≤ rn ∧ rn ≤ 2147483647) (hfn : 0 ≤ fn ∧ fn < 256) (hP : Arg .i64 w Ap np cp lp) (htx : ∀ x ∈ t, 0 ≤ x ∧ x < 256) (htl : t.length ≤ maxLen)
    (hk' : -9223372036854775808 ≤ kd' ∧ kd' ≤ 9223372036854775807) (hr' : -9223372036854775808 ≤ rn' ∧ rn' ≤ 9223372036854775807) (hf' : -9223372036854775808 ≤ fn' ∧ fn' ≤ 9223372036854775807) (hP' : Arg .i64 w Ap' np' cp' lp') (hT' : Arg .u8 w At' nt' ct' lt') (ht : Tens w) :
    Calls Tryd.prog 4 #[.agg #[.int .i64 kd, .int .i32 rn, .int .u8 pv, .int .u8 it, .int .u8 fn, .slice Ap np cp, .string (strOfNums t)], .agg #[.int .i64 kd', .int .i64 rn', .int .i64 fn', .slice Ap' np' cp', .slice At' nt' ct'], .bool own] w fun e w' => e = .returned (.bool true) ∧ Below w.heap.size w w' := by
  obtain ⟨i0, hi, hz0, hz1, hz2⟩ := info_parts info_ev
  obtain ⟨i1, hj, hy0, hy1, hy2⟩ := info_parts info_i64
  have hsz0 : (strOfNums t).size = t.length := strOfNums_size t
  obtain ⟨s0, hs0⟩ : ∃ s, strOfNums t = s := ⟨_, rfl⟩
  rw [hs0] at hsz0 ⊢
  have HS0 := hide hs0
  have HTX := hide htx
  have HPP := hide hP
  have HK := hide (fun (w' : World) (b : Below w.heap.size w w') => keepNew_any kd' rn' fn' Ap' At' np' cp' nt' ct' w' lp' lt' hk' hr' hf' (arg_below hP' b) (arg_below hT' b))
  have hkr := PA.keep_right kd' rn' fn' lp' lt'
  generalize PA.keepEv kd' rn' fn' lp' lt' = Y at hkr HK
  have HRY := hide hkr
  have HT := hide ht
  have hnl := hP.len
  have hnc := hP.le
  have hcap := hP.cap
  have hnil := hP.nil
  obtain ⟨m4, hm4, hm4a, hm4b⟩ : ∃ m4 : Nat, min (s0.size : Int) 40 = (m4 : Int) ∧ m4 ≤ s0.size ∧ m4 ≤ 40 := ⟨min s0.size 40, by omega, by omega, by omega⟩
  obtain ⟨m2, hm2, hm2a, hm20⟩ : ∃ m2 : Nat, min (np : Int) 20 = (m2 : Int) ∧ m2 ≤ np ∧ m2 ≤ 20 := ⟨min np 20, by omega, by omega, by omega⟩
  unfold maxLen at htl hcap
  have hs63 : s0.size ≤ 2 ^ 63 - 1 := by omega
  have HSZ0 := hide hsz0
  clear hsz0 hs0 htx hP hk' hr' hf' hP' hT' ht hkr
  go_enter Tryd.func4, Tryd.ntmps4
  go_upto_region 2 with fail
  have bE := Box.fresh (w := (w.alloc (.cells #[.int .i64 kd, .int .i32 rn, .int .u8 pv, .int .u8 it, .int .u8 fn, .slice Ap np cp, .string s0] 24)).alloc (.cells #[.int .i64 kd', .int .i64 rn', .int .i64 fn', .slice Ap' np' cp', .slice At' nt' ct'] 33)) (t := 24) (cs := #[.int .i64 kd, .int .i32 rn, .int .u8 pv, .int .u8 it, .int .u8 fn, .slice Ap np cp, .string s0]) (g := w.heap.size + 1 + 1) (by simp)
  have bK := (Box.fresh (w := w.alloc (.cells #[.int .i64 kd, .int .i32 rn, .int .u8 pv, .int .u8 it, .int .u8 fn, .slice Ap np cp, .string s0] 24)) (t := 33) (cs := #[.int .i64 kd', .int .i64 rn', .int .i64 fn', .slice Ap' np' cp', .slice At' nt' ct']) (g := w.heap.size + 1) (by simp)).alloc (.cells #[.int .i64 kd, .int .i32 rn, .int .u8 pv, .int .u8 it, .int .u8 fn, .slice Ap np cp, .string s0] 24)
  have bb : Below w.heap.size w (((w.alloc (.cells #[.int .i64 kd, .int .i32 rn, .int .u8 pv, .int .u8 it, .int .u8 fn, .slice Ap np cp, .string s0] 24)).alloc (.cells #[.int .i64 kd', .int .i64 rn', .int .i64 fn', .slice Ap' np' cp', .slice At' nt' ct'] 33)).alloc (.cells #[.int .i64 kd, .int .i32 rn, .int .u8 pv, .int .u8 it, .int .u8 fn, .slice Ap np cp, .string s0] 24)) := (((Below.refl _ _).alloc (Nat.le_refl _) _).alloc (by simp) _).alloc (by simp; omega) _
  generalize (((w.alloc (.cells #[.int .i64 kd, .int .i32 rn, .int .u8 pv, .int .u8 it, .int .u8 fn, .slice Ap np cp, .string s0] 24)).alloc (.cells #[.int .i64 kd', .int .i64 rn', .int .i64 fn', .slice Ap' np' cp', .slice At' nt' ct'] 33)).alloc (.cells #[.int .i64 kd, .int .i32 rn, .int .u8 pv, .int .u8 it, .int .u8 fn, .slice Ap np cp, .string s0] 24)) = w1 at bE bK bb ⊢
  obtain ⟨gE, hgE⟩ : ∃ g, w.heap.size + 1 + 1 = g := ⟨_, rfl⟩
  obtain ⟨gK, hgK⟩ : ∃ g, w.heap.size + 1 = g := ⟨_, rfl⟩
  rw [hgE] at bE ⊢
  rw [hgK] at bK ⊢
  have hEK : gE ≠ gK := by omega
  have hEw : w.heap.size ≤ gE := by omega
  have BE := hide bE
  have BK := hide bK
  have BB := hide bb
  have HPA := hide (fun (w' : World) (kk : Kept [some gE] w1 w') => (show Seen w' w.heap.size Ap m2 (i64s (lp.take m2)) from by
    have h := (HPP.out.seen.below (bb.trans (kk.toBelow bb.size (fun q hq => by simp at hq; omega))))
    refine ⟨by simp [i64s]; omega, fun j u hu => ?_⟩
    have hjl : j < m2 := by have := (List.getElem?_eq_some_iff.1 hu).1; simp [i64s] at this; omega
    refine h.2 j u ?_
    rw [i64s, List.getElem?_map, List.getElem?_take, if_pos hjl] at hu
    rw [List.getElem?_map]
    exact hu))
  clear bE bK bb hgE hgK
  have hm4i : (m4 : Int) ≤ (s0.size : Int) := by omega
  have hm2i : (m2 : Int) ≤ (np : Int) := by omega
  have hm2c : (m2 : Int) ≤ (cp : Int) := by omega
  go_cut [] (fun wx => Hid (TellsOut gE kd rn pv it fn s0 lp m4 m2 w1 wx))
  case first =>
    refine wp_region_vals (n := 80) (TellsJ gE kd rn pv it fn s0 Ap np cp lp m4 m2 w1) (by kernel_rfl) (by kernel_rfl) (by kernel_rfl) rfl (fun L u u' w h hj => hj.same h) (cases20 ⟨?_, ?_, ?_, ?_, ?_, ?_, ?_, ?_, ?_, ?_, ?_, ?_, ?_, ?_, ?_, ?_, ?_, ?_, ?_, ?_⟩) ?_ ?_
    · intro L a w' hL hsame hsz hJ hdep hcl
      have eb : a.eval (.tmp 7) = .pointer (some ⟨gE, 0, none⟩) := eval_base hsame (by kernel_rfl)
      refine Step.val _ rfl rfl (wanted_none rfl) (.pointer (some ⟨gE, 6, none⟩)) w' (fun ρ hρ => ?_) (hJ.put 0 (by decide))
      rw [hρ] at eb
      clear hJ hsame hdep hcl hρ hsz
      go_simp
    · intro L a w' hL hsame hsz hJ hdep hcl
      have e0 : a.eval (.tmp 12) = (.pointer (some ⟨gE, 6, none⟩)) := eval_slot (ops := _) (j := 0) (by kernel_rfl) (hJ.cst 0 (by omega) (dep_of hdep 0 (by kernel_rfl)) (by decide))
      obtain ⟨T, P, hb, t0, _, p0, _⟩ := hJ.box
      obtain ⟨q0, q1, q2, q3, q4, q5, q6⟩ := hb.seven
      obtain rfl := t0 (not_yet hL (fun h => dep_of (hcl 17 h) 1 (by kernel_rfl)))
      clear hb t0 p0
      refine Step.val _ rfl rfl (wanted_none rfl) (.string s0) w' (fun ρ hρ => ?_) (hJ.put 1 (by decide))
      rw [hρ] at e0
      clear hJ hsame hdep hcl hρ hsz
      go_simp
    · intro L a w' hL hsame hsz hJ hdep hcl
      have eb : a.eval (.tmp 7) = .pointer (some ⟨gE, 0, none⟩) := eval_base hsame (by kernel_rfl)
      refine Step.val _ rfl rfl (wanted_none rfl) (.pointer (some ⟨gE, 6, none⟩)) w' (fun ρ hρ => ?_) (hJ.put 2 (by decide))
      rw [hρ] at eb
      clear hJ hsame hdep hcl hρ hsz
      go_simp
    · intro L a w' hL hsame hsz hJ hdep hcl
      have e2 : a.eval (.tmp 14) = (.pointer (some ⟨gE, 6, none⟩)) := eval_slot (ops := _) (j := 2) (by kernel_rfl) (hJ.cst 2 (by omega) (dep_of hdep 2 (by kernel_rfl)) (by decide))
      obtain ⟨T, P, hb, t0, _, p0, _⟩ := hJ.box
      obtain ⟨q0, q1, q2, q3, q4, q5, q6⟩ := hb.seven
      obtain rfl := t0 (not_yet hL (fun h => dep_of (hcl 17 h) 3 (by kernel_rfl)))
      clear hb t0 p0
      refine Step.val _ rfl rfl (wanted_none rfl) (.string s0) w' (fun ρ hρ => ?_) (hJ.put 3 (by decide))
      rw [hρ] at e2
      clear hJ hsame hdep hcl hρ hsz
      go_simp
    · intro L a w' hL hsame hsz hJ hdep hcl
      have e3 : a.eval (.tmp 15) = (.string s0) := eval_slot (ops := _) (j := 3) (by kernel_rfl) (hJ.cst 3 (by omega) (dep_of hdep 3 (by kernel_rfl)) (by decide))
      refine Step.val _ rfl rfl (wanted_none rfl) (.int .i64 (s0.size : Int)) w' (fun ρ hρ => ?_) (hJ.put 4 (by decide))
      rw [hρ] at e3
      clear hJ hsame hdep hcl hρ hsz
      go_simp
    · intro L a w' hL hsame hsz hJ hdep hcl
      have e4 : a.eval (.tmp 16) = (.int .i64 (s0.size : Int)) := eval_slot (ops := _) (j := 4) (by kernel_rfl) (hJ.cst 4 (by omega) (dep_of hdep 4 (by kernel_rfl)) (by decide))
      refine Step.val _ rfl rfl (wanted_none rfl) (.int .i64 (m4 : Int)) w' (fun ρ hρ => ?_) (hJ.put 5 (by decide))
      rw [hρ] at e4
      have ec : ρ (.const (.int .i64 40)) = .int .i64 40 := (hρ _).symm
      clear hJ hsame hdep hcl hρ hsz
      go_simp
    · intro L a w' hL hsame hsz hJ hdep hcl
      have e1 : a.eval (.tmp 13) = (.string s0) := eval_slot (ops := _) (j := 1) (by kernel_rfl) (hJ.cst 1 (by omega) (dep_of hdep 1 (by kernel_rfl)) (by decide))
      have e5 : a.eval (.tmp 17) = (.int .i64 (m4 : Int)) := eval_slot (ops := _) (j := 5) (by kernel_rfl) (hJ.cst 5 (by omega) (dep_of hdep 5 (by kernel_rfl)) (by decide))
      refine Step.val _ rfl rfl (wanted_none rfl) (.string (s0.extract 0 m4)) w' (fun ρ hρ => ?_) (hJ.put 6 (by decide))
      rw [hρ] at e1
      rw [hρ] at e5
      clear hJ hsame hdep hcl hρ hsz
      go_simp
      (try (intro hlt; exfalso; omega))
    · intro L a w' hL hsame hsz hJ hdep hcl
      refine Step.val _ rfl rfl (wanted_none rfl) (.slice (some ⟨w'.heap.size, 0, none⟩) 0 0) (w'.alloc (.cells #[] 3)) (fun ρ hρ => ?_) hJ.put7
      clear hJ hsame hdep hcl hρ hsz
      go_simp
    · intro L a w' hL hsame hsz hJ hdep hcl
      have eb : a.eval (.tmp 7) = .pointer (some ⟨gE, 0, none⟩) := eval_base hsame (by kernel_rfl)
      refine Step.val _ rfl rfl (wanted_none rfl) (.pointer (some ⟨gE, 5, none⟩)) w' (fun ρ hρ => ?_) (hJ.put 8 (by decide))
      rw [hρ] at eb
      clear hJ hsame hdep hcl hρ hsz
      go_simp
    · intro L a w' hL hsame hsz hJ hdep hcl
      have e8 : a.eval (.tmp 20) = (.pointer (some ⟨gE, 5, none⟩)) := eval_slot (ops := _) (j := 8) (by kernel_rfl) (hJ.cst 8 (by omega) (dep_of hdep 8 (by kernel_rfl)) (by decide))
      obtain ⟨T, P, hb, t0, _, p0, _⟩ := hJ.box
      obtain ⟨q0, q1, q2, q3, q4, q5, q6⟩ := hb.seven
      obtain rfl := p0 (not_yet hL (fun h => dep_of (hcl 19 h) 9 (by kernel_rfl)))
      clear hb t0 p0
      refine Step.val _ rfl rfl (wanted_none rfl) (.slice Ap np cp) w' (fun ρ hρ => ?_) (hJ.put 9 (by decide))
      rw [hρ] at e8
      clear hJ hsame hdep hcl hρ hsz
      go_simp
    · intro L a w' hL hsame hsz hJ hdep hcl
      have eb : a.eval (.tmp 7) = .pointer (some ⟨gE, 0, none⟩) := eval_base hsame (by kernel_rfl)
      refine Step.val _ rfl rfl (wanted_none rfl) (.pointer (some ⟨gE, 5, none⟩)) w' (fun ρ hρ => ?_) (hJ.put 10 (by decide))
      rw [hρ] at eb
      clear hJ hsame hdep hcl hρ hsz
      go_simp
    · intro L a w' hL hsame hsz hJ hdep hcl
      have e10 : a.eval (.tmp 22) = (.pointer (some ⟨gE, 5, none⟩)) := eval_slot (ops := _) (j := 10) (by kernel_rfl) (hJ.cst 10 (by omega) (dep_of hdep 10 (by kernel_rfl)) (by decide))
      obtain ⟨T, P, hb, t0, _, p0, _⟩ := hJ.box
      obtain ⟨q0, q1, q2, q3, q4, q5, q6⟩ := hb.seven
      obtain rfl := p0 (not_yet hL (fun h => dep_of (hcl 19 h) 11 (by kernel_rfl)))
      clear hb t0 p0
      refine Step.val _ rfl rfl (wanted_none rfl) (.slice Ap np cp) w' (fun ρ hρ => ?_) (hJ.put 11 (by decide))
      rw [hρ] at e10
      clear hJ hsame hdep hcl hρ hsz
      go_simp
    · intro L a w' hL hsame hsz hJ hdep hcl
      have e11 : a.eval (.tmp 23) = (.slice Ap np cp) := eval_slot (ops := _) (j := 11) (by kernel_rfl) (hJ.cst 11 (by omega) (dep_of hdep 11 (by kernel_rfl)) (by decide))
      refine Step.val _ rfl rfl (wanted_none rfl) (.int .i64 (np : Int)) w' (fun ρ hρ => ?_) (hJ.put 12 (by decide))
      rw [hρ] at e11
      clear hJ hsame hdep hcl hρ hsz
      go_simp
    · intro L a w' hL hsame hsz hJ hdep hcl
      have e12 : a.eval (.tmp 24) = (.int .i64 (np : Int)) := eval_slot (ops := _) (j := 12) (by kernel_rfl) (hJ.cst 12 (by omega) (dep_of hdep 12 (by kernel_rfl)) (by decide))
      refine Step.val _ rfl rfl (wanted_none rfl) (.int .i64 (m2 : Int)) w' (fun ρ hρ => ?_) (hJ.put 13 (by decide))
      rw [hρ] at e12
      have ec : ρ (.const (.int .i64 20)) = .int .i64 20 := (hρ _).symm
      clear hJ hsame hdep hcl hρ hsz
      go_simp
    · intro L a w' hL hsame hsz hJ hdep hcl
      have e9 : a.eval (.tmp 21) = (.slice Ap np cp) := eval_slot (ops := _) (j := 9) (by kernel_rfl) (hJ.cst 9 (by omega) (dep_of hdep 9 (by kernel_rfl)) (by decide))
      have e13 : a.eval (.tmp 25) = (.int .i64 (m2 : Int)) := eval_slot (ops := _) (j := 13) (by kernel_rfl) (hJ.cst 13 (by omega) (dep_of hdep 13 (by kernel_rfl)) (by decide))
      refine Step.val _ rfl rfl (wanted_none rfl) (.slice Ap m2 cp) w' (fun ρ hρ => ?_) (hJ.put 14 (by decide))
      rw [hρ] at e9
      rw [hρ] at e13
      clear hJ hsame hdep hcl hρ hsz
      go_simp
      (try (intro hlt; exfalso; omega))
    · intro L a w' hL hsame hsz hJ hdep hcl
      have l7 := dep_of hdep 7 (by kernel_rfl)
      have l19 : L 19 = false := not_yet hL (fun h => dep_of (hcl 19 h) 15 (by kernel_rfl))
      have hr := hJ.r7 l7 hL
      have ex : a.eval (.tmp 26) = .slice Ap m2 cp := eval_slot (ops := _) (j := 14) (by kernel_rfl) (hJ.cst 14 (by omega) (dep_of hdep 14 (by kernel_rfl)) (by decide))
      have hkk := hJ.kept
      exact tells_append _ _ i1 hj hy0 hy1 hy2 rfl rfl rfl rfl Tryd.underlying22 hr (HPA.out w' hkk) (eval_slot (j := 7) (by kernel_rfl) rfl) ex hm20 hkk.size (fun v w2 hv hg => hJ.put15 l7 hL l19 hv hg)
    · intro L a w' hL hsame hsz hJ hdep hcl
      have eb : a.eval (.tmp 7) = .pointer (some ⟨gE, 0, none⟩) := eval_base hsame (by kernel_rfl)
      refine Step.val _ rfl rfl (wanted_none rfl) (.pointer (some ⟨gE, 6, none⟩)) w' (fun ρ hρ => ?_) (hJ.put 16 (by decide))
      rw [hρ] at eb
      clear hJ hsame hdep hcl hρ hsz
      go_simp
    · intro L a w' hL hsame hsz hJ hdep hcl
      have e6 : a.eval (.tmp 18) = (.string (s0.extract 0 m4)) := eval_slot (ops := _) (j := 6) (by kernel_rfl) (hJ.cst 6 (by omega) (dep_of hdep 6 (by kernel_rfl)) (by decide))
      have e16 : a.eval (.tmp 28) = (.pointer (some ⟨gE, 6, none⟩)) := eval_slot (ops := _) (j := 16) (by kernel_rfl) (hJ.cst 16 (by omega) (dep_of hdep 16 (by kernel_rfl)) (by decide))
      obtain ⟨T, P, hb, _⟩ := hJ.box
      obtain ⟨q0, q1, q2, q3, q4, q5, q6⟩ := hb.seven
      have fr := hb.frozen
      refine Step.skip _ rfl (wanted_none rfl) (w'.setCell ⟨gE, 6, none⟩ (.string (s0.extract 0 m4))) (fun ρ hρ => ?_) hJ.put17
      rw [hρ] at e6
      rw [hρ] at e16
      clear hJ hsame hdep hcl hρ hsz hb
      go_simp
    · intro L a w' hL hsame hsz hJ hdep hcl
      have eb : a.eval (.tmp 7) = .pointer (some ⟨gE, 0, none⟩) := eval_base hsame (by kernel_rfl)
      refine Step.val _ rfl rfl (wanted_none rfl) (.pointer (some ⟨gE, 5, none⟩)) w' (fun ρ hρ => ?_) (hJ.put 18 (by decide))
      rw [hρ] at eb
      clear hJ hsame hdep hcl hρ hsz
      go_simp
    · intro L a w' hL hsame hsz hJ hdep hcl
      have e18 : a.eval (.tmp 29) = (.pointer (some ⟨gE, 5, none⟩)) := eval_slot (ops := _) (j := 18) (by kernel_rfl) (hJ.cst 18 (by omega) (dep_of hdep 18 (by kernel_rfl)) (by decide))
      have l15 := dep_of hdep 15 (by kernel_rfl)
      obtain ⟨T, P, hb, _⟩ := hJ.box
      obtain ⟨q0, q1, q2, q3, q4, q5, q6⟩ := hb.seven
      have fr := hb.frozen
      obtain ⟨Av, cv, hv, _⟩ := own_form (hJ.r15 l15)
      have e15 : a.eval (.tmp 27) = .slice Av m2 cv := eval_slot (j := 15) (by kernel_rfl) hv
      refine Step.skip _ rfl (wanted_none rfl) (w'.setCell ⟨gE, 5, none⟩ (.slice Av m2 cv)) (fun ρ hρ => ?_) (by rw [← hv]; exact hJ.put19 l15)
      rw [hρ] at e15
      rw [hρ] at e18
      clear hJ hsame hdep hcl hρ hsz hb hv
      go_simp
    · intro L a w' hsame hsz hJ hall
      have h := hide (show TellsOut gE kd rn pv it fn s0 lp m4 m2 w1 w' from by
        obtain ⟨T, P, a, b, c, d, e⟩ := hJ.box
        have hT := c (hall 17 (by decide))
        subst hT
        exact ⟨P, a, e (hall 19 (by decide)), hJ.kept⟩)
      obtain ⟨u, hu, ha⟩ := act_puts hsame
      clear hJ hall hsz hu hsame
      subst ha
      change Exit.then _ _ Exit.normal (Act.put (Act.put (Act.put (Act.put (Act.put (Act.put (Act.put (Act.put (Act.put (Act.put (Act.put (Act.put (Act.put (Act.put (Act.put (Act.put (Act.put (Act.put (Act.put (Act.put (putAll _ u 0 _) (some 12) (u 0)) (some 13) (u 1)) (some 14) (u 2)) (some 15) (u 3)) (some 16) (u 4)) (some 17) (u 5)) (some 18) (u 6)) (some 19) (u 7)) (some 20) (u 8)) (some 21) (u 9)) (some 22) (u 10)) (some 23) (u 11)) (some 24) (u 12)) (some 25) (u 13)) (some 26) (u 14)) (some 27) (u 15)) (some 28) (u 16)) none (u 17)) (some 29) (u 18)) none (u 19)) _
      simp only [putAll]
      generalize u 0 = v0
      generalize u 1 = v1
      generalize u 2 = v2
      generalize u 3 = v3
      generalize u 4 = v4
      generalize u 5 = v5
      generalize u 6 = v6
      generalize u 7 = v7
      generalize u 8 = v8
      generalize u 9 = v9
      generalize u 10 = v10
      generalize u 11 = v11
      generalize u 12 = v12
      generalize u 13 = v13
      generalize u 14 = v14
      generalize u 15 = v15
      generalize u 16 = v16
      generalize u 17 = v17
      generalize u 18 = v18
      generalize u 19 = v19
      go_simp
      go_step
      go_meet
      exact h
    · exact TellsJ.start BE.out.lt BE.out
  case rest =>
    obtain ⟨P, bE2, hRow, kk⟩ := hcut.out
    obtain ⟨Av, cv, rfl, _⟩ := own_form hRow
    have hst : s0.extract 0 m4 = strOfNums (t.take m4) := by rw [← HS0.out]; exact str_take t m4
    have bwc : Below w.heap.size w wc := BB.out.trans (kk.toBelow BB.out.size (fun q hq => by simp at hq; omega))
    have hlm : (lp.take m2).length = m2 := by rw [List.length_take]; omega
    have T1 := hide (show TellsEv gE false w wc from by
      refine ⟨⟨kd, rn, pv, it, fn, lp.take m2, t.take m4⟩, .slice Av m2 cv, ?_, ⟨Av, cv, by simp only [hlm], by simp only [hlm]; exact Seen.of_own hRow, by simp only [hlm]; omega⟩, ⟨hfn.1, fun x hx => HTX.out x (List.mem_of_mem_take hx)⟩, hrn, by simp only [List.length_take]; omega, fun h => (by cases h), bwc⟩
      rw [hst] at bE2
      exact bE2)
    have BK2 := hide (BK.out.kept kk (by simpa using hEK.symm))
    have BE2 := hide bE2
    have BWC := hide bwc
    clear hcut bE2 hRow kk hst bwc hlm BK BE BB HPA
    obtain ⟨j0, j1, j2, j3, j4⟩ := Box.five BK2.out
    go_upto_if 30 with fail
    go_cut [] (fun wx => Hid (TellsEv gE own w wx))
    case first =>
      rcases own with _ | _
      · go_wp2_with fail
        go_meet
        exact T1
      · go_wp2_with fail
        refine (HK.out wc BWC.out).mono ?_
        rintro e w2 ⟨A, c, rfl, hp, bb, hnw⟩
        have hfr := (BE2.out.below bb BE2.out.lt).frozen
        have BE3 := hide (BE2.out.below bb BE2.out.lt)
        obtain ⟨q0, q1, q2, q3, q4, q5, q6⟩ := BE3.out.seven
        have hEc : gE < wc.heap.size := BE2.out.lt
        have R := hide (show ParIn w2 (Y, .slice A Y.params.length c) ∧ NotIn gE Y (.slice A Y.params.length c) ∧ Below w.heap.size w w2 from ⟨⟨A, c, rfl, hp, by have := right_params' HRY.out; simp only []; omega⟩, fun _ ad n' c' e => by injection e with e1 _ _; have := hnw ad e1; omega, BWC.out.trans (bb.mono BWC.out.size)⟩)
        clear hp bb hnw
        go_wp2_with fail
        go_meet
        exact hide ⟨Y, .slice A Y.params.length c, by simpa [ecells] using Box.set7 BE3.out (.int .i64 Y.kind) (.int .i32 Y.rune) (.int .u8 Y.priv) (.int .u8 Y.inter) (.int .u8 Y.final) (.slice A Y.params.length c) (.string (strOfNums Y.text)), parIn_set7 R.out.1 R.out.2.1 _ _ _ _ _ _ _, evFits_right' HRY.out, (right_rune HRY.out).1, (right_rune HRY.out).2, fun _ => HRY.out, below_set7 R.out.2.2 hEw _ _ _ _ _ _ _⟩
    case rest =>
      obtain ⟨ev, u, bx, hp, hf, hrb, htl4, hown, bl⟩ := hcut.out
      obtain ⟨Au, cu, hu, sU, lU⟩ := hp
      simp only [] at hu sU lU
      subst hu
      have HP := hide (show ParIn wc (ev, .slice Au ev.params.length cu) from ⟨Au, cu, rfl, sU, lU⟩)
      have HF := hide hf
      have HBL := hide bl
      have HOW := hide hown
      obtain ⟨bs, hbs⟩ : ∃ bs, PA.bytesAll (printed [ev]) = bs := ⟨_, rfl⟩
      have BXE := hide bx
      have PR := hide (show Calls Tryd.prog 10 #[.slice (some ⟨wc.heap.size, 0, none⟩) 1 1] (wc.alloc (.cells (ecells ev (.slice Au ev.params.length cu)).toArray 24)) (Encoded (wc.alloc (.cells (ecells ev (.slice Au ev.params.length cu)).toArray 24)) bs) from by
        have h := print_any (some ⟨wc.heap.size, 0, none⟩) 1 1 [(ev, .slice Au ev.params.length cu)] (wc.alloc (.cells (ecells ev (.slice Au ev.params.length cu)).toArray 24)) (seenE_block (Box.new wc _ _) (by rw [mcells_one]) rfl (fun p hp => by rw [List.mem_singleton.1 hp]; exact HP.out.below ((Below.refl _ _).alloc (Nat.le_refl _) _))) (one_fits hf) (by omega) (HT.out.keep (bl.alloc bl.size _))
        rw [show ([(ev, Value.slice Au ev.params.length cu)].map (·.1)) = [ev] from rfl, hbs] at h
        exact h)
      have RR := hide (fun (w' : World) (h : Seen w' w'.heap.size Au ev.params.length (i64s ev.params)) => refRight_any ev.kind ev.rune ev.priv ev.inter ev.final Au ev.params.length cu ev.params ev.text w' h hf.1 hf.2 hrb.1 hrb.2 (by omega) (by omega))
      have RI := hide (fun (w' : World) (h : Seen w' w'.heap.size Au ev.params.length (i64s ev.params)) => right_any ev.kind ev.rune ev.priv ev.inter ev.final Au ev.params.length cu ev.params ev.text w' h (by omega) hf.1 hf.2)
      have SS := hide (fun (w' : World) (h : Seen w' w'.heap.size Au ev.params.length (i64s ev.params)) => (show Calls Tryd.prog 13 _ w' (fun e w2 => e = .returned (.bool true) ∧ Below w'.heap.size w' w2) from by
        have h2 := seqSame_any ev.kind ev.rune ev.priv ev.inter ev.final ev.kind ev.rune ev.priv ev.inter ev.final Au Au ev.params.length cu ev.params.length cu ev.params ev.params ev.text ev.text w' h h (by omega) hf.2 hf.2
        rw [show evEqB ⟨ev.kind, ev.rune, ev.priv, ev.inter, ev.final, ev.params, ev.text⟩ ⟨ev.kind, ev.rune, ev.priv, ev.inter, ev.final, ev.params, ev.text⟩ = true from (evEqB_iff _ _).2 rfl] at h2
        exact h2))
      have BXX := hide (show Box wc gE 24 #[.int .i64 ev.kind, .int .i32 ev.rune, .int .u8 ev.priv, .int .u8 ev.inter, .int .u8 ev.final, .slice Au ev.params.length cu, .string (strOfNums ev.text)] from bx)
      rw [show (ecells ev (.slice Au ev.params.length cu)).toArray = #[.int .i64 ev.kind, .int .i32 ev.rune, .int .u8 ev.priv, .int .u8 ev.inter, .int .u8 ev.final, .slice Au ev.params.length cu, .string (strOfNums ev.text)] from rfl] at PR
      have HPL := hide lU
      obtain ⟨q0, q1, q2, q3, q4, q5, q6⟩ := BXX.out.seven
      have HBS := hide hbs
      obtain ⟨r, hr⟩ : ∃ r, PA.rightB ev = r := ⟨_, rfl⟩
      rw [show PA.rightB ⟨ev.kind, ev.rune, ev.priv, ev.inter, ev.final, ev.params, ev.text⟩ = r from hr] at RR RI
      have HR := hide hr
      clear hcut bx hf hrb htl4 hown bl sU lU hbs hr j0 j1 j2 j3 j4 BK2 BE2 BWC T1 HK HRY
      go_wp2_with fail
      refine PR.out.mono ?_
      rintro e w2 ⟨v2, rfl, hv2, bb⟩
      obtain ⟨Ab, cb, rfl, hnb, hcb, _⟩ := own_form hv2
      have SB := hide (Seen.of_own hv2)
      have B2 := hide (show Below wc.heap.size wc w2 from ((Below.refl _ wc).alloc (Nat.le_refl _) _).trans (bb.mono (by simp)))
      clear bb hv2 q0 q1 q2 q3 q4 q5 q6 PR
      obtain ⟨q0, q1, q2, q3, q4, q5, q6⟩ := (BXX.out.below B2.out BXX.out.lt).seven
      have hcase : (r = true ∧ PA.Right ev ∧ bs = PA.bytesOf ev) ∨ (r = false ∧ bs = [] ∧ own = false) := by
        rcases r with _ | _
        · refine .inr ⟨rfl, ?_, ?_⟩
          · rw [← HBS.out]
            unfold printed
            rw [List.filter_cons_of_neg (by rw [HR.out]; simp)]
            rfl
          · rcases own with _ | _
            · rfl
            · have := PA.right_rightB (HOW.out rfl)
              rw [HR.out] at this
              cases this
        · have h := PA.rightB_right HR.out
          refine .inl ⟨rfl, h, ?_⟩
          rw [← HBS.out, printed_one h]
          simp [PA.bytesAll]
      rcases hcase with ⟨rfl, hR, hbs⟩ | ⟨rfl, hbs, rfl⟩
      · have hn0 : 0 < bs.length := by
          rcases bs with _ | _
          · exact absurd hbs.symm (PA.bytes_ne hR)
          · simp
        have HRT := hide hR
        have HBO := hide hbs
        have HBT := hide hn0
        obtain ⟨nb, hnbq⟩ : ∃ nb, bs.length = nb := ⟨_, rfl⟩
        rw [hnbq] at SB HBT hnb ⊢
        have hn1 : (0 : Int) < (nb : Int) := by have := HBT.out; omega
        clear hbs hR hn0 hnbq
        go_wp2_with fail
        rcases own with _ | _
        all_goals
          refine (RR.out w2 (parIn_seen (HP.out.below B2.out))).mono ?_
          rintro e w3 ⟨rfl, bb⟩
          have B3 := hide (B2.out.trans (bb.mono B2.out.size))
          have SB := hide ((SB.out.below bb).more bb.size)
          clear bb q0 q1 q2 q3 q4 q5 q6
          obtain ⟨q0, q1, q2, q3, q4, q5, q6⟩ := (BXX.out.below B3.out BXX.out.lt).seven
          go_wp2_with fail
          refine (RI.out w3 (parIn_seen (HP.out.below B3.out))).mono ?_
          rintro e w4 ⟨rfl, bb⟩
          have B4 := hide (B3.out.trans (bb.mono B3.out.size))
          have SB := hide ((SB.out.below bb).more bb.size)
          clear bb q0 q1 q2 q3 q4 q5 q6
          obtain ⟨q0, q1, q2, q3, q4, q5, q6⟩ := (BXX.out.below B4.out BXX.out.lt).seven
          go_wp2_with fail
          refine (SS.out w4 (parIn_seen (HP.out.below B4.out))).mono ?_
          rintro e w5 ⟨rfl, bb⟩
          have B5 := hide (B4.out.trans (bb.mono B4.out.size))
          have SB := hide ((SB.out.below bb).more bb.size)
          clear bb q0 q1 q2 q3 q4 q5 q6
          obtain ⟨q0, q1, q2, q3, q4, q5, q6⟩ := (BXX.out.below B5.out BXX.out.lt).seven
          go_wp2_with fail
          refine (parse_right ev HRT.out Ab nb cb w5 (by rw [← HBO.out]; exact SB.out) hnb hcb).mono ?_
          rintro e w6 ⟨v6, rfl, hmade, bb⟩
          obtain ⟨Al, cl, rfl, _⟩ := own_form' hmade.choose_spec.1
          obtain ⟨u6, hse⟩ := seenE_made hmade
          have SL := hide hse
          have B6 := hide (B5.out.trans (bb.mono B5.out.size))
          clear bb q0 q1 q2 q3 q4 q5 q6 hmade hse
          obtain ⟨q0, q1, q2, q3, q4, q5, q6⟩ := (BXX.out.below B6.out BXX.out.lt).seven
          go_wp2_with fail
          refine (events_any Al (some ⟨w6.heap.size, 0, none⟩) 1 cl 1 [(ev, u6)] [(ev, .slice Au ev.params.length cu)] _ (SL.out.kept ((Below.refl w6.heap.size w6).alloc (Nat.le_refl _) _)) (seenE_block (Box.new w6 _ _) (by rw [mcells_one]; rfl) rfl (fun p hp => by rw [List.mem_singleton.1 hp]; exact (HP.out.below B6.out).below ((Below.refl w6.heap.size w6).alloc (Nat.le_refl _) _))) rfl (by omega)).mono ?_
          rintro e w7 ⟨rfl, bb⟩
          have B7 := hide (show Below w.heap.size w w7 from HBL.out.trans ((B6.out.trans ((((Below.refl w6.heap.size w6).alloc (Nat.le_refl _) _).trans (bb.mono (by simp))).mono B6.out.size)).mono HBL.out.size))
          clear bb q0 q1 q2 q3 q4 q5 q6
          go_wp2_with fail
          refine (seqRuns_any w7 (HT.out.keep B7.out)).mono ?_
          rintro e w8 ⟨rfl, bb⟩
          have B8 := hide (B7.out.trans (bb.mono B7.out.size))
          clear bb
          go_wp2_with fail
          go_ret
          exact ⟨rfl, B8.out⟩
      · subst hbs
        go_wp2_with fail
        all_goals
          refine (RR.out w2 (parIn_seen (HP.out.below B2.out))).mono ?_
          rintro e w3 ⟨rfl, bb⟩
          have B3 := hide (B2.out.trans (bb.mono B2.out.size))
          have SB := hide ((SB.out.below bb).more bb.size)
          clear bb q0 q1 q2 q3 q4 q5 q6
          obtain ⟨q0, q1, q2, q3, q4, q5, q6⟩ := (BXX.out.below B3.out BXX.out.lt).seven
          go_wp2_with fail
          refine (RI.out w3 (parIn_seen (HP.out.below B3.out))).mono ?_
          rintro e w4 ⟨rfl, bb⟩
          have B4 := hide (B3.out.trans (bb.mono B3.out.size))
          have SB := hide ((SB.out.below bb).more bb.size)
          clear bb q0 q1 q2 q3 q4 q5 q6
          obtain ⟨q0, q1, q2, q3, q4, q5, q6⟩ := (BXX.out.below B4.out BXX.out.lt).seven
          go_wp2_with fail
          refine (SS.out w4 (parIn_seen (HP.out.below B4.out))).mono ?_
          rintro e w5 ⟨rfl, bb⟩
          have B5 := hide (B4.out.trans (bb.mono B4.out.size))
          have SB := hide ((SB.out.below bb).more bb.size)
          clear bb q0 q1 q2 q3 q4 q5 q6
          obtain ⟨q0, q1, q2, q3, q4, q5, q6⟩ := (BXX.out.below B5.out BXX.out.lt).seven
          go_wp2_with fail
          refine (parse_none Ab cb w5).mono ?_
          rintro e w6 ⟨rfl, bb⟩
          have B6 := hide (show Below w.heap.size w w6 from HBL.out.trans ((B5.out.trans (bb.mono B5.out.size)).mono HBL.out.size))
          clear bb q0 q1 q2 q3 q4 q5 q6
          go_wp2_with fail
          refine (seqRuns_any w6 (HT.out.keep B6.out)).mono ?_
          rintro e w8 ⟨rfl, bb⟩
          have B8 := hide (B6.out.trans (bb.mono B6.out.size))
          clear bb
          go_wp2_with fail
          go_ret
          exact ⟨rfl, B8.out⟩
end Go.Proofs.YtnnjppgmadmmaaaDoor
