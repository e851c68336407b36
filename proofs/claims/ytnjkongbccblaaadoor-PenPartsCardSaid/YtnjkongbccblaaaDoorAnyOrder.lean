/- A region that draws its order, proved by what each operation leaves: each operation is walked once, whatever came up beside it. Names no function of a program. -/
import Derived.Test.YtnjkongbccblaaaDoorKept
import Derived.RegionTactic
namespace Go.Proofs.YtnjkongbccblaaaDoor
open Go.RowKit
set_option linter.unusedVariables false
section
variable {P : Program} {ops : Array Oper} {Q : Exit → Act → World → Prop} {md : Region.Mode}
/-- how many have not come up -/
def leftOver (listed : Array Bool) : Nat := listed.toList.count false
theorem count_set : ∀ (l : List Bool) (i : Nat), l[i]? = some false → (l.set i true).count false + 1 = l.count false
  | [], i, h => by simp at h
  | b :: l, 0, h => by simp at h; subst h; simp
  | b :: l, i + 1, h => by
    have := count_set l i (by simpa using h)
    simp only [List.set_cons_succ, List.count_cons]
    omega
theorem leftOver_set {listed : Array Bool} {i : Nat} (h : listed[i]? = some false) : leftOver (listed.setIfInBounds i true) + 1 = leftOver listed := by
  unfold leftOver
  rw [Array.toList_setIfInBounds]
  exact count_set _ _ (by simpa using h)
theorem ready_out {listed : Array Bool} {i : Nat} (h : i ∈ Region.ready md ops listed) : listed[i]? = some false ∧ ∃ o, ops[i]? = some o ∧ ∀ e ∈ o.after, Region.binds md e = true → listed.getD e.on false = true := by
  unfold Region.ready at h
  rw [List.mem_filter] at h
  obtain ⟨_, h⟩ := h
  simp only [Bool.and_eq_true, Bool.not_eq_true'] at h
  obtain ⟨h1, h2⟩ := h
  refine ⟨?_, ?_⟩
  · by_cases hi : i < listed.size
    · rw [Array.getElem?_eq_getElem hi]
      simpa [hi] using h1
    · simp [Array.getD, hi] at h1
  · cases ho : ops[i]? with
    | none => simp [ho] at h2
    | some o =>
      refine ⟨o, rfl, fun e he hb => ?_⟩
      simp only [ho, Option.map_some, Option.getD_some, Array.all_eq_true'] at h2
      have := h2 e he
      simpa [hb] using this
theorem ready_all {listed : Array Bool} (hsz : listed.size = ops.size) (h0 : leftOver listed = 0) : Region.ready md ops listed = [] := by
  rw [List.eq_nil_iff_forall_not_mem]
  intro i hi
  have := leftOver_set (ready_out hi).1
  omega
/-- WHATEVER ORDER: what holds of those that came up, and of act and world, is kept by each that may come up. -/
theorem wpAny_inv {J : Array Bool → Act → World → Prop}
    (done : ∀ listed a w, listed.size = ops.size → Region.ready md ops listed = [] → J listed a w → Q .normal a w)
    (step : ∀ listed a w i, listed.size = ops.size → i ∈ Region.ready md ops listed → J listed a w → wpOp P ops Q i (J (listed.setIfInBounds i true)) a w) :
    ∀ fuel listed a w, listed.size = ops.size → leftOver listed ≤ fuel → J listed a w → wpAny P md ops Q fuel listed a w := by
  intro fuel
  induction fuel with
  | zero =>
    intro listed a w hs hl hJ
    have := ready_all (md := md) hs (by omega)
    exact ⟨this, done _ _ _ hs this hJ⟩
  | succ fuel ih =>
    intro listed a w hs hl hJ
    refine ⟨fun h => done _ _ _ hs h hJ, fun i hi => ?_⟩
    refine wpOp_mono (fun a' w' h' => ?_) (step _ _ _ i hs hi hJ)
    have := leftOver_set (ready_out hi).1
    exact ih _ _ _ (by simpa using hs) (by omega) h'
/-- each operation waits for earlier ones alone -/
def depsOk (ops : Array Oper) : Bool := (List.range ops.size).all fun i => ((ops[i]?).map fun o => o.after.all fun e => !Region.binds .any e || decide (e.on < i)).getD true
theorem ready_nil {listed : Array Bool} (hd : depsOk ops = true) (hsz : listed.size = ops.size) (h : Region.ready .any ops listed = []) : ∀ i, i < ops.size → listed.getD i false = true := by
  intro i
  induction i using Nat.strongRecOn with
  | ind i ih =>
    intro hi
    by_cases hl : listed.getD i false = true
    · exact hl
    exfalso
    have hmem : i ∈ Region.ready .any ops listed := by
      unfold Region.ready
      rw [List.mem_filter]
      refine ⟨by simpa using hi, ?_⟩
      have hli : i < listed.size := by omega
      have e1 : listed.getD i true = false := by
        simp only [Array.getD, hli, dite_true] at hl ⊢
        simpa using hl
      have ho : ops[i]? = some ops[i] := Array.getElem?_eq_getElem hi
      have hda := List.all_eq_true.1 hd i (by simpa using hi)
      rw [ho] at hda ⊢
      simp only [Option.map_some, Option.getD_some, Array.all_eq_true'] at hda ⊢
      simp only [e1, Bool.not_false, Bool.true_and, Array.all_eq_true']
      intro e he
      have := hda e he
      simp only [Bool.or_eq_true, Bool.not_eq_true', decide_eq_true_eq] at this ⊢
      rcases this with h | h
      · exact .inl h
      · exact .inr (ih e.on h (by omega))
    rw [h] at hmem
    cases hmem
def slotOf (ops : Array Oper) (j : Nat) : Option Tmp := (ops[j]?).bind (·.dst)
def valOf (ops : Array Oper) (j : Nat) (a : Act) : Value := match slotOf ops j with | some d => a.tmps.getD d undef | none => undef
/-- each operation has a place of its own, within the frame -/
def slotsOk (ops : Array Oper) (n : Nat) : Bool := (List.range ops.size).all fun i => ((slotOf ops i).map fun d => decide (d < n) && (List.range i).all fun j => slotOf ops j != some d).getD true
def mark (L : Nat → Bool) (i : Nat) : Nat → Bool := fun k => if k = i then true else L k
/-- all but the operations' places is as it was -/
def SameBut (ops : Array Oper) (a0 a : Act) : Prop := a.tmps.size = a0.tmps.size ∧ a.defers = a0.defers ∧ ∀ d, (∀ j, slotOf ops j ≠ some d) → a.tmps.getD d undef = a0.tmps.getD d undef
theorem SameBut.put {a0 a : Act} (h : SameBut ops a0 a) {i : Nat} {o : Oper} (ho : ops[i]? = some o) (v : Value) : SameBut ops a0 (a.put o.dst v) := by
  obtain ⟨h1, h2, h3⟩ := h
  cases hd : o.dst with
  | none => exact ⟨h1, h2, h3⟩
  | some d =>
    refine ⟨by simpa [Act.put] using h1, h2, fun d' hd' => ?_⟩
    have hne : d ≠ d' := fun e => hd' i (by simp [slotOf, ho, hd, e])
    rw [← h3 d' hd']
    simp [Act.put, Array.getD_eq_getD_getElem?, Array.getElem?_setIfInBounds_ne hne]
theorem slots_apart {n : Nat} (hs : slotsOk ops n = true) {i j : Nat} {d : Tmp} (hi : slotOf ops i = some d) (hj : slotOf ops j = some d) : i = j := by
  have lt : ∀ i d, slotOf ops i = some d → i < ops.size := fun i d h => by
    unfold slotOf at h
    cases ho : ops[i]? with
    | none => simp [ho] at h
    | some o => exact (Array.getElem?_eq_some_iff.1 ho).1
  have key : ∀ i j, slotOf ops i = some d → slotOf ops j = some d → ¬ j < i := fun i j hi hj hlt => by
    have := List.all_eq_true.1 hs i (by simpa using lt i d hi)
    rw [hi] at this
    simp only [Option.map_some, Option.getD_some, Bool.and_eq_true] at this
    have := List.all_eq_true.1 this.2 j (by simpa using hlt)
    simp [hj] at this
  have := key i j hi hj
  have := key j i hj hi
  omega
theorem slot_lt {n : Nat} (hs : slotsOk ops n = true) {i : Nat} {d : Tmp} (hi : slotOf ops i = some d) : d < n := by
  have lt : i < ops.size := by
    unfold slotOf at hi
    cases ho : ops[i]? with
    | none => simp [ho] at hi
    | some o => exact (Array.getElem?_eq_some_iff.1 ho).1
  have := List.all_eq_true.1 hs i (by simpa using lt)
  rw [hi] at this
  simp only [Option.map_some, Option.getD_some, Bool.and_eq_true, decide_eq_true_eq] at this
  exact this.1
theorem valOf_put_ne {n : Nat} (hs : slotsOk ops n = true) {i j : Nat} {o : Oper} {a : Act} (ho : ops[i]? = some o) (hne : i ≠ j) (v : Value) : valOf ops j (a.put o.dst v) = valOf ops j a := by
  unfold valOf
  cases hj : slotOf ops j with
  | none => rfl
  | some d =>
    cases hd : o.dst with
    | none => rfl
    | some d' =>
      have : d' ≠ d := fun e => hne (slots_apart hs (d := d) (by simp [slotOf, ho, hd, e]) hj)
      simp [Act.put, Array.getD_eq_getD_getElem?, Array.getElem?_setIfInBounds_ne this]
theorem valOf_put_eq {n : Nat} (hs : slotsOk ops n = true) {i : Nat} {o : Oper} {a : Act} (ho : ops[i]? = some o) (hn : a.tmps.size = n) (v : Value) (hv : o.dst = none → v = undef) : valOf ops i (a.put o.dst v) = v := by
  have hsl : slotOf ops i = o.dst := by simp [slotOf, ho]
  unfold valOf
  rw [hsl]
  cases hd : o.dst with
  | none => exact (hv hd).symm
  | some d =>
    have : d < a.tmps.size := by rw [hn]; exact slot_lt hs (hsl.trans hd)
    simp [Act.put, Array.getD_eq_getD_getElem?, this]
/-- whatever came up, what it waits for came up -/
def Closed (ops : Array Oper) (L : Nat → Bool) : Prop := ∀ j, L j = true → ∀ o, ops[j]? = some o → ∀ e ∈ o.after, Region.binds .any e = true → L e.on = true
theorem Closed.mark {L : Nat → Bool} {i : Nat} (h : Closed ops L) (hi : ∀ o, ops[i]? = some o → ∀ e ∈ o.after, Region.binds .any e = true → L e.on = true) : Closed ops (mark L i) := fun j hj o ho e he hb => by
  have : L e.on = true := by
    unfold Go.Proofs.YtnjkongbccblaaaDoor.mark at hj
    split at hj
    · rename_i hji
      subst hji
      exact hi o ho e he hb
    · exact h j hj o ho e he hb
  unfold Go.Proofs.YtnjkongbccblaaaDoor.mark
  split
  · rfl
  · exact this
/-- the steps of wp_region_phi -/
def StepP (P : Program) (ops : Array Oper) (Q : Exit → Act → World → Prop) (Ev : Nat → World → World → Prop) (Phi : Nat → Value → World → Prop) (a : Act) (w : World) (i : Nat) : Prop :=
  wpOp P ops Q i (fun a' w' => ∃ o v, ops[i]? = some o ∧ (o.dst = none → v = undef) ∧ a' = a.put o.dst v ∧ Ev i w w' ∧ Phi i v w') a w
/-- A REGION THAT DRAWS ITS ORDER, by what each operation leaves. Phi i: what operation i's value is, and what the world has of it; Ev i: what it does to the world; Base: what is known of the world beside. -/
theorem wp_region_phi {id n : Nat} {a0 : Act} {w0 : World} (Ev : Nat → World → World → Prop) (Phi : Nat → Value → World → Prop) (Base : (Nat → Bool) → World → Prop)
    (hm : P.follows .mixedOrders = true) (hd : depsOk ops = true) (hs : slotsOk ops n = true) (hn : a0.tmps.size = n)
    (hPhi : ∀ i j v w w', i < ops.size → j < ops.size → i ≠ j → Phi j v w → Ev i w w' → Phi j v w')
    (hBase : ∀ L i w w', L i = false → Base L w → Ev i w w' → Base (mark L i) w')
    (hstep : ∀ i, i < ops.size → ∀ L a w, L i = false → SameBut ops a0 a → a.tmps.size = n → Base L w → (∀ o, ops[i]? = some o → ∀ e ∈ o.after, Region.binds .any e = true → L e.on = true) → Closed ops L → (∀ j, L j = true → Phi j (valOf ops j a) w) →
      StepP P ops Q Ev Phi a w i)
    (hdone : ∀ L a w, SameBut ops a0 a → a.tmps.size = n → Base L w → (∀ j, j < ops.size → L j = true) → (∀ j, j < ops.size → Phi j (valOf ops j a) w) → Q .normal a w)
    (h0 : Base (fun _ => false) { w0 with drawn := w0.drawn + 1 }) : (Code.region id ops true).wp P Q a0 w0 := by
  refine wp_region_any hm (wpAny_inv (J := fun listed a w => SameBut ops a0 a ∧ Closed ops (fun k => listed.getD k false) ∧ Base (fun k => listed.getD k false) w ∧ ∀ j, listed.getD j false = true → Phi j (valOf ops j a) w) ?_ ?_ _ _ _ _ (by simp) ?_ ?_)
  · intro listed a w hsz hr ⟨h1, hc, h2, h3⟩
    have hall := ready_nil hd hsz hr
    exact hdone _ a w h1 (h1.1.trans hn) h2 hall (fun j hj => h3 j (hall j hj))
  · intro listed a w i hsz hi ⟨h1, hc, h2, h3⟩
    obtain ⟨hli, o, ho, hdep⟩ := ready_out hi
    have hil : i < ops.size := (Array.getElem?_eq_some_iff.1 ho).1
    have hL : listed.getD i false = false := by rw [Array.getD_eq_getD_getElem?, hli]; rfl
    refine wpOp_mono (fun a' w' h' => ?_) (hstep i hil (fun k => listed.getD k false) a w hL h1 (h1.1.trans hn) h2 (fun o' ho' => by rw [ho] at ho'; cases ho'; exact hdep) hc h3)
    obtain ⟨o', v, ho', hv, rfl, hev, hphi⟩ := h'
    rw [ho] at ho'
    cases ho'
    have hmk : (fun k => (listed.setIfInBounds i true).getD k false) = mark (fun k => listed.getD k false) i := by
      funext k
      unfold mark
      by_cases hk : k = i
      · subst hk
        have : k < listed.size := by omega
        simp [Array.getD_eq_getD_getElem?, this]
      · simp [Array.getD_eq_getD_getElem?, hk, Array.getElem?_setIfInBounds_ne (Ne.symm hk)]
    refine ⟨h1.put ho v, by rw [hmk]; exact hc.mark (fun o' ho' => by rw [ho] at ho'; cases ho'; exact hdep), ?_, fun j hj => ?_⟩
    · show Base (fun k => (listed.setIfInBounds i true).getD k false) w'
      rw [hmk]
      exact hBase _ i w w' hL h2 hev
    · have hj' : mark (fun k => listed.getD k false) i j = true := by rw [← hmk]; exact hj
      by_cases hji : j = i
      · subst hji
        rw [valOf_put_eq hs ho (h1.1.trans hn) v hv]
        exact hphi
      · rw [valOf_put_ne hs ho (Ne.symm hji)]
        have hlj : listed.getD j false = true := by simpa [mark, hji] using hj'
        have hjl : j < ops.size := by
          by_cases h : j < listed.size
          · omega
          · simp [Array.getD, h] at hlj
        exact hPhi i j _ w w' hil hjl (Ne.symm hji) (h3 j hlj) hev
  · unfold leftOver
    rw [Array.toList_replicate, List.count_replicate]
    simp
  · refine ⟨⟨rfl, rfl, fun _ _ => rfl⟩, ?_, ?_, fun j hj => ?_⟩
    · intro j hj
      simp only [Array.getD_eq_getD_getElem?, Array.getElem?_replicate] at hj
      split at hj <;> simp at hj
    · have : (fun k => (Array.replicate ops.size false).getD k false) = fun _ => false := by
        funext k
        simp only [Array.getD_eq_getD_getElem?, Array.getElem?_replicate]
        split <;> rfl
      rw [this]
      exact h0
    · simp only [Array.getD_eq_getD_getElem?, Array.getElem?_replicate] at hj
      split at hj <;> simp at hj
/-- the values of the operations, one of them new -/
def upd (u : Nat → Value) (i : Nat) (v : Value) : Nat → Value := fun j => if j = i then v else u j
/-- the steps of wp_region_vals -/
def Step (P : Program) (ops : Array Oper) (Q : Exit → Act → World → Prop) (J : (Nat → Bool) → (Nat → Value) → World → Prop) (L : Nat → Bool) (a : Act) (w : World) (i : Nat) : Prop :=
  wpOp P ops Q i (fun a' w' => ∃ o v, ops[i]? = some o ∧ (o.dst = none → v = undef) ∧ a' = a.put o.dst v ∧ J (mark L i) (upd (fun j => valOf ops j a) i v) w') a w
/-- A REGION THAT DRAWS ITS ORDER, by one relation between what came up, the operations' values, and the world. -/
theorem wp_region_vals {id n : Nat} {a0 : Act} {w0 : World} (J : (Nat → Bool) → (Nat → Value) → World → Prop)
    (hm : P.follows .mixedOrders = true) (hd : depsOk ops = true) (hs : slotsOk ops n = true) (hn : a0.tmps.size = n)
    (hJ : ∀ L u u' w, (∀ j, j < ops.size → u j = u' j) → J L u w → J L u' w)
    (hstep : ∀ i, i < ops.size → ∀ L a w, L i = false → SameBut ops a0 a → a.tmps.size = n → J L (fun j => valOf ops j a) w → (∀ o, ops[i]? = some o → ∀ e ∈ o.after, Region.binds .any e = true → L e.on = true) → Closed ops L →
      Step P ops Q J L a w i)
    (hdone : ∀ L a w, SameBut ops a0 a → a.tmps.size = n → J L (fun j => valOf ops j a) w → (∀ j, j < ops.size → L j = true) → Q .normal a w)
    (h0 : J (fun _ => false) (fun j => valOf ops j a0) { w0 with drawn := w0.drawn + 1 }) : (Code.region id ops true).wp P Q a0 w0 := by
  refine wp_region_any hm (wpAny_inv (J := fun listed a w => SameBut ops a0 a ∧ Closed ops (fun k => listed.getD k false) ∧ J (fun k => listed.getD k false) (fun j => valOf ops j a) w) ?_ ?_ _ _ _ _ (by simp) ?_ ?_)
  · intro listed a w hsz hr ⟨h1, hc, h2⟩
    exact hdone _ a w h1 (h1.1.trans hn) h2 (ready_nil hd hsz hr)
  · intro listed a w i hsz hi ⟨h1, hc, h2⟩
    obtain ⟨hli, o, ho, hdep⟩ := ready_out hi
    have hil : i < ops.size := (Array.getElem?_eq_some_iff.1 ho).1
    have hL : listed.getD i false = false := by rw [Array.getD_eq_getD_getElem?, hli]; rfl
    refine wpOp_mono (fun a' w' h' => ?_) (hstep i hil (fun k => listed.getD k false) a w hL h1 (h1.1.trans hn) h2 (fun o' ho' => by rw [ho] at ho'; cases ho'; exact hdep) hc)
    obtain ⟨o', v, ho', hv, rfl, hj⟩ := h'
    rw [ho] at ho'
    cases ho'
    have hmk : (fun k => (listed.setIfInBounds i true).getD k false) = mark (fun k => listed.getD k false) i := by
      funext k
      unfold mark
      by_cases hk : k = i
      · subst hk
        have : k < listed.size := by omega
        simp [Array.getD_eq_getD_getElem?, this]
      · simp [Array.getD_eq_getD_getElem?, hk, Array.getElem?_setIfInBounds_ne (Ne.symm hk)]
    refine ⟨h1.put ho v, by rw [hmk]; exact hc.mark (fun o' ho' => by rw [ho] at ho'; cases ho'; exact hdep), ?_⟩
    rw [hmk]
    refine hJ _ _ _ _ (fun j hjl => ?_) hj
    unfold upd
    by_cases hji : j = i
    · subst hji
      rw [if_pos rfl, valOf_put_eq hs ho (h1.1.trans hn) v hv]
    · rw [if_neg hji, valOf_put_ne hs ho (Ne.symm hji)]
  · unfold leftOver
    rw [Array.toList_replicate, List.count_replicate]
    simp
  · refine ⟨⟨rfl, rfl, fun _ _ => rfl⟩, ?_, ?_⟩
    · intro j hj
      simp only [Array.getD_eq_getD_getElem?, Array.getElem?_replicate] at hj
      split at hj <;> simp at hj
    have : (fun k => (Array.replicate ops.size false).getD k false) = fun _ => false := by
      funext k
      simp only [Array.getD_eq_getD_getElem?, Array.getElem?_replicate]
      split <;> rfl
    rw [this]
    exact h0
/-- an operation that is wanted, and ends by itself -/
theorem wpOp_val {i : Nat} {o : Oper} {K : Act → World → Prop} {a : Act} {w w' : World} {v : Value} (ho : ops[i]? = some o) (hw : Region.wanted o (yielded ops a.tmps) = true) (hr : (execOp a.eval o).run P w = .ok (.value v) w') (hk : K (a.put o.dst v) w') : wpOp P ops Q i K a w := by
  unfold wpOp
  simp only [ho, hw, if_true]
  refine .inl ?_
  unfold Oper.wp
  rw [hr]
  exact hk
theorem wpOp_skip {i : Nat} {o : Oper} {K : Act → World → Prop} {a : Act} {w w' : World} (ho : ops[i]? = some o) (hw : Region.wanted o (yielded ops a.tmps) = true) (hr : (execOp a.eval o).run P w = .ok .skip w') (hk : K (a.put o.dst undef) w') : wpOp P ops Q i K a w := by
  unfold wpOp
  simp only [ho, hw, if_true]
  refine .inl ?_
  unfold Oper.wp
  rw [hr]
  exact hk
/-- an operation that calls a function -/
theorem wpOp_call {i : Nat} {o : Oper} {K : Act → World → Prop} {a : Act} {w w' : World} {f : FuncId} {args : Array Value} (ho : ops[i]? = some o) (hw : Region.wanted o (yielded ops a.tmps) = true) (hr : (execOp a.eval o).run P w = .ok (.enter f args) w')
    (hc : Calls P f args w' fun e w'' => ∃ v, e = .returned v ∧ K (a.put o.dst v) w'') : wpOp P ops Q i K a w := by
  unfold wpOp
  simp only [ho, hw, if_true]
  refine .inl ?_
  unfold Oper.wp
  rw [hr]
  refine Calls.mono hc ?_
  rintro e w'' ⟨v, rfl, h⟩
  exact h
theorem wanted_none {o : Oper} {y : Nat → Option Bool} (h : o.guard = none) : Region.wanted o y = true := by simp [Region.wanted, h]
theorem wanted_some {o : Oper} {a : Act} {g : Nat} {b : Bool} (h : o.guard = some (g, b)) (hv : valOf ops g a = .bool b) : Region.wanted o (yielded ops a.tmps) = true := by
  have : yielded ops a.tmps g = some b := by
    unfold yielded
    unfold valOf at hv
    cases hd : slotOf ops g with
    | none => simp [hd] at hv; cases hv
    | some d =>
      rw [hd] at hv
      have hd' : (ops[g]?).bind (·.dst) = some d := hd
      rw [hd']
      simp only [Option.bind_some, Array.getD_eq_getD_getElem?] at hv ⊢
      cases hx : a.tmps[d]? with
      | none => rw [hx] at hv; simp at hv; cases hv
      | some x => rw [hx] at hv; simp at hv; subst hv; rfl
  simp [Region.wanted, h, this]
/-- what an operation's place holds -/
theorem eval_slot {a : Act} {j d : Nat} {v : Value} (hs : slotOf ops j = some d) (hv : valOf ops j a = v) : a.eval (.tmp d) = v := by
  unfold valOf at hv
  rw [hs] at hv
  exact hv
theorem eval_base {a0 a : Act} {d : Nat} (h : SameBut ops a0 a) (hd : (List.range ops.size).all (fun j => slotOf ops j != some d) = true) : a.eval (.tmp d) = a0.eval (.tmp d) := by
  refine h.2.2 d (fun j hj => ?_)
  have hl : j < ops.size := by
    unfold slotOf at hj
    cases ho : ops[j]? with
    | none => simp [ho] at hj
    | some o => exact (Array.getElem?_eq_some_iff.1 ho).1
  have := List.all_eq_true.1 hd j (by simpa using hl)
  simp [hj] at this
section
variable {J : (Nat → Bool) → (Nat → Value) → World → Prop} {L : Nat → Bool} {a : Act} {w : World} {i : Nat}
theorem Step.val (o : Oper) (ho : ops[i]? = some o) (hd : o.dst.isSome = true) (hw : Region.wanted o (yielded ops a.tmps) = true) (v : Value) (w' : World) (hr : ∀ ρ : Operand → Value, (∀ x, a.eval x = ρ x) → (execOp ρ o).run P w = .ok (.value v) w') (hj : J (mark L i) (upd (fun j => valOf ops j a) i v) w') : Step P ops Q J L a w i :=
  wpOp_val ho hw (hr _ fun _ => rfl) ⟨o, v, ho, fun h => by simp [h] at hd, rfl, hj⟩
theorem Step.skip (o : Oper) (ho : ops[i]? = some o) (hw : Region.wanted o (yielded ops a.tmps) = true) (w' : World) (hr : ∀ ρ : Operand → Value, (∀ x, a.eval x = ρ x) → (execOp ρ o).run P w = .ok .skip w') (hj : J (mark L i) (upd (fun j => valOf ops j a) i undef) w') : Step P ops Q J L a w i :=
  wpOp_skip ho hw (hr _ fun _ => rfl) ⟨o, undef, ho, fun _ => rfl, rfl, hj⟩
theorem Step.call (o : Oper) (ho : ops[i]? = some o) (hd : o.dst.isSome = true) (hw : Region.wanted o (yielded ops a.tmps) = true) (f : FuncId) (args : Array Value) (hr : ∀ ρ : Operand → Value, (∀ x, a.eval x = ρ x) → (execOp ρ o).run P w = .ok (.enter f args) w)
    (hc : Calls P f args w fun e w'' => ∃ v, e = .returned v ∧ J (mark L i) (upd (fun j => valOf ops j a) i v) w'') : Step P ops Q J L a w i :=
  wpOp_call ho hw (hr _ fun _ => rfl) (Calls.mono hc (by
    rintro e w'' ⟨v, rfl, hj⟩
    exact ⟨v, rfl, o, v, ho, fun h => by simp [h] at hd, rfl, hj⟩))
end
section
variable {Ev : Nat → World → World → Prop} {Phi : Nat → Value → World → Prop} {a : Act} {w : World} {i : Nat}
theorem StepP.val (o : Oper) (ho : ops[i]? = some o) (hd : o.dst.isSome = true) (hw : Region.wanted o (yielded ops a.tmps) = true) (v : Value) (w' : World) (hr : ∀ ρ : Operand → Value, (∀ x, a.eval x = ρ x) → (execOp ρ o).run P w = .ok (.value v) w') (he : Ev i w w') (hp : Phi i v w') : StepP P ops Q Ev Phi a w i :=
  wpOp_val ho hw (hr _ fun _ => rfl) ⟨o, v, ho, fun h => by simp [h] at hd, rfl, he, hp⟩
theorem StepP.call (o : Oper) (ho : ops[i]? = some o) (hd : o.dst.isSome = true) (hw : Region.wanted o (yielded ops a.tmps) = true) (f : FuncId) (args : Array Value) (hr : ∀ ρ : Operand → Value, (∀ x, a.eval x = ρ x) → (execOp ρ o).run P w = .ok (.enter f args) w)
    (hc : Calls P f args w fun e w'' => ∃ v, e = .returned v ∧ Ev i w w'' ∧ Phi i v w'') : StepP P ops Q Ev Phi a w i :=
  wpOp_call ho hw (hr _ fun _ => rfl) (Calls.mono hc (by
    rintro e w'' ⟨v, rfl, he, hp⟩
    exact ⟨v, rfl, o, v, ho, fun h => by simp [h] at hd, rfl, he, hp⟩))
end
/-- what an operation waits for has come up -/
theorem dep_of {L : Nat → Bool} {i : Nat} (hdep : ∀ o, ops[i]? = some o → ∀ e ∈ o.after, Region.binds .any e = true → L e.on = true) (j : Nat) (h : ((ops[i]?).map fun o => o.after.any fun e => Region.binds .any e && e.on == j).getD false = true) : L j = true := by
  cases ho : ops[i]? with
  | none => rw [ho] at h; simp at h
  | some o =>
    rw [ho] at h
    simp only [Option.map_some, Option.getD_some, Array.any_eq_true'] at h
    obtain ⟨e, he, h⟩ := h
    simp only [Bool.and_eq_true, beq_iff_eq] at h
    exact h.2 ▸ hdep o ho e he h.1
/-- the act with the first k operations' values put -/
def putAll (ops : Array Oper) (u : Nat → Value) : Nat → Act → Act
  | 0, a => a
  | k + 1, a => (putAll ops u k a).put (slotOf ops k) (u k)
theorem putAll_size (u : Nat → Value) (a : Act) : ∀ k, (putAll ops u k a).tmps.size = a.tmps.size ∧ (putAll ops u k a).defers = a.defers
  | 0 => ⟨rfl, rfl⟩
  | k + 1 => by
    have := putAll_size u a k
    unfold putAll
    cases slotOf ops k with
    | none => exact this
    | some d => exact ⟨by simpa [Act.put] using this.1, this.2⟩
theorem putAll_at (u : Nat → Value) (a : Act) (d : Tmp) : ∀ k, (putAll ops u k a).tmps[d]? = a.tmps[d]? ∨ ∃ j, j < k ∧ slotOf ops j = some d ∧ (d < a.tmps.size → (putAll ops u k a).tmps[d]? = some (u j))
  | 0 => .inl rfl
  | k + 1 => by
    have ih := putAll_at u a d k
    have hz := (putAll_size (ops := ops) u a k).1
    unfold putAll
    cases hs : slotOf ops k with
    | none =>
      rcases ih with ih | ⟨j, hj, h1, h2⟩
      · exact .inl ih
      · exact .inr ⟨j, by omega, h1, h2⟩
    | some d' =>
      by_cases hd : d' = d
      · subst hd
        exact .inr ⟨k, by omega, hs, fun hlt => by simp [Act.put, hz, hlt]⟩
      · rcases ih with ih | ⟨j, hj, h1, h2⟩
        · exact .inl (by simp only [Act.put]; rw [Array.getElem?_setIfInBounds_ne hd]; exact ih)
        · exact .inr ⟨j, by omega, h1, fun hlt => by simp only [Act.put]; rw [Array.getElem?_setIfInBounds_ne hd]; exact h2 hlt⟩
theorem putAll_keep (u : Nat → Value) (a : Act) (d : Tmp) (hd : ∀ j, slotOf ops j ≠ some d) (k : Nat) : (putAll ops u k a).tmps[d]? = a.tmps[d]? := by
  rcases putAll_at (ops := ops) u a d k with h | ⟨j, _, h, _⟩
  · exact h
  · exact absurd h (hd j)
theorem putAll_has (u : Nat → Value) (a : Act) (d : Tmp) (hd : d < a.tmps.size) : ∀ k j, j < k → slotOf ops j = some d → ∃ i, slotOf ops i = some d ∧ (putAll ops u k a).tmps[d]? = some (u i)
  | 0, j, h, _ => by omega
  | k + 1, j, h, hs => by
    have hz := (putAll_size (ops := ops) u a k).1
    unfold putAll
    cases hk : slotOf ops k with
    | none =>
      have : j ≠ k := fun e => by rw [e, hk] at hs; cases hs
      exact putAll_has u a d hd k j (by omega) hs
    | some d' =>
      by_cases hdd : d' = d
      · subst hdd
        exact ⟨k, hk, by simp [Act.put, hz, hd]⟩
      · have : j ≠ k := fun e => by rw [e, hk] at hs; cases hs; exact hdd rfl
        obtain ⟨i, h1, h2⟩ := putAll_has u a d hd k j (by omega) hs
        exact ⟨i, h1, by simp only [Act.put]; rw [Array.getElem?_setIfInBounds_ne hdd]; exact h2⟩
/-- all have come up: the act, written out -/
theorem act_puts {a0 a : Act} (h : SameBut ops a0 a) : ∃ u : Nat → Value, (∀ j, u j = valOf ops j a) ∧ a = putAll ops u ops.size a0 := by
  obtain ⟨h1, h2, h3⟩ := h
  refine ⟨fun j => valOf ops j a, fun _ => rfl, ?_⟩
  obtain ⟨hz, hd⟩ := putAll_size (ops := ops) (fun j => valOf ops j a) a0 ops.size
  generalize hp : putAll ops (fun j => valOf ops j a) ops.size a0 = p at hz hd
  have ht : a.tmps = p.tmps := by
    apply Array.ext
    · rw [hz, h1]
    · intro d hd1 hd2
      have hd3 : d < a0.tmps.size := by rw [← h1]; exact hd1
      have g1 : a.tmps[d]? = some a.tmps[d] := Array.getElem?_eq_getElem hd1
      have g2 : p.tmps[d]? = some p.tmps[d] := Array.getElem?_eq_getElem hd2
      refine Option.some.inj (g1.symm.trans (Eq.trans ?_ g2))
      by_cases hs : ∃ j, slotOf ops j = some d
      · obtain ⟨j, hj⟩ := hs
        have hjl : j < ops.size := by
          unfold slotOf at hj
          cases ho : ops[j]? with
          | none => simp [ho] at hj
          | some o => exact (Array.getElem?_eq_some_iff.1 ho).1
        obtain ⟨i, hi, hv⟩ := putAll_has (ops := ops) (fun j => valOf ops j a) a0 d hd3 ops.size j hjl hj
        rw [hp] at hv
        rw [hv]
        simp only [valOf, hi, Array.getD_eq_getD_getElem?, g1, Option.getD_some]
      · have hk := putAll_keep (ops := ops) (fun j => valOf ops j a) a0 d (fun j hj => hs ⟨j, hj⟩) ops.size
        rw [hp] at hk
        rw [hk]
        have := h3 d (fun j hj => hs ⟨j, hj⟩)
        have g3 : a0.tmps[d]? = some (a0.tmps[d]'hd3) := Array.getElem?_eq_getElem hd3
        simp only [Array.getD_eq_getD_getElem?, g1, g3, Option.getD_some] at this
        rw [g1, g3, this]
  obtain ⟨t, df⟩ := a
  obtain ⟨t', df'⟩ := p
  simp only [] at ht hd h2
  rw [ht, h2, ← hd]
theorem mark_at {L : Nat → Bool} {i j : Nat} (h : j ≠ i) : mark L i j = L j := if_neg h
theorem mark_self {L : Nat → Bool} {i : Nat} : mark L i i = true := if_pos rfl
theorem upd_at {u : Nat → Value} {i j : Nat} {v : Value} (h : j ≠ i) : upd u i v j = u j := if_neg h
theorem upd_self {u : Nat → Value} {i : Nat} {v : Value} : upd u i v i = v := if_pos rfl
end
end Go.Proofs.YtnjkongbccblaaaDoor
