/- A drawn region whose last operations wait for all ahead, some by way of another one. Names no function of a program. -/
import Derived.Test.YtdcdinlppjlmfaaDoorKept
set_option maxRecDepth 100000
namespace Go.Proofs.YtdcdinlppjlmfaaDoor
open Go Go.RowKit
set_option linter.unusedVariables false
section
variable {P : Program} {ops : Array Oper} {Q : Exit → Act → World → Prop}
/-- i waits for j, by way of no more than so many others -/
def gdepT (ops : Array Oper) : Nat → Nat → Nat → Bool
  | 0, i, j => gdepIn ops i j
  | k + 1, i, j => gdepIn ops i j || (List.range ops.size).any fun m => gdepIn ops i m && gdepT ops k m j
/-- from n0 on each waits for all ahead of it: for those from n0 on by itself, for the others by itself or by way of others -/
def tailOk2 (ops : Array Oper) (n0 : Nat) : Bool := decide (n0 < ops.size) && (List.range ops.size).all fun i => decide (i < n0) || (List.range i).all fun j => gdepIn ops i j || (decide (j < n0) && gdepT ops 5 i j)
theorem tail_two {n0 : Nat} (h : tailOk2 ops n0 = true) {i j : Nat} (hi : i < ops.size) (h0 : n0 ≤ i) (hj : j < i) : gdepIn ops i j = true ∨ (j < n0 ∧ gdepT ops 5 i j = true) := by
  unfold tailOk2 at h
  simp only [Bool.and_eq_true, decide_eq_true_eq] at h
  have := List.all_eq_true.1 h.2 i (by simpa using hi)
  simp only [Bool.or_eq_true, decide_eq_true_eq] at this
  rcases this with this | this
  · omega
  · have h3 := List.all_eq_true.1 this j (by simpa using hj)
    simp only [Bool.or_eq_true, Bool.and_eq_true, decide_eq_true_eq] at h3
    exact h3
theorem tail_dep2 {n0 : Nat} (h : tailOk2 ops n0 = true) {i j : Nat} (hi : i < ops.size) (h1 : n0 ≤ j) (h0 : n0 ≤ i) (hj : j < i) : gdepIn ops i j = true := by
  rcases tail_two h hi h0 hj with h | ⟨h, _⟩
  · exact h
  · omega
theorem gdep_edge {L : Nat → Bool} {i j : Nat} {o : Oper} (ho : ops[i]? = some o) (hall : ∀ e ∈ o.after, Region.binds .any e = true → L e.on = true) (hd : gdepIn ops i j = true) : L j = true := by
  unfold gdepIn at hd
  rw [ho] at hd
  simp only [Option.map_some, Option.getD_some, Array.any_eq_true'] at hd
  obtain ⟨e, he, hb⟩ := hd
  simp only [Bool.and_eq_true, beq_iff_eq] at hb
  rw [← hb.2]
  exact hall e he hb.1
theorem gdepT_came {L : Nat → Bool} (hc : Closed ops L) : ∀ (k : Nat) {i j : Nat} {o : Oper}, ops[i]? = some o → (∀ e ∈ o.after, Region.binds .any e = true → L e.on = true) → gdepT ops k i j = true → L j = true
  | 0, _, _, _, ho, hall, hd => gdep_edge ho hall hd
  | k + 1, i, j, o, ho, hall, hd => by
    unfold gdepT at hd
    rw [Bool.or_eq_true] at hd
    rcases hd with hd | hd
    · exact gdep_edge ho hall hd
    · obtain ⟨m, hm, hd⟩ := List.any_eq_true.1 hd
      rw [Bool.and_eq_true] at hd
      have hms : m < ops.size := by simpa using hm
      exact gdepT_came hc k (Array.getElem?_eq_getElem hms) (hc m (gdep_edge ho hall hd.1) _ (Array.getElem?_eq_getElem hms)) hd.2
theorem tail_came2 {listed : Array Bool} {n0 i j : Nat} (ht : tailOk2 ops n0 = true) (hc : Closed ops (fun k => listed.getD k false)) (hdep : ∃ o, ops[i]? = some o ∧ ∀ e ∈ o.after, Region.binds .any e = true → listed.getD e.on false = true) (hi : i < ops.size) (h0 : n0 ≤ i) (hj : j < i) : listed.getD j false = true := by
  rcases tail_two ht hi h0 hj with h | ⟨_, h⟩
  · exact dep_came hdep h
  · obtain ⟨o, ho, hall⟩ := hdep
    exact gdepT_came (L := fun k => listed.getD k false) hc 5 ho hall h
theorem wp_region_tail2 {id n n0 : Nat} {a0 : Act} {w0 : World} (J : (Nat → Bool) → (Nat → Value) → World → Prop)
    (hm : P.follows .mixedOrders = true) (hd : depsOk ops = true) (hs : slotsOk ops n = true) (hn : a0.tmps.size = n) (ht : tailOk2 ops n0 = true)
    (hJ : ∀ L u u' w, (∀ j, j < ops.size → u j = u' j) → J L u w → J L u' w)
    (hstep : ∀ i, i < n0 → ∀ L a w, L i = false → SameBut ops a0 a → a.tmps.size = n → J L (fun j => valOf ops j a) w → (∀ o, ops[i]? = some o → ∀ e ∈ o.after, Region.binds .any e = true → L e.on = true) → Closed ops L →
      Step P ops Q J L a w i)
    (hmid : ∀ L a w, SameBut ops a0 a → a.tmps.size = n → J L (fun j => valOf ops j a) w → (∀ j, j < n0 → L j = true) → wpList P ops Q (ops.toList.drop n0) a w)
    (h0 : J (fun _ => false) (fun j => valOf ops j a0) { w0 with drawn := w0.drawn + 1 }) : (Code.region id ops true).wp P Q a0 w0 := by
  have hn0 : n0 < ops.size := by
    unfold tailOk2 at ht
    simp only [Bool.and_eq_true, decide_eq_true_eq] at ht
    exact ht.1
  have hset : ∀ (listed : Array Bool) i, listed.size = ops.size → i < ops.size → (fun k => (listed.setIfInBounds i true).getD k false) = mark (fun k => listed.getD k false) i := by
    intro listed i hsz hil
    funext k
    unfold mark
    by_cases hk : k = i
    · subst hk
      have : k < listed.size := by omega
      simp [Array.getD_eq_getD_getElem?, this]
    · simp [Array.getD_eq_getD_getElem?, hk, Array.getElem?_setIfInBounds_ne (Ne.symm hk)]
  have hnext : ∀ k a w, k < ops.size → wpList P ops Q (ops.toList.drop k) a w → wpOp P ops Q k (wpList P ops Q (ops.toList.drop (k + 1))) a w := by
    intro k a w hk h
    have ho : ops[k]? = some ops[k] := Array.getElem?_eq_getElem hk
    have hl : ops.toList.drop k = ops[k] :: ops.toList.drop (k + 1) := by
      rw [List.drop_eq_getElem_cons (by simpa using hk)]
      simp
    rw [hl] at h
    unfold wpOp
    simp only [ho]
    exact h
  refine wp_region_any hm (wpAny_inv (J := fun listed a w => ((∀ j, n0 ≤ j → listed.getD j false = false) ∧ SameBut ops a0 a ∧ Closed ops (fun k => listed.getD k false) ∧ J (fun k => listed.getD k false) (fun j => valOf ops j a) w) ∨ (∃ k, n0 < k ∧ k ≤ ops.size ∧ (∀ j, j < ops.size → listed.getD j false = decide (j < k)) ∧ wpList P ops Q (ops.toList.drop k) a w)) ?_ ?_ _ _ _ _ (by simp) ?_ ?_)
  · intro listed a w hsz hr h
    have hall := ready_nil hd hsz hr
    rcases h with ⟨h1, _⟩ | ⟨k, h1, h2, h3, h4⟩
    · have := h1 n0 (Nat.le_refl _)
      rw [hall n0 hn0] at this
      cases this
    · have hk : k = ops.size := by
        rcases Nat.lt_or_ge k ops.size with h | h
        · have := h3 k h
          rw [hall k h, decide_eq_false (Nat.lt_irrefl k)] at this
          cases this
        · omega
      subst hk
      rw [List.drop_of_length_le (by simp)] at h4
      exact h4
  · intro listed a w i hsz hi h
    obtain ⟨hli, o, ho, hdep⟩ := ready_out hi
    have hil : i < ops.size := (Array.getElem?_eq_some_iff.1 ho).1
    have hL : listed.getD i false = false := by rw [Array.getD_eq_getD_getElem?, hli]; rfl
    rcases h with ⟨hT, h1, hc, h2⟩ | ⟨k, k1, k2, k3, k4⟩
    · rcases Nat.lt_or_ge i n0 with hin | hin
      · refine wpOp_mono (fun a' w' h' => .inl ?_) (hstep i hin (fun k => listed.getD k false) a w hL h1 (h1.1.trans hn) h2 (fun o' ho' => by rw [ho] at ho'; cases ho'; exact hdep) hc)
        obtain ⟨o', v, ho', hv, rfl, hj⟩ := h'
        rw [ho] at ho'
        cases ho'
        have hmk := hset listed i hsz hil
        refine ⟨fun j hj => ?_, h1.put ho v, by rw [hmk]; exact hc.mark (fun o' ho' => by rw [ho] at ho'; cases ho'; exact hdep), ?_⟩
        · have e1 : (listed.setIfInBounds i true).getD j false = mark (fun k => listed.getD k false) i j := congrFun hmk j
          rw [e1]
          unfold mark
          rw [if_neg (by omega)]
          exact hT j hj
        rw [hmk]
        refine hJ _ _ _ _ (fun j hjl => ?_) hj
        unfold upd
        by_cases hji : j = i
        · subst hji
          rw [if_pos rfl, valOf_put_eq hs ho (h1.1.trans hn) v hv]
        · rw [if_neg hji, valOf_put_ne hs ho (Ne.symm hji)]
      · have hall : ∀ j, j < i → listed.getD j false = true := fun j hj => tail_came2 ht hc ⟨o, ho, hdep⟩ hil hin hj
        have hi0 : i = n0 := by
          rcases Nat.lt_or_ge n0 i with h | h
          · have := hT n0 (Nat.le_refl _)
            rw [hall n0 h] at this
            cases this
          · omega
        subst hi0
        have hml := hmid (fun k => listed.getD k false) a w h1 (h1.1.trans hn) h2 hall
        refine wpOp_mono (fun a' w' h' => .inr ⟨i + 1, by omega, by omega, fun j hj => ?_, h'⟩) (hnext i a w hil hml)
        have e1 : (listed.setIfInBounds i true).getD j false = mark (fun k => listed.getD k false) i j := congrFun (hset listed i hsz hil) j
        rw [e1]
        unfold mark
        by_cases e : j = i
        · rw [if_pos e, decide_eq_true (by omega)]
        · rw [if_neg e]
          show listed.getD j false = _
          rcases Nat.lt_or_ge j i with h | h
          · rw [hall j h, decide_eq_true (by omega)]
          · rw [hT j (by omega), decide_eq_false (by omega)]
    · have hik : i = k := by
        have hki : k ≤ i := by
          rcases Nat.lt_or_ge i k with h | h
          · have := k3 i hil
            rw [hL, decide_eq_true h] at this
            cases this
          · exact h
        rcases Nat.lt_or_ge k i with h | h
        · have h1 := dep_came ⟨o, ho, hdep⟩ (tail_dep2 ht hil (show n0 ≤ k by omega) (by omega) h)
          have h2 := k3 k (by omega)
          rw [h1, decide_eq_false (Nat.lt_irrefl k)] at h2
          cases h2
        · omega
      subst hik
      refine wpOp_mono (fun a' w' h' => .inr ⟨i + 1, by omega, by omega, fun j hj => ?_, h'⟩) (hnext i a w hil k4)
      have e1 : (listed.setIfInBounds i true).getD j false = mark (fun k => listed.getD k false) i j := congrFun (hset listed i hsz hil) j
      rw [e1]
      unfold mark
      by_cases e : j = i
      · rw [if_pos e, decide_eq_true (by omega)]
      · rw [if_neg e]
        show listed.getD j false = _
        rw [k3 j hj]
        rcases Nat.lt_or_ge j i with h | h
        · rw [decide_eq_true h, decide_eq_true (by omega)]
        · rw [decide_eq_false (by omega), decide_eq_false (by omega)]
  · unfold leftOver
    rw [Array.toList_replicate, List.count_replicate]
    simp
  · have hnone : (fun k => (Array.replicate ops.size false).getD k false) = fun _ => false := by
      funext k
      simp only [Array.getD_eq_getD_getElem?, Array.getElem?_replicate]
      split <;> rfl
    refine .inl ⟨fun j _ => congrFun hnone j, ⟨rfl, rfl, fun _ _ => rfl⟩, ?_, ?_⟩
    · intro j hj
      have e1 : (Array.replicate ops.size false).getD j false = false := congrFun hnone j
      have e2 : (Array.replicate ops.size false).getD j false = true := hj
      rw [e1] at e2
      cases e2
    rw [hnone]
    exact h0
end
/-- as wp_region_gj, but for the tail -/
theorem wp_region_gt2 {P : Program} {Q : Exit → Act → World → Prop} {ops : Array Oper} {id n : Nat} {a0 : Act} {w0 : World} (n0 : Nat) (S : List (Option Nat)) (olds : Nat → Array Value) (sh : GShape) (vals : Nat → Value) (sp : Spec) (gs : Nat → Nat)
    (hm : P.follows .mixedOrders = true) (hd : depsOk ops = true) (hs : slotsOk ops n = true) (hn : a0.tmps.size = n) (hsh : gokShape sh ops = true) (ht : tailOk2 ops n0 = true)
    (hin : ∀ j, gskd sh j = 4 → some (gs j) ∈ S ∧ (olds j).size = gsz sh j ∧ Box w0 (gs j) (gsty sh j) (olds j)) (hne : ∀ i j, gskd sh i = 4 → gskd sh j = 4 → i ≠ j → gs i ≠ gs j) (hsp : AllG (tys sh) sp)
    (hstep : GS ops S w0 olds sh (prOf sp) gs → ∀ i, i < n0 → ∀ L a w, L i = false → SameBut ops a0 a → a.tmps.size = n → GJ ops S w0 olds sh vals (prOf sp) gs L (fun j => valOf ops j a) w → (∀ o, ops[i]? = some o → ∀ e ∈ o.after, Region.binds .any e = true → L e.on = true) → Closed ops L →
      Step P ops Q (GJ ops S w0 olds sh vals (prOf sp) gs) L a w i)
    (hdone : ∀ (L : Nat → Bool) (u : Nat → Value) w, GJ ops S w0 olds sh vals (prOf sp) gs L u w → (∀ j, j < n0 → L j = true) → wpList P ops Q (ops.toList.drop n0) (putAll ops u ops.size a0) w) : (Code.region id ops true).wp P Q a0 w0 := by
  have hGS : GS ops S w0 olds sh (prOf sp) gs := by
    refine ⟨hsh, fun j hk => ⟨(hin j hk).1, (hin j hk).2.2.lt, (hin j hk).2.1⟩, fun j _ v w w' h b => ?_, fun j _ v w w' g T cs h hb hT hk => ?_, hne⟩
    · unfold prOf at h ⊢
      cases hsj : sp.getD j none with
      | none => trivial
      | some p => rw [hsj] at h; exact (hsp j p hsj).1 v w w' h b
    · unfold prOf at h ⊢
      cases hsj : sp.getD j none with
      | none => trivial
      | some p => rw [hsj] at h; exact (hsp j p hsj).2 v w w' g T cs h hb (stored_tys hT) hk
  refine wp_region_tail2 (GJ ops S w0 olds sh vals (prOf sp) gs) hm hd hs hn ht (fun L u u' w h hj => hj.same hGS h) (hstep hGS) ?_ (GJ.start (fun j hk => (hin j hk).2.2) _)
  intro L a w hsame _ hJ hall
  obtain ⟨u, hu, ha⟩ := act_puts hsame
  rw [ha]
  exact hdone L u w (hJ.same hGS (fun j _ => (hu j).symm)) hall
theorem put_ne {a : Act} {d k : Nat} {v : Value} (h : d ≠ k) : (a.put (some d) v).eval (.tmp k) = a.eval (.tmp k) := Act.eval_put (fun x hx => by
  cases hx
  intro e
  cases e
  exact h rfl)
theorem put_no {a : Act} {v : Value} {x : Operand} : (a.put none v).eval x = a.eval x := rfl
theorem put_at {a : Act} {d : Nat} {v : Value} (h : d < a.tmps.size) : (a.put (some d) v).eval (.tmp d) = v := by
  show (a.tmps.setIfInBounds d v).getD d undef = v
  simp [Array.getD_eq_getD_getElem?, h]
theorem put_size {a : Act} {d : Option Nat} {v : Value} : (a.put d v).tmps.size = a.tmps.size := by
  cases d with
  | none => rfl
  | some d => show (a.tmps.setIfInBounds d v).size = _; simp
end Go.Proofs.YtdcdinlppjlmfaaDoor
