/- A region that draws its order, makes memory, and calls functions that leave what was there: each operation's value known, or told by a predicate that stays. Names no function of a program. -/
import Derived.Test.YtboegggoeemfdaaDoorAnyOrder
namespace Go.Proofs.YtboegggoeemfdaaDoor
open Go.RowKit
set_option linter.unusedVariables false
/-- what operation j's value is -/
def KPhi (vals : List Value) (spec : List (Option (Value → World → Prop))) (j : Nat) (v : Value) (w : World) : Prop :=
  match spec.getD j none with
  | some p => p v w
  | none => v = vals.getD j undef
def KEv (_ : Nat) (w w' : World) : Prop := Below w.heap.size w w'
/-- a predicate that stays -/
def Stays (p : Value → World → Prop) : Prop := ∀ v w w', p v w → Below w.heap.size w w' → p v w'
def AllStay (spec : List (Option (Value → World → Prop))) : Prop := ∀ j p, spec.getD j none = some p → Stays p
theorem AllStay.nil : AllStay [] := fun j p h => by simp at h
theorem AllStay.none_ {l : List (Option (Value → World → Prop))} (h : AllStay l) : AllStay (none :: l)
  | 0, p, e => by simp at e
  | j + 1, p, e => h j p (by simpa using e)
theorem AllStay.some_ {l : List (Option (Value → World → Prop))} {q : Value → World → Prop} (hq : Stays q) (h : AllStay l) : AllStay (some q :: l)
  | 0, p, e => by
    have : q = p := by simpa using e
    exact this ▸ hq
  | j + 1, p, e => h j p (by simpa using e)
theorem wp_region_known {P : Program} {ops : Array Oper} {Q : Exit → Act → World → Prop} {id n : Nat} {a0 : Act} {w0 : World} (vals : List Value) (spec : List (Option (Value → World → Prop)))
    (hm : P.follows .mixedOrders = true) (hd : depsOk ops = true) (hs : slotsOk ops n = true) (hn : a0.tmps.size = n) (hst : AllStay spec)
    (hstep : ∀ i, i < ops.size → ∀ (L : Nat → Bool) (a : Act) (w : World), SameBut ops a0 a → Below w0.heap.size w0 w → (∀ o, ops[i]? = some o → ∀ e ∈ o.after, Region.binds .any e = true → L e.on = true) → (∀ j, L j = true → KPhi vals spec j (valOf ops j a) w) →
      StepP P ops Q KEv (KPhi vals spec) a w i)
    (hdone : ∀ (u : Nat → Value) w, Below w0.heap.size w0 w → (∀ j, j < ops.size → KPhi vals spec j (u j) w) → Q .normal (putAll ops u ops.size a0) w) : (Code.region id ops true).wp P Q a0 w0 := by
  refine wp_region_phi (n := n) KEv (KPhi vals spec) (fun _ w => Below w0.heap.size w0 w) hm hd hs hn ?_ (fun L i w w' _ hb he => hb.trans (he.mono hb.size)) ?_ ?_ ⟨rfl, rfl, rfl, Nat.le_refl _, fun _ _ => rfl⟩
  · intro i j v w w' _ _ _ hp he
    unfold KPhi at hp ⊢
    cases hsp : spec.getD j none with
    | none => rw [hsp] at hp; exact hp
    | some p => rw [hsp] at hp; exact hst j p hsp v w w' hp he
  · intro i hi L a w _ hsame _ hb hdep _ hphi
    exact hstep i hi L a w hsame hb hdep hphi
  · intro L a w hsame _ hb hall hphi
    obtain ⟨u, hu, ha⟩ := act_puts hsame
    rw [ha]
    exact hdone u w hb fun j hj => by rw [hu j]; exact hphi j hj
end Go.Proofs.YtboegggoeemfdaaDoor
