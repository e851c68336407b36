/- A map of truths that a call makes: what a look-up in it finds (no dump in it; written ahead of stage 4). -/
import Derived.WalkKit
import Derived.Maps.Own
import Derived.Maps.OwnOps
import Derived.Maps.OwnSet
import Derived.Maps.Views
set_option maxRecDepth 100000
namespace Go.Proofs.YtdcdinlppjlmfaaDoor
open Go Go.Maps Go.ChangeMaps Go.MapKept
open Go.Maps (Keyed)
section
variable {H : Type} {P : Program} {k : TypeId} {w : World} {b n : Nat} {D : DataW H}
/-- an element that reads as a truth's datum is that truth -/
theorem plainElem_bool_inv {e : TypeId} (he : P.underlying e = some .bool) {v : Value} {z : DataW H × List MemPlace} (h : plainElem P e v = some z) : ∃ x, v = .bool x ∧ z = (.lit (.bool x), []) := by
  unfold plainElem at h
  rw [he] at h
  cases v <;> simp at h
  subst h
  exact ⟨_, rfl, rfl⟩
/-- 'm[k]' at elements that are truths: the operation's run, and what comes in the specification's words -/
theorem lookup_bool {t e : TypeId} (h : w.ownsMap P k (plainElem P e) b n D) (K : Keyed P k) (ht : P.underlying t = some (.map k e)) (he : P.underlying e = some .bool) (hz : (zeroValue e).run P w = .ok (.bool false) w)
    {key : Value} {kl : Lit} (hkey : keyOf P k key = some kl) : ∃ c, (Instr.lookup t (.map (some b)) key false).run P w = .ok (.bool c) w ∧ D.atKey kl (.lit (.bool false)) = .lit (.bool c) := by
  obtain ⟨v, ps, hrun, hv⟩ := h.lookup K ht hz (plainElem_bool he false) hkey
  obtain ⟨c, rfl, hc⟩ := plainElem_bool_inv he hv
  simp only [Prod.mk.injEq] at hc
  exact ⟨c, hrun, hc.1⟩
/-- a map of truths, all of them true, as the list of its keys -/
def boolSet (acc : List Lit) : DataW H := setOf (.lit (.bool true)) acc
theorem boolSet_snoc (acc : List Lit) (x : Lit) : boolSet (H := H) (acc ++ [x]) = (boolSet acc).put x (.lit (.bool true)) := setOf_snoc _ _ _
theorem boolSet_at_none {acc : List Lit} {x : Lit} (hk : ∀ y ∈ acc, WideAt.IsKeyLit y) (h : acc.any (fun y => y.sameKey x) = false) (z : DataW H) : (boolSet acc).atKey x z = z :=
  atKey_of_not_has (by unfold boolSet; rw [has_setOf _ _ _ hk, h]) z
/-- .. so a look-up of what is not on the list finds false -/
theorem lookup_bool_none {t e : TypeId} {acc : List Lit} (h : w.ownsMap P k (plainElem P e) b n (boolSet (H := H) acc)) (K : Keyed P k) (ht : P.underlying t = some (.map k e)) (he : P.underlying e = some .bool) (hz : (zeroValue e).run P w = .ok (.bool false) w)
    {key : Value} {kl : Lit} (hkey : keyOf P k key = some kl) (hk : ∀ y ∈ acc, WideAt.IsKeyLit y) (hno : acc.any (fun y => y.sameKey kl) = false) : (Instr.lookup t (.map (some b)) key false).run P w = .ok (.bool false) w := by
  obtain ⟨c, hrun, hat⟩ := lookup_bool h K ht he hz hkey
  rw [boolSet_at_none hk hno] at hat
  simp only [DataW.lit.injEq, Lit.bool.injEq] at hat
  subst hat
  exact hrun
/-- keys that are all different: as many entries as there are keys -/
theorem foldl_addKey : ∀ (xs acc : List Lit), (∀ x ∈ xs, acc.any (fun y => y.sameKey x) = false) → xs.Pairwise (fun x y => x.sameKey y = false) → xs.foldl addKey acc = acc ++ xs
  | [], acc, _, _ => by simp
  | x :: xs, acc, h, hp => by
    have hx := h x (by simp)
    have e : addKey acc x = acc ++ [x] := by unfold addKey; rw [hx]; rfl
    rw [List.foldl_cons, e, foldl_addKey xs (acc ++ [x]) ?_ (List.pairwise_cons.1 hp).2, List.append_assoc]
    · rfl
    · intro y hy
      rw [List.any_append, h y (by simp [hy])]
      simp [(List.pairwise_cons.1 hp).1 y hy]
theorem size_boolSet {xs : List Lit} (hk : ∀ y ∈ xs, WideAt.IsKeyLit y) (hp : xs.Pairwise (fun x y => x.sameKey y = false)) : Maps.size (boolSet (H := H) xs) = xs.length := by
  unfold boolSet
  rw [size_setOf _ _ hk, foldl_addKey xs [] (by simp) hp]
  simp
/-- 'm[k]' AT THE OPERATION, where it is not guarded -/
theorem wpList_lookup_own_bool {ops : Array Oper} {rest : List Oper} {o : Oper} {a : Act} {Q : Exit → Act → World → Prop}
    (hg : o.guard = none) (m x : Operand) (t : TypeId) (hop : o.op = Op.lookup t m x false)
    (e : TypeId) (K : Keyed P k) (ht : P.underlying t = some (.map k e)) (he : P.underlying e = some .bool) (hz : (zeroValue e).run P w = .ok (.bool false) w)
    (hm : a.eval m = .map (some b)) (hown : w.ownsMap P k (plainElem P e) b n D) (key : Value) (kl : Lit) (hx : a.eval x = key) (hkey : keyOf P k key = some kl)
    (hK : ∀ c : Bool, D.atKey kl (.lit (.bool false)) = .lit (.bool c) → wpList P ops Q rest (a.put o.dst (.bool c)) w) :
    wpList P ops Q (o :: rest) a w := by
  refine wpList_plain hg fun K' hK' => ?_
  obtain ⟨c, hrun, hat⟩ := lookup_bool hown K ht he hz hkey
  unfold Oper.wp
  simp [execOp, hop, hm, hx, hrun, Result.andThen]
  exact hK' _ _ (hK c hat)
end
end Go.Proofs.YtdcdinlppjlmfaaDoor
