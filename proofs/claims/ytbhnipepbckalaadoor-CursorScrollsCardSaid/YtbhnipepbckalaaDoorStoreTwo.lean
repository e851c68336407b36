/- A region that draws and stores into two old boxes that differ: what regen's two 'fours' want. -/
import Derived.Test.YtbhnipepbckalaaDoorKept
set_option maxRecDepth 100000
namespace Go.Proofs.YtbhnipepbckalaaDoor
open Go.RowKit
set_option linter.unusedVariables false
theorem gonlyb {sh : GShape} {k l : Nat} (h : (List.range sh.length).all (fun j => gskd sh j != 4 || (j == k || j == l)) = true) : ∀ j, gskd sh j = 4 → j = k ∨ j = l := fun j hj => by
  rcases Nat.lt_or_ge j sh.length with hl | hl
  · have := List.all_eq_true.1 h j (by simpa using hl)
    simpa [hj] using this
  · exfalso
    unfold gskd at hj
    rw [List.getD_eq_getElem?_getD, List.getElem?_eq_none hl] at hj
    cases hj
theorem gonly4b {p : Nat → Prop} {sh : GShape} {k l : Nat} (h : (List.range sh.length).all (fun j => gskd sh j != 4 || (j == k || j == l)) = true) (hp : p k) (hq : p l) : ∀ j, gskd sh j = 4 → p j := fun j hj => by
  rcases gonlyb h j hj with e | e
  · rw [e]
    exact hp
  · rw [e]
    exact hq
theorem gonly44b {p : Nat → Nat → Prop} {sh : GShape} {k l : Nat} (h : (List.range sh.length).all (fun j => gskd sh j != 4 || (j == k || j == l)) = true) (hp : p k l) (hq : p l k) : ∀ i j, gskd sh i = 4 → gskd sh j = 4 → i ≠ j → p i j := fun i j hi hj hne => by
  rcases gonlyb h i hi with e | e <;> rcases gonlyb h j hj with f | f
  · exact absurd (e.trans f.symm) hne
  · rw [e, f]
    exact hp
  · rw [e, f]
    exact hq
  · exact absurd (e.trans f.symm) hne
end Go.Proofs.YtbhnipepbckalaaDoor
