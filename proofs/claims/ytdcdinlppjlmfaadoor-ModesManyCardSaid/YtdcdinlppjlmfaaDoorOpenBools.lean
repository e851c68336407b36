/- An argument that is a slice of truths. -/
import Derived.Test.YtdcdinlppjlmfaaDoorLib
import Derived.Deep.Grids
namespace Go.Proofs.YtdcdinlppjlmfaaDoor
open Go Go.RowKit
set_option linter.unusedVariables false
structure ArgB (w : World) (A : Option Addr) (n c : Nat) (l : List Bool) : Prop where
  len : l.length = n
  seen : Seen w w.heap.size A n (l.map Value.bool)
  le : n ≤ c
  cap : c ≤ maxLen
theorem ArgB.none (w : World) : ArgB w .none 0 0 [] := ⟨rfl, Seen.nil_ _ _ _, Nat.le_refl _, Nat.zero_le _⟩
theorem ArgB.some_ {w : World} {x : Addr} {n c : Nat} {B : Nat → Bool} (hl : n ≤ c) (hm : c ≤ maxLen) (hcell : ∀ i, i < c → w.cell? (x.add i) = some (.bool (B i))) : ArgB w (some x) n c ((List.range n).map B) := by
  refine ⟨by simp, ⟨by simp, fun j u hu => ?_⟩, hl, hm⟩
  rw [List.getElem?_map, List.getElem?_map] at hu
  rcases Nat.lt_or_ge j n with hj | hj
  · rw [List.getElem?_range hj] at hu
    simp only [Option.map_some, Option.some.injEq] at hu
    subst hu
    have hc := hcell j (by omega)
    refine ⟨x, rfl, ?_, hc⟩
    have := World.block_lt_of_cell? w (x.add j) hc
    rwa [addBlock] at this
  · rw [List.getElem?_eq_none (by simpa using hj)] at hu
    simp at hu
end Go.Proofs.YtdcdinlppjlmfaaDoor
