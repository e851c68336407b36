/- A slice of numbers that came in, as laws are told of it. -/
import Derived.Test.YtnjkongbccblaaaDoorLib
namespace Go.Proofs.YtnjkongbccblaaaDoor
open Go.RowKit
/-- the slice (A, n, c) reads as the numbers l; each fits its kind -/
structure Arg (k : IntKind) (w : World) (A : Option Addr) (n c : Nat) (l : List Int) : Prop where
  len : l.length = n
  seen : Seen w w.heap.size A n (l.map (Value.int k))
  wf : ∀ x ∈ l, (Lit.int k x).wf = true
  le : n ≤ c
  cap : c ≤ maxLen
  nil : A = none → n = 0 ∧ c = 0
theorem Arg.none (k : IntKind) (w : World) : Arg k w .none 0 0 [] := ⟨rfl, Seen.nil_ _ _ _, by simp, Nat.le_refl _, Nat.zero_le _, fun _ => ⟨rfl, rfl⟩⟩
theorem Arg.some_ {k : IntKind} {w : World} {x : Addr} {n c : Nat} {zs : List Int} (hl : n ≤ c) (hm : c ≤ maxLen) (hz : zs.length = c) (hcell : ∀ i, i < zs.length → w.cell? (x.add i) = some (.int k (zs.getD i 0))) (hw : ∀ m ∈ zs, (Lit.int k m).wf = true) :
    Arg k w (some x) n c (zs.take n) := by
  refine ⟨by rw [List.length_take]; omega, ⟨by rw [List.length_map, List.length_take]; omega, fun j u hu => ?_⟩, fun m hm' => hw m (List.mem_of_mem_take hm'), hl, hm, fun h => by cases h⟩
  rw [List.getElem?_map, List.getElem?_take] at hu
  split at hu
  · obtain ⟨z, hz', rfl⟩ := Option.map_eq_some_iff.1 hu
    have hj := (List.getElem?_eq_some_iff.1 hz').1
    have hc := hcell j hj
    refine ⟨x, rfl, ?_, ?_⟩
    · have := World.block_lt_of_cell? w (x.add j) hc
      rwa [addBlock] at this
    · rw [hc, List.getD_eq_getElem?_getD, hz']
      rfl
  · cases hu
end Go.Proofs.YtnjkongbccblaaaDoor
