/- What UtfTells leans on: the document's Decode as laws use it. -/
import Derived.Test.YtcbfibpomdhliaaRuns
import Derived.Test.YtcbfibpomdhliaaUtfLemmas
import Derived.Test.YtcbfibpomdhliaaArgs
import Derived.Test.YtcbfibpomdhliaaRoomy
import Derived.Test.YtcbfibpomdhliaaRefEncode
import Derived.Test.YtcbfibpomdhliaaRefDecode
import Derived.OpenShut
namespace Go.Proofs.Ytcbfibpomdhliaa
open Go.RowKit
set_option linter.unusedVariables false
def RefGives (w : World) (p : Int) (ys : List Int) (e : Ending) (w' : World) : Prop :=
  ∃ (A : Option Addr) (c : Nat) (left : Int), e = .returned (.tuple #[.slice A ys.length c, .int .i64 left]) ∧ (0 < left ↔ 0 < p) ∧ Seen w' w'.heap.size A ys.length (i32s ys) ∧ Below w.heap.size w w'
theorem refDecode_is (A : Option Addr) (n c : Nat) (l : List Int) (w : World) (p q r : Int) (ys : List Int) (hd : U.dec U.z l = (⟨p, q, r⟩, ys)) (hA : Seen w w.heap.size A n (u8s l)) (hl : ∀ x ∈ l, 0 ≤ x ∧ x < 256) (hn : n ≤ 274877906944) :
    Calls Try.prog 14 #[.slice A n c] w (RefGives w p ys) := by
  refine (refDecode_any A n c l w hA hl hn).mono ?_
  rintro e w' ⟨v, left, he, h1, h2, h3⟩
  rw [hd] at h1 h2
  obtain ⟨A', c', rfl, _, _, _⟩ := own_form h2
  exact ⟨A', c', left, he, h1, Seen.of_own h2, h3⟩
end Go.Proofs.Ytcbfibpomdhliaa
