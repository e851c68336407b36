/- What a region that draws its order, and holds calls that make memory, may have made of a world: all that was there stays. -/
import Derived.Test.YtcbmjdacdjcggaaDoorLib
namespace Go.Proofs.YtcbmjdacdjcggaaDoor
open Go.RowKit
theorem bcell {W w1 : World} (hb : Below W.heap.size W w1) : (∀ b o, b < W.heap.size → w1.cell? ⟨b, o, none⟩ = W.cell? ⟨b, o, none⟩) ∧ (∀ b o, b < W.heap.size → w1.frozen? ⟨b, o, none⟩ = W.frozen? ⟨b, o, none⟩) :=
  ⟨fun b o h => hb.cell (p := ⟨b, o, none⟩) h, fun b o h => hb.frozen (p := ⟨b, o, none⟩) h⟩
/-- what a region has made of world w0: all that was there stays -/
def InReg (w0 w : World) : Prop := Below w0.heap.size w0 w
theorem InReg.cell {w0 w : World} (h : InReg w0 w) {p : Addr} (hp : p.block < w0.heap.size) : w.cell? p = w0.cell? p := Below.cell h hp
theorem InReg.size {w0 w : World} (h : InReg w0 w) : w0.heap.size ≤ w.heap.size := Below.size h
theorem InReg.alloc {w0 w : World} (h : InReg w0 w) (o : Obj) : InReg w0 (w.alloc o) := Below.alloc h h.size o
theorem InReg.set {w0 w : World} (h : InReg w0 w) {p : Addr} (hp : w0.heap.size ≤ p.block) (u : Value) : InReg w0 (w.setCell p u) := Below.setCell h hp u
theorem InReg.box {w0 w : World} {g : Nat} {t : TypeId} {cs : Array Value} (h : InReg w0 w) (hb : Box w0 g t cs) : Box w g t cs := Box.below hb h hb.lt
theorem InReg.refl (w : World) : InReg w w := Below.refl _ _
theorem InReg.drew {w0 w : World} (h : InReg w0 w) : InReg w0 w.drew := Below.drew h
theorem InReg.call {w0 w w' : World} (h : InReg w0 w) (bb : Below w.heap.size w w') : InReg w0 w' := Below.trans h (bb.mono h.size)
end Go.Proofs.YtcbmjdacdjcggaaDoor
