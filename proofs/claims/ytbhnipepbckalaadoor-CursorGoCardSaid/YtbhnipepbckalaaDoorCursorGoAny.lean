/- CursorGo told of any arguments. -/
import Derived.Test.YtbhnipepbckalaaDoorArgScreen
import Derived.Test.YtbhnipepbckalaaDoorCursorGo
set_option maxRecDepth 100000
namespace Go.Proofs.YtbhnipepbckalaaDoor
open Go.RowKit
set_option linter.unusedVariables false
theorem cursorGo_any (rw cl : Int) (Ap : Option Addr) (np cp : Nat) (lp : List Int) (At : Option Addr) (nt ct : Nat) (lt : List Int) (a b c d e p q r u r1 c1 : Int) (w : World)
    (hr : (Lit.int .i64 rw).wf = true) (hc : (Lit.int .i64 cl).wf = true) (hp : Arg .i64 w Ap np cp lp) (ht : Arg .i64 w At nt ct lt) (ha : (Lit.int .i64 a).wf = true) (hb : (Lit.int .i64 b).wf = true) (hc' : (Lit.int .i64 c).wf = true) (hd : (Lit.int .i64 d).wf = true) (he : (Lit.int .i64 e).wf = true)
    (hp0 : (Lit.int .i64 p).wf = true) (hp1 : (Lit.int .i64 q).wf = true) (hp2 : (Lit.int .i64 r).wf = true) (hu : (Lit.int .u64 u).wf = true) (hr1 : (Lit.int .i64 r1).wf = true) (hc1 : (Lit.int .i64 c1).wf = true) (hsp : Spans w) :
    Calls Tryd.prog 7 #[.agg #[.int .i64 rw, .int .i64 cl, .slice Ap np cp, .slice At nt ct, .int .i64 a, .int .i64 b, .int .i64 c, .int .i64 d, .int .i64 e, .int .i64 p, .int .i64 q, .int .i64 r, .int .u64 u], .int .i64 r1, .int .i64 c1] w fun e w' => e = .returned (.bool true) ∧ Below w.heap.size w w' := by
  obtain ⟨S, hS, hR5, hK9, KS⟩ := arg_screen rw cl Ap np cp lp At nt ct lt a b c d e p q r u w hr hc hp ht ha hb hc' hd he hp0 hp1 hp2 hu
  obtain ⟨Y, hr1_⟩ : ∃ Y : Nat, 0 + r1 % (99 - 0 + 1) = (Y : Int) := ⟨(r1 % 100).toNat, by omega⟩
  have br1 := bounds_i64 hr1
  obtain ⟨X, hc1_⟩ : ∃ X : Nat, 0 + c1 % (99 - 0 + 1) = (X : Int) := ⟨(c1 % 100).toNat, by omega⟩
  have bc1 := bounds_i64 hc1
  exact cursorGo_t _ r1 c1 Y X S w rfl hS hR5 hK9 hsp (by omega) (by omega) KS
    (hide fun w' => within_is r1 0 99 _ hr1_ w' br1.1 br1.2 (by omega) (by omega) (by omega))
    (hide fun w' => within_is c1 0 99 _ hc1_ w' bc1.1 bc1.2 (by omega) (by omega) (by omega))
end Go.Proofs.YtbhnipepbckalaaDoor
