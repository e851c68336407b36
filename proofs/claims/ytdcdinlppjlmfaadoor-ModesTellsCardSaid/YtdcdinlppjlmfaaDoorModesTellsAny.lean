/- ModesTells told of any arguments. -/
import Derived.Test.YtdcdinlppjlmfaaDoorArgScreen
import Derived.Test.YtdcdinlppjlmfaaDoorModesTells
set_option maxRecDepth 100000
namespace Go.Proofs.YtdcdinlppjlmfaaDoor
open Go.RowKit
set_option linter.unusedVariables false
theorem modesTells_any (rw cl : Int) (Ap : Option Addr) (np cp : Nat) (lp : List Int) (At : Option Addr) (nt ct : Nat) (lt : List Int) (a b c d e p q r u n1 n2 : Int) (b1 b2 : Bool) (w : World)
    (hr : (Lit.int .i64 rw).wf = true) (hc : (Lit.int .i64 cl).wf = true) (hp : Arg .i64 w Ap np cp lp) (ht : Arg .i64 w At nt ct lt) (ha : (Lit.int .i64 a).wf = true) (hb : (Lit.int .i64 b).wf = true) (hc' : (Lit.int .i64 c).wf = true) (hd : (Lit.int .i64 d).wf = true) (he : (Lit.int .i64 e).wf = true)
    (hp0 : (Lit.int .i64 p).wf = true) (hp1 : (Lit.int .i64 q).wf = true) (hp2 : (Lit.int .i64 r).wf = true) (hu : (Lit.int .u64 u).wf = true) (hn1 : (Lit.int .i64 n1).wf = true) (hn2 : (Lit.int .i64 n2).wf = true) (hsp : Spans w) (hmt : MTab w) :
    Calls Tryd.prog 4 #[.agg #[.int .i64 rw, .int .i64 cl, .slice Ap np cp, .slice At nt ct, .int .i64 a, .int .i64 b, .int .i64 c, .int .i64 d, .int .i64 e, .int .i64 p, .int .i64 q, .int .i64 r, .int .u64 u], .int .i64 n1, .int .i64 n2, .bool b1, .bool b2] w fun e w' => e = .returned (.bool true) ∧ Below w.heap.size w w' := by
  obtain ⟨S, hS, hR5, hK9, KS⟩ := arg_screen rw cl Ap np cp lp At nt ct lt a b c d e p q r u w hr hc hp ht ha hb hc' hd he hp0 hp1 hp2 hu
  obtain ⟨Y, hy⟩ : ∃ Y : Nat, 0 + n1 % (5 - 0 + 1) = (Y : Int) := ⟨(n1 % 6).toNat, by omega⟩
  have bn1 := bounds_i64 hn1
  exact modesTells_t _ n1 n2 Y b1 b2 S w rfl hS hR5 hK9 hsp hmt (by omega) (by right; trivial) KS
    (hide fun w' => within_is n1 0 5 _ hy w' bn1.1 bn1.2 (by omega) (by omega) (by omega))
end Go.Proofs.YtdcdinlppjlmfaaDoor
