/- ModesOrigin told of any arguments. -/
import Derived.Test.YtdcdinlppjlmfaaDoorArgScreen
import Derived.Test.YtdcdinlppjlmfaaDoorModesOrigin
set_option maxRecDepth 100000
namespace Go.Proofs.YtdcdinlppjlmfaaDoor
open Go.RowKit
set_option linter.unusedVariables false
theorem modesOrigin_any (rw cl : Int) (Ap : Option Addr) (np cp : Nat) (lp : List Int) (At : Option Addr) (nt ct : Nat) (lt : List Int) (a b c d e p q r u : Int) (w : World)
    (hr : (Lit.int .i64 rw).wf = true) (hc : (Lit.int .i64 cl).wf = true) (hp : Arg .i64 w Ap np cp lp) (ht : Arg .i64 w At nt ct lt) (ha : (Lit.int .i64 a).wf = true) (hb : (Lit.int .i64 b).wf = true) (hc' : (Lit.int .i64 c).wf = true) (hd : (Lit.int .i64 d).wf = true) (he : (Lit.int .i64 e).wf = true)
    (hp0 : (Lit.int .i64 p).wf = true) (hp1 : (Lit.int .i64 q).wf = true) (hp2 : (Lit.int .i64 r).wf = true) (hu : (Lit.int .u64 u).wf = true) (hmt : MTab w) :
    Calls Tryd.prog 6 #[.agg #[.int .i64 rw, .int .i64 cl, .slice Ap np cp, .slice At nt ct, .int .i64 a, .int .i64 b, .int .i64 c, .int .i64 d, .int .i64 e, .int .i64 p, .int .i64 q, .int .i64 r, .int .u64 u]] w fun e w' => e = .returned (.bool true) ∧ Below w.heap.size w w' := by
  obtain ⟨S, hS, hR5, hK9, KS⟩ := arg_screen rw cl Ap np cp lp At nt ct lt a b c d e p q r u w hr hc hp ht ha hb hc' hd he hp0 hp1 hp2 hu
  exact modesOrigin_t _ S w rfl hS hR5 hK9 hmt KS
end Go.Proofs.YtdcdinlppjlmfaaDoor
