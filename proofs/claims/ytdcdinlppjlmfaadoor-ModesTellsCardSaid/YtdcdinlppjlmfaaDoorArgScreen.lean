/- An argument that is the given Screen makes a screen that is right, of at most five lines and nine columns. -/
import Derived.Test.YtdcdinlppjlmfaaDoorScreenRef
import Derived.Test.YtdcdinlppjlmfaaDoorGridUse
set_option maxRecDepth 100000
namespace Go.Proofs.YtdcdinlppjlmfaaDoor
open Go.RowKit
set_option linter.unusedVariables false
/-- the cells of an argument that is linguistkeep.Screen -/
def kcsOf (rw cl : Int) (Ap : Option Addr) (np cp : Nat) (At : Option Addr) (nt ct : Nat) (a b c d e p q r u : Int) : Array Value := #[.int .i64 rw, .int .i64 cl, .slice Ap np cp, .slice At nt ct, .int .i64 a, .int .i64 b, .int .i64 c, .int .i64 d, .int .i64 e, .int .i64 p, .int .i64 q, .int .i64 r, .int .u64 u]
theorem arg_screen (rw cl : Int) (Ap : Option Addr) (np cp : Nat) (lp : List Int) (At : Option Addr) (nt ct : Nat) (lt : List Int) (a b c d e p q r u : Int) (w : World)
    (hr : (Lit.int .i64 rw).wf = true) (hc : (Lit.int .i64 cl).wf = true) (hp : Arg .i64 w Ap np cp lp) (ht : Arg .i64 w At nt ct lt) (ha : (Lit.int .i64 a).wf = true) (hb : (Lit.int .i64 b).wf = true) (hc' : (Lit.int .i64 c).wf = true) (hd : (Lit.int .i64 d).wf = true) (he : (Lit.int .i64 e).wf = true)
    (hp0 : (Lit.int .i64 p).wf = true) (hp1 : (Lit.int .i64 q).wf = true) (hp2 : (Lit.int .i64 r).wf = true) (hu : (Lit.int .u64 u).wf = true) :
    ∃ S : SN.Sc, SN.RightS S ∧ S.g.rows ≤ 5 ∧ S.g.cols ≤ 9 ∧ Hid (∀ w', Below w.heap.size w w' → Calls Tryd.prog 12 #[.agg (kcsOf rw cl Ap np cp At nt ct a b c d e p q r u)] w' (GotS w' S)) := by
  obtain ⟨R, hR⟩ : ∃ R : Nat, 1 + rw % (5 - 1 + 1) = (R : Int) := ⟨(1 + rw % 5).toNat, by omega⟩
  obtain ⟨K, hK⟩ : ∃ K : Nat, 1 + cl % (9 - 1 + 1) = (K : Int) := ⟨(1 + cl % 9).toNat, by omega⟩
  have hG := keepG_right lp lt (R := R) (K := K) (by omega) (by omega) (by omega) (by omega)
  obtain ⟨n, rfl⟩ : ∃ n : Nat, u = (n : Int) := ⟨u.toNat, by have := bounds_u64 hu; omega⟩
  have hn : TB.Ok n := by have := bounds_u64 hu; unfold TB.Ok; omega
  refine ⟨SN.keepS (PG.ofL R K (PG.keepCells lp lt R K)) ⟨a, b, c, d, e, p, q, r, n⟩, SN.right_keep hG _ hn, ?_, ?_, hide fun w' hw => ?_⟩
  · show R ≤ 5
    omega
  · show K ≤ 9
    omega
  · exact keepScreen_any _ _ _ _ ⟨a, b, c, d, e, p, q, r, n⟩ _ w' hG ⟨⟨bounds_i64 ha, bounds_i64 hb, bounds_i64 hc', bounds_i64 hd⟩, ⟨bounds_i64 he, bounds_i64 hp0, bounds_i64 hp1, bounds_i64 hp2⟩⟩
      (hide fun w'' hw'' => u_keepGrid rw cl R K np cp nt ct lp lt Ap At w w'' (hw.trans (hw''.mono hw.size)) hR hK (bounds_i64 hr) (bounds_i64 hc) hp ht)
end Go.Proofs.YtdcdinlppjlmfaaDoor
