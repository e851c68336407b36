/- CursorTells told of any arguments. -/
import Derived.Test.YtbhnipepbckalaaDoorArgScreen
import Derived.Test.YtbhnipepbckalaaDoorCursorTells
set_option maxRecDepth 100000
namespace Go.Proofs.YtbhnipepbckalaaDoor
open Go.RowKit
set_option linter.unusedVariables false
theorem cursorTells_any (rw cl : Int) (Ap : Option Addr) (np cp : Nat) (lp : List Int) (At : Option Addr) (nt ct : Nat) (lt : List Int) (a b c d e p q r u wt r1 c1 n1 : Int) (w : World)
    (hr : (Lit.int .i64 rw).wf = true) (hc : (Lit.int .i64 cl).wf = true) (hp : Arg .i64 w Ap np cp lp) (ht : Arg .i64 w At nt ct lt) (ha : (Lit.int .i64 a).wf = true) (hb : (Lit.int .i64 b).wf = true) (hc' : (Lit.int .i64 c).wf = true) (hd : (Lit.int .i64 d).wf = true) (he : (Lit.int .i64 e).wf = true)
    (hp0 : (Lit.int .i64 p).wf = true) (hp1 : (Lit.int .i64 q).wf = true) (hp2 : (Lit.int .i64 r).wf = true) (hu : (Lit.int .u64 u).wf = true) (hwt : (Lit.int .i64 wt).wf = true) (hr1 : (Lit.int .i64 r1).wf = true) (hc1 : (Lit.int .i64 c1).wf = true) (hn1 : (Lit.int .i64 n1).wf = true) (hsp : Spans w) :
    Calls Tryd.prog 4 #[.agg #[.int .i64 rw, .int .i64 cl, .slice Ap np cp, .slice At nt ct, .int .i64 a, .int .i64 b, .int .i64 c, .int .i64 d, .int .i64 e, .int .i64 p, .int .i64 q, .int .i64 r, .int .u64 u], .int .i64 wt, .int .i64 r1, .int .i64 c1, .int .i64 n1] w fun e w' => e = .returned (.bool true) ∧ Below w.heap.size w w' := by
  obtain ⟨S, hS, hR5, hK9, KS⟩ := arg_screen rw cl Ap np cp lp At nt ct lt a b c d e p q r u w hr hc hp ht ha hb hc' hd he hp0 hp1 hp2 hu
  obtain ⟨T, hwt_⟩ : ∃ T : Nat, 0 + wt % (8 - 0 + 1) = (T : Int) := ⟨(wt % 9).toNat, by omega⟩
  have bwt := bounds_i64 hwt
  obtain ⟨Y, hr1_⟩ : ∃ Y : Int, -3 + r1 % (9 - -3 + 1) = Y := ⟨_, rfl⟩
  have br1 := bounds_i64 hr1
  obtain ⟨X, hc1_⟩ : ∃ X : Int, -3 + c1 % (14 - -3 + 1) = X := ⟨_, rfl⟩
  have bc1 := bounds_i64 hc1
  obtain ⟨M, hn1_⟩ : ∃ M : Nat, 0 + n1 % (9 - 0 + 1) = (M : Int) := ⟨(n1 % 10).toNat, by omega⟩
  have bn1 := bounds_i64 hn1
  have hY : -3 ≤ Y ∧ Y ≤ 9 := by have h := hr1_; rw [show (9 - -3 + 1 : Int) = 13 by decide] at h; omega
  have hX : -3 ≤ X ∧ X ≤ 14 := by have h := hc1_; rw [show (14 - -3 + 1 : Int) = 18 by decide] at h; omega
  exact cursorTells_t _ wt r1 c1 n1 Y X M T S w rfl hS hR5 hK9 hsp hY hX (by omega) (by omega) KS
    (hide fun w' => within_is r1 (-3) 9 _ hr1_ w' br1.1 br1.2 (by omega) (by omega) (by omega))
    (hide fun w' => within_is c1 (-3) 14 _ hc1_ w' bc1.1 bc1.2 (by omega) (by omega) (by omega))
    (hide fun w' => within_is n1 0 9 _ hn1_ w' bn1.1 bn1.2 (by omega) (by omega) (by omega))
    (hide fun w' => within_is wt 0 8 _ hwt_ w' bwt.1 bwt.2 (by omega) (by omega) (by omega))
end Go.Proofs.YtbhnipepbckalaaDoor
