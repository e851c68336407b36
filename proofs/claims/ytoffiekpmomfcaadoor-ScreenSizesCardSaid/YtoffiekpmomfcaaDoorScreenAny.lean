/- An argument that is the given Screen makes a screen that is right, of at most five lines and nine columns; ScreenSizes, ScreenTells and ScreenLooks told of any arguments. -/
import Derived.Test.YtoffiekpmomfcaaDoorScreenRef
import Derived.Test.YtoffiekpmomfcaaDoorGridUse
import Derived.Test.YtoffiekpmomfcaaDoorScreenSizes
import Derived.Test.YtoffiekpmomfcaaDoorScreenTells
import Derived.Test.YtoffiekpmomfcaaDoorScreenLooks
set_option maxRecDepth 100000
namespace Go.Proofs.YtoffiekpmomfcaaDoor
open Go.RowKit
set_option linter.unusedVariables false
/-- the cells of an argument that is linguistkeep.Screen -/
def kcsOf (rw cl : Int) (Ap : Option Addr) (np cp : Nat) (At : Option Addr) (nt ct : Nat) (a b c d e p q r u : Int) : Array Value := #[.int .i64 rw, .int .i64 cl, .slice Ap np cp, .slice At nt ct, .int .i64 a, .int .i64 b, .int .i64 c, .int .i64 d, .int .i64 e, .int .i64 p, .int .i64 q, .int .i64 r, .int .u64 u]
theorem arg_screen (rw cl : Int) (Ap : Option Addr) (np cp : Nat) (lp : List Int) (At : Option Addr) (nt ct : Nat) (lt : List Int) (a b c d e p q r u : Int) (w : World)
    (hr : (Lit.int .i64 rw).wf = true) (hc : (Lit.int .i64 cl).wf = true) (hp : Arg .i64 w Ap np cp lp) (ht : Arg .i64 w At nt ct lt) (ha : (Lit.int .i64 a).wf = true) (hb : (Lit.int .i64 b).wf = true) (hc' : (Lit.int .i64 c).wf = true) (hd : (Lit.int .i64 d).wf = true) (he : (Lit.int .i64 e).wf = true)
    (hp0 : (Lit.int .i64 p).wf = true) (hp1 : (Lit.int .i64 q).wf = true) (hp2 : (Lit.int .i64 r).wf = true) (hu : (Lit.int .u64 u).wf = true) :
    ∃ S : SN.Sc, SN.RightS S ∧ S.g.rows ≤ 5 ∧ S.g.cols ≤ 9 ∧ Hid (∀ w', Below w.heap.size w w' → Calls Tryd.prog 11 #[.agg (kcsOf rw cl Ap np cp At nt ct a b c d e p q r u)] w' (GotS w' S)) := by
  obtain ⟨R, hR⟩ : ∃ R : Nat, 1 + rw % (5 - 1 + 1) = (R : Int) := ⟨(1 + rw % 5).toNat, by omega⟩
  obtain ⟨K, hK⟩ : ∃ K : Nat, 1 + cl % (9 - 1 + 1) = (K : Int) := ⟨(1 + cl % 9).toNat, by omega⟩
  have hG := keepG_right lp lt (R := R) (K := K) (by omega) (by omega) (by omega) (by omega)
  obtain ⟨n, rfl⟩ : ∃ n : Nat, u = (n : Int) := ⟨u.toNat, by have := bounds_u64 hu; omega⟩
  have hn : TB.Ok n := by have := bounds_u64 hu; unfold TB.Ok; omega
  refine ⟨SN.keepS (PG.ofL R K (PG.keepCells lp lt R K)) ⟨a, b, c, d, e, p, q, r, n⟩, SN.right_keep hG _ hn, ?_, ?_, hide fun w' hw => ?_⟩
  · show R ≤ 5
    omega
  · show K ≤ 9
    omega
  · exact keepScreen_any _ _ _ _ ⟨a, b, c, d, e, p, q, r, n⟩ _ w' hG ⟨⟨bounds_i64 ha, bounds_i64 hb, bounds_i64 hc', bounds_i64 hd⟩, ⟨bounds_i64 he, bounds_i64 hp0, bounds_i64 hp1, bounds_i64 hp2⟩⟩
      (hide fun w'' hw'' => u_keepGrid rw cl R K np cp nt ct lp lt Ap At w w'' (hw.trans (hw''.mono hw.size)) hR hK (bounds_i64 hr) (bounds_i64 hc) hp ht)
theorem screenSizes_any (rw cl : Int) (Ap : Option Addr) (np cp : Nat) (lp : List Int) (At : Option Addr) (nt ct : Nat) (lt : List Int) (a b c d e p q r u h1 w1 : Int) (w : World)
    (hr : (Lit.int .i64 rw).wf = true) (hc : (Lit.int .i64 cl).wf = true) (hp : Arg .i64 w Ap np cp lp) (ht : Arg .i64 w At nt ct lt) (ha : (Lit.int .i64 a).wf = true) (hb : (Lit.int .i64 b).wf = true) (hc' : (Lit.int .i64 c).wf = true) (hd : (Lit.int .i64 d).wf = true) (he : (Lit.int .i64 e).wf = true)
    (hp0 : (Lit.int .i64 p).wf = true) (hp1 : (Lit.int .i64 q).wf = true) (hp2 : (Lit.int .i64 r).wf = true) (hu : (Lit.int .u64 u).wf = true) (hh : (Lit.int .i64 h1).wf = true) (hw : (Lit.int .i64 w1).wf = true) (hsp : Spans w) :
    Calls Tryd.prog 6 #[.agg #[.int .i64 rw, .int .i64 cl, .slice Ap np cp, .slice At nt ct, .int .i64 a, .int .i64 b, .int .i64 c, .int .i64 d, .int .i64 e, .int .i64 p, .int .i64 q, .int .i64 r, .int .u64 u], .int .i64 h1, .int .i64 w1] w fun e w' => e = .returned (.bool true) ∧ Below w.heap.size w w' := by
  obtain ⟨S, hS, hR5, hK9, KS⟩ := arg_screen rw cl Ap np cp lp At nt ct lt a b c d e p q r u w hr hc hp ht ha hb hc' hd he hp0 hp1 hp2 hu
  obtain ⟨A, hA⟩ : ∃ A : Nat, 0 + h1 % (6 - 0 + 1) = (A : Int) := ⟨(h1 % 7).toNat, by omega⟩
  obtain ⟨B, hB⟩ : ∃ B : Nat, 0 + w1 % (8 - 0 + 1) = (B : Int) := ⟨(w1 % 9).toNat, by omega⟩
  have Hb := bounds_i64 hh
  have Wb := bounds_i64 hw
  exact screenSizes_t _ h1 w1 A B S _ _ _ w rfl hS (by omega) (by omega) hR5 hK9 hsp rfl rfl rfl KS
    (hide fun w' => within_is h1 0 6 A hA w' Hb.1 Hb.2 (by omega) (by omega) (by omega))
    (hide fun w' => within_is w1 0 8 B hB w' Wb.1 Wb.2 (by omega) (by omega) (by omega))
theorem screenTells_any (rw cl : Int) (Ap : Option Addr) (np cp : Nat) (lp : List Int) (At : Option Addr) (nt ct : Nat) (lt : List Int) (a b c d e p q r u r1 c1 wt by1 : Int) (w : World)
    (hr : (Lit.int .i64 rw).wf = true) (hc : (Lit.int .i64 cl).wf = true) (hp : Arg .i64 w Ap np cp lp) (ht : Arg .i64 w At nt ct lt) (ha : (Lit.int .i64 a).wf = true) (hb : (Lit.int .i64 b).wf = true) (hc' : (Lit.int .i64 c).wf = true) (hd : (Lit.int .i64 d).wf = true) (he : (Lit.int .i64 e).wf = true)
    (hp0 : (Lit.int .i64 p).wf = true) (hp1 : (Lit.int .i64 q).wf = true) (hp2 : (Lit.int .i64 r).wf = true) (hu : (Lit.int .u64 u).wf = true) (hr1 : (Lit.int .i64 r1).wf = true) (hc1 : (Lit.int .i64 c1).wf = true) (hwt : (Lit.int .i64 wt).wf = true) (hby : (Lit.int .i64 by1).wf = true) (hsp : Spans w) :
    Calls Tryd.prog 4 #[.agg #[.int .i64 rw, .int .i64 cl, .slice Ap np cp, .slice At nt ct, .int .i64 a, .int .i64 b, .int .i64 c, .int .i64 d, .int .i64 e, .int .i64 p, .int .i64 q, .int .i64 r, .int .u64 u], .int .i64 r1, .int .i64 c1, .int .i64 wt, .int .i64 by1] w fun e w' => e = .returned (.bool true) ∧ Below w.heap.size w w' := by
  obtain ⟨S, hS, hR5, hK9, KS⟩ := arg_screen rw cl Ap np cp lp At nt ct lt a b c d e p q r u w hr hc hp ht ha hb hc' hd he hp0 hp1 hp2 hu
  obtain ⟨A, hA⟩ : ∃ A : Nat, 1 + r1 % (7 - 1 + 1) = (A : Int) := ⟨(1 + r1 % 7).toNat, by omega⟩
  obtain ⟨B, hB⟩ : ∃ B : Nat, 1 + c1 % (12 - 1 + 1) = (B : Int) := ⟨(1 + c1 % 12).toNat, by omega⟩
  obtain ⟨Y, hY⟩ : ∃ Y : Nat, 0 + by1 % (1099511627776 - 0 + 1) = (Y : Int) := ⟨(by1 % 1099511627777).toNat, by omega⟩
  obtain ⟨T, hT⟩ : ∃ T : Nat, 0 + wt % (7 - 0 + 1) = (T : Int) := ⟨(wt % 8).toNat, by omega⟩
  have b1 := bounds_i64 hr1
  have b2 := bounds_i64 hc1
  have b3 := bounds_i64 hwt
  have b4 := bounds_i64 hby
  exact screenTells_t _ r1 c1 wt by1 A B Y T S _ _ w rfl hS (by omega) (by omega) (by omega) (by omega) (by omega) (by omega) hsp rfl rfl KS
    (hide fun w' => within_is r1 1 7 A hA w' b1.1 b1.2 (by omega) (by omega) (by omega))
    (hide fun w' => within_is c1 1 12 B hB w' b2.1 b2.2 (by omega) (by omega) (by omega))
    (hide fun w' => within_is by1 0 1099511627776 Y hY w' b4.1 b4.2 (by omega) (by omega) (by omega))
    (hide fun w' => within_is wt 0 7 T hT w' b3.1 b3.2 (by omega) (by omega) (by omega))
theorem screenLooks_any (rw cl : Int) (Ap : Option Addr) (np cp : Nat) (lp : List Int) (At : Option Addr) (nt ct : Nat) (lt : List Int) (a b c d e p q r u at1 : Int) (w : World)
    (hr : (Lit.int .i64 rw).wf = true) (hc : (Lit.int .i64 cl).wf = true) (hp : Arg .i64 w Ap np cp lp) (ht : Arg .i64 w At nt ct lt) (ha : (Lit.int .i64 a).wf = true) (hb : (Lit.int .i64 b).wf = true) (hc' : (Lit.int .i64 c).wf = true) (hd : (Lit.int .i64 d).wf = true) (he : (Lit.int .i64 e).wf = true)
    (hp0 : (Lit.int .i64 p).wf = true) (hp1 : (Lit.int .i64 q).wf = true) (hp2 : (Lit.int .i64 r).wf = true) (hu : (Lit.int .u64 u).wf = true) (hat : (Lit.int .i64 at1).wf = true) (hsp : Spans w) :
    Calls Tryd.prog 5 #[.agg #[.int .i64 rw, .int .i64 cl, .slice Ap np cp, .slice At nt ct, .int .i64 a, .int .i64 b, .int .i64 c, .int .i64 d, .int .i64 e, .int .i64 p, .int .i64 q, .int .i64 r, .int .u64 u], .int .i64 at1] w fun e w' => e = .returned (.bool true) ∧ Below w.heap.size w w' := by
  obtain ⟨S, hS, hR5, hK9, KS⟩ := arg_screen rw cl Ap np cp lp At nt ct lt a b c d e p q r u w hr hc hp ht ha hb hc' hd he hp0 hp1 hp2 hu
  have hN : S.g.rows * S.g.cols ≤ 45 := Nat.mul_le_mul hR5 hK9
  have h1 : 1 ≤ S.g.rows * S.g.cols := Nat.mul_le_mul hS.g.1 hS.g.2.2.1
  generalize hn : S.g.rows * S.g.cols = n at hN h1
  have h0 := Int.emod_nonneg at1 (b := (n : Int)) (by omega)
  have h2 := Int.emod_lt_of_pos at1 (b := (n : Int)) (by omega)
  obtain ⟨A, hA⟩ : ∃ A : Nat, 0 + at1 % (((n : Int) - 1) - 0 + 1) = (A : Int) := ⟨(at1 % (n : Int)).toNat, by rw [show ((n : Int) - 1) - 0 + 1 = (n : Int) by omega]; omega⟩
  have hA2 : A < n := by
    rw [show ((n : Int) - 1) - 0 + 1 = (n : Int) by omega] at hA
    omega
  have b1 := bounds_i64 hat
  exact screenLooks_t _ at1 A S w rfl hS hR5 hK9 hsp (by rw [hn]; exact hA2) KS
    (hide fun w' => by rw [hn]; exact within_is at1 0 ((n : Int) - 1) A hA w' b1.1 b1.2 (by omega) (by omega) (by omega))
end Go.Proofs.YtoffiekpmomfcaaDoor
