/- The contracts of the document's own Put and Wipe, where they give what they were given. -/
import Derived.Test.YtfeapcneebofjaaDoorGridRefPut
set_option maxRecDepth 100000
namespace Go.Proofs.YtfeapcneebofjaaDoor
open Go.RowKit
set_option linter.unusedVariables false
set_option maxHeartbeats 4000000 in
theorem rput_not (R K n cp wv : Nat) (r c x : Int) (p : PG.Pn) (A : Option Addr) (w : World) (hR : R ≤ 40) (hK : K ≤ 60) (hr : -1000 ≤ r ∧ r ≤ 1000) (hc : -1000 ≤ c ∧ c ≤ 1000)
    (hx0 : -2147483648 ≤ x) (hx1 : x ≤ 2147483647) (hw : C.width x = (wv : Int)) (ho : r < 0 ∨ (R : Int) ≤ r ∨ c < 0 ∨ wv = 0 ∨ (K : Int) < c + wv) :
    Calls Tryd.prog 15 #[gv R K (.slice A n cp), .int .i64 r, .int .i64 c, .int .i32 x, pv p] w fun e w' => e = .returned (gv R K (.slice A n cp)) ∧ Below w.heap.size w w' := by
  have WD := hide (fun w' => (show Calls Tryd.prog 24 #[.int .i32 x] w' fun e w'' => e = .returned (.int .i64 (wv : Int)) ∧ Below w'.heap.size w' w'' by rw [← hw]; exact refWidth_any x w' hx0 hx1))
  have hw2 : wv ≤ 2 := by have := PG.width_bd x; omega
  have cs : r < 0 ∨ (0 ≤ r ∧ (R : Int) ≤ r) ∨ (0 ≤ r ∧ r < R ∧ c < 0) ∨ (0 ≤ r ∧ r < R ∧ 0 ≤ c ∧ wv = 0) ∨ (0 ≤ r ∧ r < R ∧ 0 ≤ c ∧ 1 ≤ wv ∧ (K : Int) < c + wv) := by omega
  clear hw hx0 hx1 ho
  unfold gv pv
  rcases cs with h | ⟨h, h'⟩ | ⟨h, h', h2⟩ | ⟨h, h', h2, h3⟩ | ⟨h, h', h2, h3, h4⟩
  case inr.inr.inr.inl =>
    subst h3
    go_enter Tryd.func15, Tryd.ntmps15
    go_wp2_with (
      go_at_call 24
      go_must (refine (WD.out _).mono ?_)
      rintro e w1 ⟨rfl, b1⟩
      obtain ⟨x0, x1, x2, bw⟩ := boxes3 (w := w) (t0 := 26) (t1 := 23) (t2 := 26) (cs := #[.int .i64 R, .int .i64 K, .slice A n cp]) (ds := #[.int .i64 p.1, .int .i64 p.2.1, .int .i64 p.2.2]) (es := #[.int .i64 0, .int .i64 0, .slice none 0 0])
      have x0 := x0.below b1 x0.lt
      have x2 := x2.below b1 x2.lt
      have bb := bw.trans (b1.mono bw.size)
      obtain ⟨a0, a1, a2, _⟩ := x0.three
      obtain ⟨q0, q1, q2, q3, q4, q5⟩ := x2.three
      have X2 := hide x2
      clear b1 bw WD x0 x1 x2)
    have X := X2.out.set3 (.int .i64 R) (.int .i64 K) (.slice A n cp)
    obtain ⟨j0, j1, j2, _⟩ := X.three
    exact bodyPost_ret (v := .agg #[.int .i64 R, .int .i64 K, .slice A n cp]) (by simp [results, Tryd.results15, go_sem, j0, j1, j2]) rfl ⟨rfl, below_set3 bb (by omega) _ _ _⟩
  all_goals
    go_enter Tryd.func15, Tryd.ntmps15
    go_wp2_with (
      go_at_call 24
      go_must (refine (WD.out _).mono ?_)
      rintro e w1 ⟨rfl, b1⟩
      obtain ⟨x0, x1, x2, bw⟩ := boxes3 (w := w) (t0 := 26) (t1 := 23) (t2 := 26) (cs := #[.int .i64 R, .int .i64 K, .slice A n cp]) (ds := #[.int .i64 p.1, .int .i64 p.2.1, .int .i64 p.2.2]) (es := #[.int .i64 0, .int .i64 0, .slice none 0 0])
      have x0 := x0.below b1 x0.lt
      have x2 := x2.below b1 x2.lt
      have bb := bw.trans (b1.mono bw.size)
      obtain ⟨a0, a1, a2, _⟩ := x0.three
      obtain ⟨q0, q1, q2, q3, q4, q5⟩ := x2.three
      have X2 := hide x2
      clear b1 bw WD x0 x1 x2)
    have X := X2.out.set3 (.int .i64 R) (.int .i64 K) (.slice A n cp)
    obtain ⟨j0, j1, j2, _⟩ := X.three
    exact bodyPost_ret (v := .agg #[.int .i64 R, .int .i64 K, .slice A n cp]) (by simp [results, Tryd.results15, go_sem, j0, j1, j2]) rfl ⟨rfl, below_set3 bb (by omega) _ _ _⟩
set_option maxHeartbeats 4000000 in
theorem rwipe_not (R K n cp : Nat) (r a b : Int) (p : PG.Pn) (A : Option Addr) (w : World) (hR : R ≤ 40) (ho : r < 0 ∨ (R : Int) ≤ r) :
    Calls Tryd.prog 17 #[gv R K (.slice A n cp), .int .i64 r, .int .i64 a, .int .i64 b, pv p] w fun e w' => e = .returned (gv R K (.slice A n cp)) ∧ Below w.heap.size w w' := by
  have cs : r < 0 ∨ (0 ≤ r ∧ (R : Int) ≤ r) := by omega
  clear ho
  unfold gv pv
  rcases cs with h | ⟨h, h'⟩
  all_goals
    go_enter Tryd.func17, Tryd.ntmps17
    go_wp2_with fail
    refine bodyPost_ret (v := .agg #[.int .i64 R, .int .i64 K, .slice A n cp]) (by simp [results, Tryd.results17, go_sem]) rfl ⟨rfl, ?_⟩
    exact (((Below.refl _ _).alloc (Nat.le_refl _) _).alloc (by simp) _).alloc (by simp; omega) _
end Go.Proofs.YtfeapcneebofjaaDoor
