/- The contract of Push: one byte of a decoder, its runes in a new list. -/
import Derived.Test.YtnnjppgmadmmaaaDoorUtfInto
import Derived.RegionTactic
import Derived.BigRegion
set_option maxRecDepth 100000
namespace Go.Proofs.YtnnjppgmadmmaaaDoor
open Go.RowKit
set_option linter.unusedVariables false

/-- What Push leaves. -/
def Pushed (w : World) (s : U.St) (l : List Int) (e : Ending) (w' : World) : Prop :=
  ∃ v', e = .returned (.tuple #[s.val, v']) ∧ w'.ownsRow w.heap.size 21 1 v' l.length (i32s l) ∧ Below w.heap.size w w'
theorem own_base {w : World} {base base' n : Nat} {e : TypeId} {v : Value} {xs : List Value} (h : w.ownsRow base e 1 v n xs) (hb : base' ≤ base) : w.ownsRow base' e 1 v n xs := by
  refine ⟨h.1, ?_⟩
  rcases h.2 with h | ⟨g, cap, cur, hv, hg, r⟩
  · exact .inl h
  · exact .inr ⟨g, cap, cur, hv, by omega, r⟩

set_option maxHeartbeats 400000 in
theorem push_any (s : U.St) (b : Int) (w : World) (h0 : 0 ≤ b) (h1 : b < 256) (hso : s.ok) :
    Calls Tryd.prog 65 #[s.val, .int .u8 b] w (Pushed w (U.it s b).1 (U.it s b).2) := by
  have ci := fun w' hb => into_any w.heap.size (.slice none 0 0) 0 [] s b w' (World.ownsRow_nil _ _ _ _) (by omega) hb h0 h1 hso
  generalize U.it s b = r at ci ⊢
  obtain ⟨⟨q0, q1, q2⟩, l⟩ := r
  obtain ⟨sn, sh, sa⟩ := s
  simp only [U.St.val] at ci ⊢
  clear hso
  have CI := hide ci
  clear ci
  go_enter Tryd.func65, Tryd.ntmps65
  go_wp2_with (go_at_call 68; go_must (refine (CI.out _ (by simp; omega)).mono ?_); rintro e w1 ⟨v', rfl, hown1, hg1, hm1⟩; have hbx := (Box.new (w.alloc (.cells #[.int .i64 sn, .int .i64 sh, .int .i64 sa] 63)) 63 #[.int .i64 0, .int .i64 0, .int .i64 0]).grown hg1 (by simp [Value.ownBlock]); rw [World.size_alloc] at hbx; obtain ⟨k0, k1, k2, k3, k4, k5⟩ := hbx.three)
  refine bodyPost_ret (v := .tuple #[.agg #[.int .i64 q0, .int .i64 q1, .int .i64 q2], v']) (by simp [results, Tryd.results65, go_sem, k0, k1, k2]) rfl ⟨v', rfl, ?_⟩
  have R := step_end (n := 0) (zs := []) (.int .i64 q0) (.int .i64 q1) (.int .i64 q2) (by decide) hbx (grown_alloc (World.grownBy_alloc w _ _) _) (by omega) hown1 hg1 hm1 rfl rfl
  exact ⟨by simpa [i32s] using R.1, below_of_grown R.2.1 (Nat.le_refl _) (by simp [Value.ownBlock])⟩

end Go.Proofs.YtnnjppgmadmmaaaDoor
