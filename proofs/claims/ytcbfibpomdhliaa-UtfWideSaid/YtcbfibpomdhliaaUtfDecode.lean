/- The contracts of Push and Decode. -/
import Derived.Test.YtcbfibpomdhliaaUtfInto
import Derived.RegionTactic
import Derived.BigRegion
namespace Go.Proofs.Ytcbfibpomdhliaa
open Go.RowKit
set_option linter.unusedVariables false

/-- What Decode leaves: a new list of runes, a decoder. -/
def Decoded (w : World) (s : U.St) (l : List Int) (e : Ending) (w' : World) : Prop :=
  ∃ v', e = .returned (.tuple #[v', s.val]) ∧ w'.ownsRow w.heap.size 21 1 v' l.length (i32s l) ∧ Below w.heap.size w w'
/-- What Push leaves. -/
def Pushed (w : World) (s : U.St) (l : List Int) (e : Ending) (w' : World) : Prop :=
  ∃ v', e = .returned (.tuple #[s.val, v']) ∧ w'.ownsRow w.heap.size 21 1 v' l.length (i32s l) ∧ Below w.heap.size w w'
theorem own_base {w : World} {base base' n : Nat} {e : TypeId} {v : Value} {xs : List Value} (h : w.ownsRow base e 1 v n xs) (hb : base' ≤ base) : w.ownsRow base' e 1 v n xs := by
  refine ⟨h.1, ?_⟩
  rcases h.2 with h | ⟨g, cap, cur, hv, hg, r⟩
  · exact .inl h
  · exact .inr ⟨g, cap, cur, hv, by omega, r⟩

set_option maxHeartbeats 400000 in
theorem push_any (s : U.St) (b : Int) (w : World) (h0 : 0 ≤ b) (h1 : b < 256) (hso : s.ok) :
    Calls Try.prog 19 #[s.val, .int .u8 b] w (Pushed w (U.it s b).1 (U.it s b).2) := by
  have ci := fun w' hb => into_any w.heap.size (.slice none 0 0) 0 [] s b w' (World.ownsRow_nil _ _ _ _) (by omega) hb h0 h1 hso
  generalize U.it s b = r at ci ⊢
  obtain ⟨⟨q0, q1, q2⟩, l⟩ := r
  obtain ⟨sn, sh, sa⟩ := s
  simp only [U.St.val] at ci ⊢
  clear hso
  have CI := hide ci
  clear ci
  go_enter Try.func19, Try.ntmps19
  go_wp2_with (go_at_call 20; go_must (refine (CI.out _ (by simp; omega)).mono ?_); rintro e w1 ⟨v', rfl, hown1, hg1, hm1⟩; have hbx := (Box.new (w.alloc (.cells #[.int .i64 sn, .int .i64 sh, .int .i64 sa] 24)) 24 #[.int .i64 0, .int .i64 0, .int .i64 0]).grown hg1 (by simp [Value.ownBlock]); rw [World.size_alloc] at hbx; obtain ⟨k0, k1, k2, k3, k4, k5⟩ := hbx.three)
  refine bodyPost_ret (v := .tuple #[.agg #[.int .i64 q0, .int .i64 q1, .int .i64 q2], v']) (by simp [results, Try.results19, go_sem, k0, k1, k2]) rfl ⟨v', rfl, ?_⟩
  have R := step_end (n := 0) (zs := []) (.int .i64 q0) (.int .i64 q1) (.int .i64 q2) (by decide) hbx (grown_alloc (World.grownBy_alloc w _ _) _) (by omega) hown1 hg1 hm1 rfl rfl
  exact ⟨by simpa [i32s] using R.1, below_of_grown R.2.1 (Nat.le_refl _) (by simp [Value.ownBlock])⟩

set_option maxHeartbeats 400000 in
theorem decode_any (A : Option Addr) (n c : Nat) (l : List Int) (w : World) (hA : Seen w w.heap.size A n (u8s l)) (hl : ∀ x ∈ l, 0 ≤ x ∧ x < 256) (hn : n ≤ 274877906944) :
    Calls Try.prog 9 #[.slice A n c] w (Decoded w (U.dec U.z l).1 (U.dec U.z l).2) := by
  have hlen : l.length = n := by simpa [u8s] using hA.1
  have HA := hide hA
  have HL := hide hl
  have HN := hide hlen
  clear hA hl hlen
  go_enter Try.func9, Try.ntmps9
  go_wp2
  go_loopw [5, 10] (fun v i wr => ∃ k : Nat, k ≤ n ∧ i = .int .i64 k ∧ wr.ownsRow w.heap.size 21 1 v (U.dec U.z (l.take k)).2.length (i32s (U.dec U.z (l.take k)).2) ∧
      Box wr w.heap.size 24 #[.int .i64 0, .int .i64 0, .int .i64 0] ∧
      Box wr (w.heap.size + 1) 24 #[.int .i64 (U.dec U.z (l.take k)).1.need, .int .i64 (U.dec U.z (l.take k)).1.have_, .int .i64 (U.dec U.z (l.take k)).1.acc] ∧ Below w.heap.size w wr)
    (fun _ i _ => n - (intOf i).toNat)
  case atStart => exact ⟨0, Nat.zero_le _, rfl, World.ownsRow_nil _ _ _ _, (Box.new w _ _).alloc _, by have h := Box.new (w.alloc (.cells #[.int .i64 0, .int .i64 0, .int .i64 0] 24)) 24 #[.int .i64 0, .int .i64 0, .int .i64 0]; rw [World.size_alloc] at h; exact h, ((Below.refl _ _).alloc (Nat.le_refl _) _).alloc (by simp) _⟩
  case round =>
    obtain ⟨k, hk, rfl, hown, hb0, hb1, hbel⟩ := hrel
    by_cases hlt : k < n
    · obtain ⟨ad, u, rfl, _, hu, hc⟩ := (HA.out.below hbel).at_ hlt
      rw [u8s, List.getElem?_map] at hu
      obtain ⟨x, hx, rfl⟩ := Option.map_eq_some_iff.1 hu
      have hxr := HL.out x (List.mem_of_getElem? hx)
      have hs1 := U.dec_snoc U.z (l.take k) x
      rw [show l.take k ++ [x] = l.take (k + 1) from by rw [List.take_add_one, hx]; rfl] at hs1
      have hok := U.dec_ok U.z_ok (l.take k) (fun y hy => (HL.out y (List.mem_of_mem_take hy)).2)
      have hlen := U.dec_len U.z (l.take k)
      rw [List.length_take] at hlen
      generalize hd : U.dec U.z (l.take k) = r at hs1 hown hb1 hok hlen
      obtain ⟨s, ys⟩ := r
      simp only [] at hs1 hown hb1 hok hlen
      have ci := into_any w.heap.size u5 ys.length (i32s ys) s x wr hown (by omega) hbel.size hxr.1 hxr.2 hok
      generalize U.it s x = r2 at hs1 ci
      obtain ⟨⟨q0, q1, q2⟩, ts⟩ := r2
      obtain ⟨sn, sh, sa⟩ := s
      simp only [U.St.val] at ci hs1 hb1
      obtain ⟨k0, k1, k2, k3, k4, k5⟩ := hb1.three
      have CI := hide ci
      have HS := hide hs1
      clear hu hx hxr hs1 hok hd ci
      go_wp2_with (go_at_call 20; go_must (refine CI.out.mono ?_); rintro e w1 ⟨v', rfl, hown1, hg1, hm1⟩; have hb1' := hb1.grown hg1 (hb1.notOwn hown (by decide)); obtain ⟨j0, j1, j2, j3, j4, j5⟩ := hb1'.three)
      go_roundw
      case rel =>
        have hlt1 := hown1.lt
        refine ⟨k + 1, by omega, by go_num, ?_, (hb0.grown hg1 (hb0.notOwn hown (by decide))).far3 (by omega) _ _ _, ?_, below_set3 (hbel.grown hg1 hbel.size (fun g hg => (hown.lt g hg).1)) (by omega) _ _ _⟩
        · rw [HS.out]
          have := own_set3 hown1 (fun e => hb1'.notOwn hown1 (by decide) e.symm) (.int .i64 q0) (.int .i64 q1) (.int .i64 q2)
          simpa [i32s] using this
        · rw [HS.out]
          exact hb1'.set3 _ _ _
      case measure => simp [intOf]; omega
    · obtain rfl : k = n := by omega
      rw [List.take_of_length_le (by rw [HN.out]; omega)] at hown hb1
      generalize hd : U.dec U.z l = r at hown hb1
      obtain ⟨⟨sn, sh, sa⟩, ys⟩ := r
      have HD := hide hd
      clear hd
      simp only [] at hown hb1
      obtain ⟨k0, k1, k2, k3, k4, k5⟩ := hb1.three
      obtain ⟨j0, j1, j2, j3, j4, j5⟩ := hb0.three
      go_wp2
      go_region
      all_goals go_wp2
      all_goals
        refine bodyPost_ret (v := .tuple #[u5, .agg #[.int .i64 sn, .int .i64 sh, .int .i64 sa]]) (by simp [results, Try.results9, go_sem, j0, j1, j2]) rfl ⟨u5, by rw [HD.out]; rfl, ?_, ?_⟩
      · rw [HD.out]
        exact own_set3 hown (fun e => hb0.notOwn hown (by decide) e.symm) _ _ _
      · exact (below_set3 hbel (Nat.le_refl _) _ _ _).drew
end Go.Proofs.Ytcbfibpomdhliaa
