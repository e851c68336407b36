/- Contracts of begin, into, Push: one byte of a decoder. -/
import Derived.Test.YtnnjppgmadmmaaaDoorUtfSmall
import Derived.Test.YtnnjppgmadmmaaaDoorLists
set_option maxRecDepth 100000
namespace Go.Proofs.YtnnjppgmadmmaaaDoor
open Go.RowKit
set_option linter.unusedVariables false

/-- the end of a call whose named result is a decoder, in the block that it laid first, where it appended -/
theorem step_end {base : Nat} {w w0 w1 : World} {v v' : Value} {n m g : Nat} {t t' : TypeId} {xs ys : List Value} {cs : Array Value} (p q u : Value) (hne : t ≠ t') (hbx : Box w1 g t' cs) (hw0 : w.grownBy w0 v.ownBlock) (hgw : w.heap.size ≤ g)
    (hown : w1.ownsRow base t 1 v' m ys) (hg : w0.grownBy w1 v.ownBlock) (hm : Moved w0 v v') (hmm : n + xs.length = m) {zs : List Value} (hz : zs ++ xs = ys) :
    (((w1.setCell ⟨g, 0, none⟩ p).setCell ⟨g, 1, none⟩ q).setCell ⟨g, 2, none⟩ u).ownsRow base t 1 v' (n + xs.length) (zs ++ xs) ∧
      w.grownBy (((w1.setCell ⟨g, 0, none⟩ p).setCell ⟨g, 1, none⟩ q).setCell ⟨g, 2, none⟩ u) v.ownBlock ∧ Moved w v v' := by
  have hno : v'.ownBlock ≠ some g := fun e => hbx.notOwn hown hne e.symm
  subst hz
  subst hmm
  refine ⟨own_setCell (own_setCell (own_setCell hown hno _) hno _) hno _, ?_, ?_⟩
  · exact grown_setCell (grown_setCell (grown_setCell (hw0.trans hg) hgw _) hgw _) hgw _
  · rcases hm with hm | ⟨k, h1, h2⟩
    · exact .inl hm
    · exact .inr ⟨k, h1, Nat.le_trans hw0.size h2⟩

set_option maxRecDepth 20000 in
set_option maxHeartbeats 400000 in
theorem begin_any (base : Nat) (v : Value) (n : Nat) (xs : List Value) (b : Int) (w : World) (hown : w.ownsRow base 21 1 v n xs) (hn : n ≤ 1099511627776) (hbase : base ≤ w.heap.size) (h0 : 0 ≤ b) (h1 : b < 256) :
    Calls Tryd.prog 73 #[v, .int .u8 b] w (Gave base 21 w v n xs (i32s (U.bg b).2) fun v' => .tuple #[(U.bg b).1.val, v']) := by
  obtain ⟨i0, hi, hz0, hz1, hz2⟩ := info_parts info_i32
  have cs : b < 128 ∨ (128 ≤ b ∧ b < 194) ∨ (194 ≤ b ∧ b < 224) ∨ (224 ≤ b ∧ b < 240) ∨ (240 ≤ b ∧ b ≤ 244) ∨ 244 < b := by omega
  rcases cs with h | h | h | h | h | h
  · have e : U.bg b = (U.z, [b]) := by unfold U.bg; repeat (first | rw [if_pos (by omega)] | rw [if_neg (by omega)])
    rw [e]
    clear e
    have hown' := own_alloc hown (.cells #[.int .i64 0, .int .i64 0, .int .i64 0] 63)
    go_enter Tryd.func73, Tryd.ntmps73
    go_wp2_with (at_builtin; go_must (refine wpList_app1 rfl (.tmp 10) (.tmp 13) 49 rfl base 21 i0 _ 4 Tryd.underlying49 hi hz0 hz1 hz2 rfl v n xs rfl hown' _ _ _ rfl (by simp) rfl (by omega) hn (by simp; omega) ?_); intro v' w1 hown1 hg1 hm1; have hbx := (Box.new w 63 #[.int .i64 0, .int .i64 0, .int .i64 0]).grown hg1 (fun e => by have := hown.lt _ e.symm; omega); obtain ⟨k0, k1, k2, k3, k4, k5⟩ := hbx.three)
    refine bodyPost_ret (v := .tuple #[U.z.val, v']) (by simp [results, Tryd.results73, go_sem, U.St.val, U.z, k0, k1, k2]) rfl ⟨v', rfl, ?_⟩
    exact step_end _ _ _ (by decide) hbx (World.grownBy_alloc w _ _) (Nat.le_refl _) hown1 hg1 hm1 rfl rfl
  · have e : U.bg b = (U.z, [65533]) := by unfold U.bg; repeat (first | rw [if_pos (by omega)] | rw [if_neg (by omega)])
    rw [e]
    clear e
    have hown' := own_alloc hown (.cells #[.int .i64 0, .int .i64 0, .int .i64 0] 63)
    go_enter Tryd.func73, Tryd.ntmps73
    go_wp2_with (at_builtin; go_must (refine wpList_app1 rfl (.tmp 52) (.tmp 53) 49 rfl base 21 i0 _ 4 Tryd.underlying49 hi hz0 hz1 hz2 rfl v n xs rfl hown' _ _ _ rfl (by simp) rfl (by omega) hn (by simp; omega) ?_); intro v' w1 hown1 hg1 hm1; have hbx := (Box.new w 63 #[.int .i64 0, .int .i64 0, .int .i64 0]).grown hg1 (fun e => by have := hown.lt _ e.symm; omega); obtain ⟨k0, k1, k2, k3, k4, k5⟩ := hbx.three)
    refine bodyPost_ret (v := .tuple #[U.z.val, v']) (by simp [results, Tryd.results73, go_sem, U.St.val, U.z, k0, k1, k2]) rfl ⟨v', rfl, ?_⟩
    exact step_end _ _ _ (by decide) hbx (World.grownBy_alloc w _ _) (Nat.le_refl _) hown1 hg1 hm1 rfl rfl
  · have e : U.bg b = (⟨2, 1, b - 192⟩, []) := by unfold U.bg; repeat (first | rw [if_pos (by omega)] | rw [if_neg (by omega)])
    rw [e]
    clear e
    have em := U.andNot192 b h0 h1
    have em' : bits .andNot .u8 b 192 = b - 192 := by omega
    have ew : wrap64 (b - 192) = b - 192 := IntWalk.wrap64_in _ ⟨by omega, by omega⟩
    have E := hide em'
    have EW := hide ew
    clear em em' ew
    go_enter Tryd.func73, Tryd.ntmps73
    go_wp2
    refine bodyPost_ret (v := .tuple #[(U.St.mk 2 1 (b - 192)).val, v]) (by simp [results, Tryd.results73, go_sem, U.St.val, E.out, EW.out]) rfl ⟨v, rfl, ?_⟩
    exact ⟨by simpa [i32s] using own_alloc hown _, World.grownBy_alloc w _ _, .inl rfl⟩
  · have e : U.bg b = (⟨3, 1, b - 224⟩, []) := by unfold U.bg; repeat (first | rw [if_pos (by omega)] | rw [if_neg (by omega)])
    rw [e]
    clear e
    have em := U.andNot224 b h0 h1
    have em' : bits .andNot .u8 b 224 = b - 224 := by omega
    have ew : wrap64 (b - 224) = b - 224 := IntWalk.wrap64_in _ ⟨by omega, by omega⟩
    have E := hide em'
    have EW := hide ew
    clear em em' ew
    go_enter Tryd.func73, Tryd.ntmps73
    go_wp2
    refine bodyPost_ret (v := .tuple #[(U.St.mk 3 1 (b - 224)).val, v]) (by simp [results, Tryd.results73, go_sem, U.St.val, E.out, EW.out]) rfl ⟨v, rfl, ?_⟩
    exact ⟨by simpa [i32s] using own_alloc hown _, World.grownBy_alloc w _ _, .inl rfl⟩
  · have e : U.bg b = (⟨4, 1, b - 240⟩, []) := by unfold U.bg; repeat (first | rw [if_pos (by omega)] | rw [if_neg (by omega)])
    rw [e]
    clear e
    have em := U.andNot240 b h0 h1
    have em' : bits .andNot .u8 b 240 = b - 240 := by omega
    have ew : wrap64 (b - 240) = b - 240 := IntWalk.wrap64_in _ ⟨by omega, by omega⟩
    have E := hide em'
    have EW := hide ew
    clear em em' ew
    go_enter Tryd.func73, Tryd.ntmps73
    go_wp2
    refine bodyPost_ret (v := .tuple #[(U.St.mk 4 1 (b - 240)).val, v]) (by simp [results, Tryd.results73, go_sem, U.St.val, E.out, EW.out]) rfl ⟨v, rfl, ?_⟩
    exact ⟨by simpa [i32s] using own_alloc hown _, World.grownBy_alloc w _ _, .inl rfl⟩
  · have e : U.bg b = (U.z, [65533]) := by unfold U.bg; repeat (first | rw [if_pos (by omega)] | rw [if_neg (by omega)])
    rw [e]
    clear e
    have hown' := own_alloc hown (.cells #[.int .i64 0, .int .i64 0, .int .i64 0] 63)
    go_enter Tryd.func73, Tryd.ntmps73
    go_wp2_with (at_builtin; go_must (refine wpList_app1 rfl (.tmp 52) (.tmp 53) 49 rfl base 21 i0 _ 4 Tryd.underlying49 hi hz0 hz1 hz2 rfl v n xs rfl hown' _ _ _ rfl (by simp) rfl (by omega) hn (by simp; omega) ?_); intro v' w1 hown1 hg1 hm1; have hbx := (Box.new w 63 #[.int .i64 0, .int .i64 0, .int .i64 0]).grown hg1 (fun e => by have := hown.lt _ e.symm; omega); obtain ⟨k0, k1, k2, k3, k4, k5⟩ := hbx.three)
    refine bodyPost_ret (v := .tuple #[U.z.val, v']) (by simp [results, Tryd.results73, go_sem, U.St.val, U.z, k0, k1, k2]) rfl ⟨v', rfl, ?_⟩
    exact step_end _ _ _ (by decide) hbx (World.grownBy_alloc w _ _) (Nat.le_refl _) hown1 hg1 hm1 rfl rfl
end Go.Proofs.YtnnjppgmadmmaaaDoor
