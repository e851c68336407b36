/- Contracts of package utf's functions on single numbers. Contracts of begin, into, Push: one byte of a decoder. The contract of into: one byte of a decoder. The contract of Push: one byte of a decoder, its runes in a new list. -/
import Derived.Test.YtnnjppgmadmmaaaDoorLib
import Derived.Test.YtnnjppgmadmmaaaDoorUtfSpec
import Derived.Test.YtnnjppgmadmmaaaDoorBits
import Derived.Test.YtnnjppgmadmmaaaDoorLists
import Derived.Test.YtnnjppgmadmmaaaDoorRows
import Derived.WalkSpells
import Derived.WalkLawsBesides
import Derived.BigQuiet
import Derived.Deep.QuietTactic
import Derived.RegionTactic
import Derived.BigRegion
set_option maxRecDepth 100000
namespace Go.Proofs.YtnnjppgmadmmaaaDoor
open Go.RowKit
theorem ret_int {k : IntKind} {a b : Int} (h : a = b) : Ending.returned (.int k a) = .returned (.int k b) := by rw [h]
theorem ret_int_of {k : IntKind} {a b : Int} (h : a = b) : Ending.returned (.int k a) = .returned (.int k b) := by rw [h]
theorem ret_bool {a b : Bool} (h : a = b) : Ending.returned (.bool a) = .returned (.bool b) := by rw [h]

set_option maxHeartbeats 400000 in
theorem isRune_any (n : Int) (w : World) : Calls Tryd.prog 61 #[.int .i64 n] w fun e w' => e = .returned (.bool (U.isR n)) ∧ w = w' := by
  have cs : n < 0 ∨ 1114111 < n ∨ (0 ≤ n ∧ n < 55296) ∨ (55296 ≤ n ∧ n ≤ 57343) ∨ (57343 < n ∧ n ≤ 1114111) := by omega
  have hr : ∀ b : Bool, (b = true ↔ (0 ≤ n ∧ n ≤ 1114111 ∧ (n < 55296 ∨ 57343 < n))) → Ending.returned (.bool b) = .returned (.bool (U.isR n)) := fun b hb => ret_bool (by unfold U.isR; rw [Bool.eq_iff_iff, hb, decide_eq_true_iff])
  have HR := Lib.hid hr
  clear hr
  rcases cs with h | h | h | h | h
  all_goals
    go_enter Tryd.func61, Tryd.ntmps61
    go_wp2
    go_ret
    exact ⟨HR.out _ (by simp; omega), rfl⟩
set_option maxHeartbeats 400000 in
theorem size_any (r : Int) (w : World) : Calls Tryd.prog 62 #[.int .i32 r] w fun e w' => e = .returned (.int .i64 (U.sz r)) ∧ w = w' := by
  have hr : ∀ k : Int, U.sz r = k → Ending.returned (.int .i64 k) = .returned (.int .i64 (U.sz r)) := fun k hb => ret_int hb.symm
  have HR := Lib.hid hr
  clear hr
  have cs : r < 128 ∨ (128 ≤ r ∧ r < 2048) ∨ (2048 ≤ r ∧ r < 65536) ∨ 65536 ≤ r := by omega
  rcases cs with h | h | h | h
  all_goals
    go_enter Tryd.func62, Tryd.ntmps62
    go_wp2
    go_ret
    exact ⟨HR.out _ (by unfold U.sz; repeat (first | rw [if_pos (by omega)] | rw [if_neg (by omega)])), rfl⟩
set_option maxHeartbeats 400000 in
theorem held_any (s : U.St) (w : World) : Calls Tryd.prog 39 #[s.val] w fun e w' => e = .returned (.bool (decide (0 < s.need))) ∧ w.alloc (.cells #[.int .i64 s.need, .int .i64 s.have_, .int .i64 s.acc] 63) = w' := by
  unfold U.St.val
  go_enter Tryd.func39, Tryd.ntmps39
  go_wp2
  go_ret
  exact ⟨rfl, rfl⟩
set_option maxHeartbeats 400000 in
theorem whole_any (need acc : Int) (h0 : 0 ≤ acc) (h1 : acc < 2147483648) (w : World) : Calls Tryd.prog 74 #[.int .i64 need, .int .i64 acc] w fun e w' => e = .returned (.int .i32 (U.wh need acc)) ∧ w = w' := by
  have hr : ∀ k : Int, U.wh need acc = k → Ending.returned (.int .i32 k) = .returned (.int .i32 (U.wh need acc)) := fun k hb => ret_int hb.symm
  have HR := Lib.hid hr
  clear hr
  have ci := isRune_any acc
  have cz := size_any acc
  rcases hi : U.isR acc with _ | _
  · have HW : Hid (U.wh need acc = 65533) := by simp [Hid, U.wh, hi]
    rw [hi] at ci
    clear hi
    have CI := Lib.hid ci
    clear ci cz
    go_enter Tryd.func74, Tryd.ntmps74
    go_wp2_with (go_at_call 61; refine (CI.out _).mono ?_; rintro e w' ⟨rfl, rfl⟩)
    go_ret
    exact ⟨HR.out _ HW.out, rfl⟩
  · by_cases hz : U.sz acc = need
    · have HW : Hid (U.wh need acc = acc) := by simp [Hid, U.wh, hi, hz]
      rw [hi] at ci
      rw [hz] at cz
      clear hi hz
      have CI := Lib.hid ci
      have CZ := Lib.hid cz
      clear ci cz
      go_enter Tryd.func74, Tryd.ntmps74
      go_wp2_with (first | (go_at_call 61; refine (CI.out _).mono ?_; rintro e w' ⟨rfl, rfl⟩) | (go_at_call 62; refine (CZ.out _).mono ?_; rintro e w' ⟨rfl, rfl⟩))
      go_ret
      exact ⟨HR.out _ HW.out, rfl⟩
    · have HW : Hid (U.wh need acc = 65533) := by simp [Hid, U.wh, hz]
      rw [hi] at ci
      generalize U.sz acc = q at cz hz
      clear hi
      have CI := Lib.hid ci
      have CZ := Lib.hid cz
      clear ci cz
      go_enter Tryd.func74, Tryd.ntmps74
      go_wp2_with (first | (go_at_call 61; refine (CI.out _).mono ?_; rintro e w' ⟨rfl, rfl⟩) | (go_at_call 62; refine (CZ.out _).mono ?_; rintro e w' ⟨rfl, rfl⟩))
      go_ret
      exact ⟨HR.out _ HW.out, rfl⟩
end Go.Proofs.YtnnjppgmadmmaaaDoor
set_option maxRecDepth 100000
namespace Go.Proofs.YtnnjppgmadmmaaaDoor
open Go.RowKit
set_option linter.unusedVariables false

/-- the end of a call whose named result is a decoder, in the block that it laid first, where it appended -/
theorem step_end {base : Nat} {w w0 w1 : World} {v v' : Value} {n m g : Nat} {t t' : TypeId} {xs ys : List Value} {cs : Array Value} (p q u : Value) (hne : t ≠ t') (hbx : Box w1 g t' cs) (hw0 : w.grownBy w0 v.ownBlock) (hgw : w.heap.size ≤ g)
    (hown : w1.ownsRow base t 1 v' m ys) (hg : w0.grownBy w1 v.ownBlock) (hm : Moved w0 v v') (hmm : n + xs.length = m) {zs : List Value} (hz : zs ++ xs = ys) :
    (((w1.setCell ⟨g, 0, none⟩ p).setCell ⟨g, 1, none⟩ q).setCell ⟨g, 2, none⟩ u).ownsRow base t 1 v' (n + xs.length) (zs ++ xs) ∧
      w.grownBy (((w1.setCell ⟨g, 0, none⟩ p).setCell ⟨g, 1, none⟩ q).setCell ⟨g, 2, none⟩ u) v.ownBlock ∧ Moved w v v' := by
  have hno : v'.ownBlock ≠ some g := fun e => hbx.notOwn hown hne e.symm
  subst hz
  subst hmm
  refine ⟨own_setCell (own_setCell (own_setCell hown hno _) hno _) hno _, ?_, ?_⟩
  · exact grown_setCell (grown_setCell (grown_setCell (hw0.trans hg) hgw _) hgw _) hgw _
  · rcases hm with hm | ⟨k, h1, h2⟩
    · exact .inl hm
    · exact .inr ⟨k, h1, Nat.le_trans hw0.size h2⟩

set_option maxRecDepth 20000 in
set_option maxHeartbeats 400000 in
theorem begin_any (base : Nat) (v : Value) (n : Nat) (xs : List Value) (b : Int) (w : World) (hown : w.ownsRow base 21 1 v n xs) (hn : n ≤ 1099511627776) (hbase : base ≤ w.heap.size) (h0 : 0 ≤ b) (h1 : b < 256) :
    Calls Tryd.prog 73 #[v, .int .u8 b] w (Gave base 21 w v n xs (i32s (U.bg b).2) fun v' => .tuple #[(U.bg b).1.val, v']) := by
  obtain ⟨i0, hi, hz0, hz1, hz2⟩ := info_parts info_i32
  have cs : b < 128 ∨ (128 ≤ b ∧ b < 194) ∨ (194 ≤ b ∧ b < 224) ∨ (224 ≤ b ∧ b < 240) ∨ (240 ≤ b ∧ b ≤ 244) ∨ 244 < b := by omega
  rcases cs with h | h | h | h | h | h
  · have e : U.bg b = (U.z, [b]) := by unfold U.bg; repeat (first | rw [if_pos (by omega)] | rw [if_neg (by omega)])
    rw [e]
    clear e
    have hown' := own_alloc hown (.cells #[.int .i64 0, .int .i64 0, .int .i64 0] 63)
    go_enter Tryd.func73, Tryd.ntmps73
    go_wp2_with (at_builtin; go_must (refine wpList_app1 rfl (.tmp 10) (.tmp 13) 49 rfl base 21 i0 _ 4 Tryd.underlying49 hi hz0 hz1 hz2 rfl v n xs rfl hown' _ _ _ rfl (by simp) rfl (by omega) hn (by simp; omega) ?_); intro v' w1 hown1 hg1 hm1; have hbx := (Box.new w 63 #[.int .i64 0, .int .i64 0, .int .i64 0]).grown hg1 (fun e => by have := hown.lt _ e.symm; omega); obtain ⟨k0, k1, k2, k3, k4, k5⟩ := hbx.three)
    refine bodyPost_ret (v := .tuple #[U.z.val, v']) (by simp [results, Tryd.results73, go_sem, U.St.val, U.z, k0, k1, k2]) rfl ⟨v', rfl, ?_⟩
    exact step_end _ _ _ (by decide) hbx (World.grownBy_alloc w _ _) (Nat.le_refl _) hown1 hg1 hm1 rfl rfl
  · have e : U.bg b = (U.z, [65533]) := by unfold U.bg; repeat (first | rw [if_pos (by omega)] | rw [if_neg (by omega)])
    rw [e]
    clear e
    have hown' := own_alloc hown (.cells #[.int .i64 0, .int .i64 0, .int .i64 0] 63)
    go_enter Tryd.func73, Tryd.ntmps73
    go_wp2_with (at_builtin; go_must (refine wpList_app1 rfl (.tmp 52) (.tmp 53) 49 rfl base 21 i0 _ 4 Tryd.underlying49 hi hz0 hz1 hz2 rfl v n xs rfl hown' _ _ _ rfl (by simp) rfl (by omega) hn (by simp; omega) ?_); intro v' w1 hown1 hg1 hm1; have hbx := (Box.new w 63 #[.int .i64 0, .int .i64 0, .int .i64 0]).grown hg1 (fun e => by have := hown.lt _ e.symm; omega); obtain ⟨k0, k1, k2, k3, k4, k5⟩ := hbx.three)
    refine bodyPost_ret (v := .tuple #[U.z.val, v']) (by simp [results, Tryd.results73, go_sem, U.St.val, U.z, k0, k1, k2]) rfl ⟨v', rfl, ?_⟩
    exact step_end _ _ _ (by decide) hbx (World.grownBy_alloc w _ _) (Nat.le_refl _) hown1 hg1 hm1 rfl rfl
  · have e : U.bg b = (⟨2, 1, b - 192⟩, []) := by unfold U.bg; repeat (first | rw [if_pos (by omega)] | rw [if_neg (by omega)])
    rw [e]
    clear e
    have em := U.andNot192 b h0 h1
    have em' : bits .andNot .u8 b 192 = b - 192 := by omega
    have ew : wrap64 (b - 192) = b - 192 := IntWalk.wrap64_in _ ⟨by omega, by omega⟩
    have E := hide em'
    have EW := hide ew
    clear em em' ew
    go_enter Tryd.func73, Tryd.ntmps73
    go_wp2
    refine bodyPost_ret (v := .tuple #[(U.St.mk 2 1 (b - 192)).val, v]) (by simp [results, Tryd.results73, go_sem, U.St.val, E.out, EW.out]) rfl ⟨v, rfl, ?_⟩
    exact ⟨by simpa [i32s] using own_alloc hown _, World.grownBy_alloc w _ _, .inl rfl⟩
  · have e : U.bg b = (⟨3, 1, b - 224⟩, []) := by unfold U.bg; repeat (first | rw [if_pos (by omega)] | rw [if_neg (by omega)])
    rw [e]
    clear e
    have em := U.andNot224 b h0 h1
    have em' : bits .andNot .u8 b 224 = b - 224 := by omega
    have ew : wrap64 (b - 224) = b - 224 := IntWalk.wrap64_in _ ⟨by omega, by omega⟩
    have E := hide em'
    have EW := hide ew
    clear em em' ew
    go_enter Tryd.func73, Tryd.ntmps73
    go_wp2
    refine bodyPost_ret (v := .tuple #[(U.St.mk 3 1 (b - 224)).val, v]) (by simp [results, Tryd.results73, go_sem, U.St.val, E.out, EW.out]) rfl ⟨v, rfl, ?_⟩
    exact ⟨by simpa [i32s] using own_alloc hown _, World.grownBy_alloc w _ _, .inl rfl⟩
  · have e : U.bg b = (⟨4, 1, b - 240⟩, []) := by unfold U.bg; repeat (first | rw [if_pos (by omega)] | rw [if_neg (by omega)])
    rw [e]
    clear e
    have em := U.andNot240 b h0 h1
    have em' : bits .andNot .u8 b 240 = b - 240 := by omega
    have ew : wrap64 (b - 240) = b - 240 := IntWalk.wrap64_in _ ⟨by omega, by omega⟩
    have E := hide em'
    have EW := hide ew
    clear em em' ew
    go_enter Tryd.func73, Tryd.ntmps73
    go_wp2
    refine bodyPost_ret (v := .tuple #[(U.St.mk 4 1 (b - 240)).val, v]) (by simp [results, Tryd.results73, go_sem, U.St.val, E.out, EW.out]) rfl ⟨v, rfl, ?_⟩
    exact ⟨by simpa [i32s] using own_alloc hown _, World.grownBy_alloc w _ _, .inl rfl⟩
  · have e : U.bg b = (U.z, [65533]) := by unfold U.bg; repeat (first | rw [if_pos (by omega)] | rw [if_neg (by omega)])
    rw [e]
    clear e
    have hown' := own_alloc hown (.cells #[.int .i64 0, .int .i64 0, .int .i64 0] 63)
    go_enter Tryd.func73, Tryd.ntmps73
    go_wp2_with (at_builtin; go_must (refine wpList_app1 rfl (.tmp 52) (.tmp 53) 49 rfl base 21 i0 _ 4 Tryd.underlying49 hi hz0 hz1 hz2 rfl v n xs rfl hown' _ _ _ rfl (by simp) rfl (by omega) hn (by simp; omega) ?_); intro v' w1 hown1 hg1 hm1; have hbx := (Box.new w 63 #[.int .i64 0, .int .i64 0, .int .i64 0]).grown hg1 (fun e => by have := hown.lt _ e.symm; omega); obtain ⟨k0, k1, k2, k3, k4, k5⟩ := hbx.three)
    refine bodyPost_ret (v := .tuple #[U.z.val, v']) (by simp [results, Tryd.results73, go_sem, U.St.val, U.z, k0, k1, k2]) rfl ⟨v', rfl, ?_⟩
    exact step_end _ _ _ (by decide) hbx (World.grownBy_alloc w _ _) (Nat.le_refl _) hown1 hg1 hm1 rfl rfl
end Go.Proofs.YtnnjppgmadmmaaaDoor
set_option maxRecDepth 100000
namespace Go.Proofs.YtnnjppgmadmmaaaDoor
open Go.RowKit
set_option linter.unusedVariables false

set_option maxHeartbeats 400000 in
theorem into_A (base : Nat) (v : Value) (n : Nat) (xs : List Value) (s : U.St) (b : Int) (w : World) (hown : w.ownsRow base 21 1 v n xs) (hn : n ≤ 1099511627776) (hbase : base ≤ w.heap.size) (h0 : 0 ≤ b) (h1 : b < 256) (hs : s.need ≤ 0) :
    Calls Tryd.prog 68 #[s.val, v, .int .u8 b] w (Gave base 21 w v n xs (i32s (U.it s b).2) fun v' => .tuple #[(U.it s b).1.val, v']) := by
  have e : U.it s b = U.bg b := by unfold U.it; rw [if_pos hs]
  rw [e]
  clear e
  have ch := held_any s
  have eh : decide (0 < s.need) = false := decide_eq_false (by omega)
  have cb := fun w' ho hb' => begin_any base v n xs b w' ho hn hb' h0 h1
  generalize U.bg b = r at cb
  obtain ⟨⟨q0, q1, q2⟩, l⟩ := r
  obtain ⟨sn, sh, sa⟩ := s
  simp only [U.St.val] at cb ch eh ⊢
  rw [eh] at ch
  clear eh hs
  have CB := hide cb
  have CH := hide ch
  clear cb ch
  go_enter Tryd.func68, Tryd.ntmps68
  go_wp2_with (first
    | (go_at_call 39; go_must (refine (CH.out _).mono ?_); rintro e w' ⟨rfl, rfl⟩)
    | (go_at_call 73; go_must (refine (CB.out _ (((hown.alloc _).alloc _).alloc _) (by simp; omega)).mono ?_); rintro e w1 ⟨v', rfl, hown1, hg1, hm1⟩; have hbx := (((Box.new (w.alloc _) 63 #[.int .i64 0, .int .i64 0, .int .i64 0]).alloc _).grown hg1 (fun e => by have := hown.lt _ e.symm; simp at this; omega)); rw [show (w.alloc (.cells #[.int .i64 sn, .int .i64 sh, .int .i64 sa] 63)).heap.size = w.heap.size + 1 from by simp] at hbx; obtain ⟨k0, k1, k2, k3, k4, k5⟩ := hbx.three))
  refine bodyPost_ret (v := .tuple #[.agg #[.int .i64 q0, .int .i64 q1, .int .i64 q2], v']) (by simp [results, Tryd.results68, go_sem, k0, k1, k2]) rfl ⟨v', rfl, ?_⟩
  exact step_end _ _ _ (by decide) hbx (grown_alloc (grown_alloc (World.grownBy_alloc w _ _) _) _) (by omega) hown1 hg1 hm1 rfl rfl

set_option maxHeartbeats 400000 in
theorem into_C (base : Nat) (v : Value) (n : Nat) (xs : List Value) (s : U.St) (b : Int) (w : World) (hown : w.ownsRow base 21 1 v n xs) (hn : n ≤ 1099511627776) (hbase : base ≤ w.heap.size) (h0 : 128 ≤ b) (h1 : b < 192) (hs : 0 < s.need) (hso : s.ok) (hm : s.have_ + 1 < s.need) :
    Calls Tryd.prog 68 #[s.val, v, .int .u8 b] w (Gave base 21 w v n xs (i32s (U.it s b).2) fun v' => .tuple #[(U.it s b).1.val, v']) := by
  have e : U.it s b = (⟨s.need, s.have_ + 1, s.acc * 64 + (b - 128)⟩, []) := by unfold U.it; rw [if_neg (by omega), if_neg (by omega), if_pos hm]
  rw [e]
  clear e
  have bd := hso.bd
  have ch := held_any s
  have eh : decide (0 < s.need) = true := decide_eq_true hs
  obtain ⟨sn, sh, sa⟩ := s
  simp only [U.St.val] at ch eh ⊢
  simp only [] at bd hs hm
  rw [eh] at ch
  clear eh hso
  have CH := hide ch
  have em := U.andNot63 b (by omega) (by omega)
  have em' : bits .andNot .u8 b 63 = 128 := by omega
  have en := U.and63 b (by omega) (by omega)
  have en' : bits .and .u8 b 63 = b - 128 := by omega
  have eo := i64_join 6 (sa * 64) (b - 128) (by omega) (by omega) (by omega) (by omega) (by omega)
  clear ch em en
  go_enter Tryd.func68, Tryd.ntmps68
  go_wp2_with (first
    | (go_at_call 39; go_must (refine (CH.out _).mono ?_); rintro e w' ⟨rfl, rfl⟩))
  refine bodyPost_ret (v := .tuple #[.agg #[.int .i64 sn, .int .i64 (sh + 1), .int .i64 (sa * 64 + (b - 128))], v]) (by simp [results, Tryd.results68, go_sem]) rfl ⟨v, rfl, ?_⟩
  exact ⟨by simpa [i32s] using ((hown.alloc _).alloc _).alloc _, grown_alloc (grown_alloc (World.grownBy_alloc w _ _) _) _, .inl rfl⟩

set_option maxHeartbeats 400000 in
theorem into_D (base : Nat) (v : Value) (n : Nat) (xs : List Value) (s : U.St) (b : Int) (w : World) (hown : w.ownsRow base 21 1 v n xs) (hn : n ≤ 1099511627776) (hbase : base ≤ w.heap.size) (h0 : 128 ≤ b) (h1 : b < 192) (hs : 0 < s.need) (hso : s.ok) (hm : s.need ≤ s.have_ + 1) :
    Calls Tryd.prog 68 #[s.val, v, .int .u8 b] w (Gave base 21 w v n xs (i32s (U.it s b).2) fun v' => .tuple #[(U.it s b).1.val, v']) := by
  obtain ⟨i0, hi, hz0, hz1, hz2⟩ := info_parts info_i32
  have e : U.it s b = (U.z, [U.wh s.need (s.acc * 64 + (b - 128))]) := by unfold U.it; rw [if_neg (by omega), if_neg (by omega), if_neg (by omega)]
  rw [e]
  clear e
  have bd := hso.bd
  have ch := held_any s
  have eh : decide (0 < s.need) = true := decide_eq_true hs
  obtain ⟨sn, sh, sa⟩ := s
  simp only [U.St.val] at ch eh ⊢
  simp only [] at bd hs hm
  rw [eh] at ch
  clear eh hso
  have CH := hide ch
  have em := U.andNot63 b (by omega) (by omega)
  have em' : bits .andNot .u8 b 63 = 128 := by omega
  have en := U.and63 b (by omega) (by omega)
  have en' : bits .and .u8 b 63 = b - 128 := by omega
  have eo := i64_join 6 (sa * 64) (b - 128) (by omega) (by omega) (by omega) (by omega) (by omega)
  have ha0 : 0 ≤ sa * 64 + (b - 128) := by omega
  have ha1 : sa * 64 + (b - 128) < 2147483648 := by omega
  generalize sa * 64 + (b - 128) = A at eo ha0 ha1 ⊢
  have CW := hide (whole_any sn A ha0 ha1)
  generalize U.wh sn A = R at CW ⊢
  have howna := fun o1 o2 o3 => own_alloc (own_alloc (own_alloc hown o1) o2) o3
  have HO := hide howna
  clear ch em en howna
  go_enter Tryd.func68, Tryd.ntmps68
  go_wp2_with (first
    | (go_at_call 39; go_must (refine (CH.out _).mono ?_); rintro e w' ⟨rfl, rfl⟩)
    | (go_at_call 74; go_must (refine (CW.out _).mono ?_); rintro e w' ⟨rfl, rfl⟩)
    | (at_builtin; go_must (refine wpList_app1 rfl (.tmp 46) (.tmp 52) 49 rfl base 21 i0 _ 4 Tryd.underlying49 hi hz0 hz1 hz2 rfl v n xs rfl (HO.out _ _ _) _ _ _ rfl (by simp) rfl (by omega) hn (by simp; omega) ?_); intro v' w1 hown1 hg1 hm1; have hbx := (((Box.new (w.alloc _) 63 #[.int .i64 0, .int .i64 0, .int .i64 0]).alloc _).grown hg1 (fun e => by have := hown.lt _ e.symm; simp at this; omega)); rw [World.size_alloc] at hbx; obtain ⟨k0, k1, k2, k3, k4, k5⟩ := hbx.three))
  refine bodyPost_ret (v := .tuple #[U.z.val, v']) (by simp [results, Tryd.results68, go_sem, U.z, U.St.val, k0, k1, k2]) rfl ⟨v', rfl, ?_⟩
  exact step_end _ _ _ (by decide) hbx (grown_alloc (grown_alloc (World.grownBy_alloc w _ _) _) _) (by omega) hown1 hg1 hm1 rfl rfl

set_option maxHeartbeats 400000 in
theorem into_B (base : Nat) (v : Value) (n : Nat) (xs : List Value) (s : U.St) (b : Int) (w : World) (hown : w.ownsRow base 21 1 v n xs) (hn : n ≤ 1099511627775) (hbase : base ≤ w.heap.size) (h0 : 0 ≤ b) (h1 : b < 256) (hs : 0 < s.need) (hb : b < 128 ∨ 192 ≤ b) :
    Calls Tryd.prog 68 #[s.val, v, .int .u8 b] w (Gave base 21 w v n xs (i32s (U.it s b).2) fun v' => .tuple #[(U.it s b).1.val, v']) := by
  obtain ⟨i0, hi, hz0, hz1, hz2⟩ := info_parts info_i32
  have e : U.it s b = ((U.bg b).1, 65533 :: (U.bg b).2) := by unfold U.it; rw [if_neg (by omega), if_pos hb]
  rw [e]
  clear e
  have ch := held_any s
  have eh : decide (0 < s.need) = true := decide_eq_true hs
  have cb := fun v w' n xs (hn : n ≤ 1099511627776) ho hb' => begin_any base v n xs b w' ho hn hb' h0 h1
  generalize U.bg b = r at cb
  obtain ⟨⟨q0, q1, q2⟩, l⟩ := r
  obtain ⟨sn, sh, sa⟩ := s
  simp only [U.St.val] at cb ch eh ⊢
  rw [eh] at ch
  clear eh hs
  have CB := hide cb
  have CH := hide ch
  have em := U.andNot63 b h0 h1
  have hc : b - b % 64 < 128 ∨ 128 < b - b % 64 := by omega
  generalize b - b % 64 = c at em hc
  have HO := hide (fun o1 o2 o3 => own_alloc (own_alloc (own_alloc hown o1) o2) o3)
  clear cb ch
  rcases hc with hc | hc
  all_goals
    go_enter Tryd.func68, Tryd.ntmps68
    go_wp2_with (first
      | (go_at_call 39; go_must (refine (CH.out _).mono ?_); rintro e w' ⟨rfl, rfl⟩)
      | (at_builtin; go_must (refine wpList_app1 rfl (.tmp 19) (.tmp 20) 49 rfl base 21 i0 _ 4 Tryd.underlying49 hi hz0 hz1 hz2 rfl v n xs rfl (HO.out _ _ _) _ _ _ rfl (by simp) rfl (by omega) (by omega) (by simp; omega) ?_); intro v1 w1 hown1 hg1 hm1)
      | (go_at_call 73; go_must (refine (CB.out _ _ _ _ (by omega) hown1 (by have := hg1.size; simp at this; omega)).mono ?_); rintro e w2 ⟨v', rfl, hown2, hg2, hm2⟩; have hbx := ((((Box.new (w.alloc _) 63 #[.int .i64 0, .int .i64 0, .int .i64 0]).alloc _).grown hg1 (fun e => by have := hown.lt _ e.symm; simp at this; omega)).grown hg2 (Box.notOwn (((Box.new (w.alloc _) 63 #[.int .i64 0, .int .i64 0, .int .i64 0]).alloc _).grown hg1 (fun e => by have := hown.lt _ e.symm; simp at this; omega)) hown1 (by decide))); rw [World.size_alloc] at hbx; obtain ⟨k0, k1, k2, k3, k4, k5⟩ := hbx.three))
    refine bodyPost_ret (v := .tuple #[.agg #[.int .i64 q0, .int .i64 q1, .int .i64 q2], v']) (by simp [results, Tryd.results68, go_sem, k0, k1, k2]) rfl ⟨v', rfl, ?_⟩
    exact step_end _ _ _ (by decide) hbx (grown_alloc (grown_alloc (World.grownBy_alloc w _ _) _) _) (by omega) hown2 (grown_trans_moved hg1 hm1 hg2) (hm1.trans hm2 hg1.size) (by simp [i32s]; omega) (by simp [i32s])

theorem into_any (base : Nat) (v : Value) (n : Nat) (xs : List Value) (s : U.St) (b : Int) (w : World) (hown : w.ownsRow base 21 1 v n xs) (hn : n ≤ 1099511627775) (hbase : base ≤ w.heap.size) (h0 : 0 ≤ b) (h1 : b < 256) (hso : s.ok) :
    Calls Tryd.prog 68 #[s.val, v, .int .u8 b] w (Gave base 21 w v n xs (i32s (U.it s b).2) fun v' => .tuple #[(U.it s b).1.val, v']) := by
  by_cases hs : s.need ≤ 0
  · exact into_A base v n xs s b w hown (by omega) hbase h0 h1 hs
  · by_cases hb : b < 128 ∨ 192 ≤ b
    · exact into_B base v n xs s b w hown hn hbase h0 h1 (by omega) hb
    · by_cases hm : s.have_ + 1 < s.need
      · exact into_C base v n xs s b w hown (by omega) hbase (by omega) (by omega) (by omega) hso hm
      · exact into_D base v n xs s b w hown (by omega) hbase (by omega) (by omega) (by omega) hso (by omega)
end Go.Proofs.YtnnjppgmadmmaaaDoor
set_option maxRecDepth 100000
namespace Go.Proofs.YtnnjppgmadmmaaaDoor
open Go.RowKit
set_option linter.unusedVariables false

/-- What Push leaves. -/
def Pushed (w : World) (s : U.St) (l : List Int) (e : Ending) (w' : World) : Prop :=
  ∃ v', e = .returned (.tuple #[s.val, v']) ∧ w'.ownsRow w.heap.size 21 1 v' l.length (i32s l) ∧ Below w.heap.size w w'
theorem own_base {w : World} {base base' n : Nat} {e : TypeId} {v : Value} {xs : List Value} (h : w.ownsRow base e 1 v n xs) (hb : base' ≤ base) : w.ownsRow base' e 1 v n xs := by
  refine ⟨h.1, ?_⟩
  rcases h.2 with h | ⟨g, cap, cur, hv, hg, r⟩
  · exact .inl h
  · exact .inr ⟨g, cap, cur, hv, by omega, r⟩

set_option maxHeartbeats 400000 in
theorem push_any (s : U.St) (b : Int) (w : World) (h0 : 0 ≤ b) (h1 : b < 256) (hso : s.ok) :
    Calls Tryd.prog 65 #[s.val, .int .u8 b] w (Pushed w (U.it s b).1 (U.it s b).2) := by
  have ci := fun w' hb => into_any w.heap.size (.slice none 0 0) 0 [] s b w' (World.ownsRow_nil _ _ _ _) (by omega) hb h0 h1 hso
  generalize U.it s b = r at ci ⊢
  obtain ⟨⟨q0, q1, q2⟩, l⟩ := r
  obtain ⟨sn, sh, sa⟩ := s
  simp only [U.St.val] at ci ⊢
  clear hso
  have CI := hide ci
  clear ci
  go_enter Tryd.func65, Tryd.ntmps65
  go_wp2_with (go_at_call 68; go_must (refine (CI.out _ (by simp; omega)).mono ?_); rintro e w1 ⟨v', rfl, hown1, hg1, hm1⟩; have hbx := (Box.new (w.alloc (.cells #[.int .i64 sn, .int .i64 sh, .int .i64 sa] 63)) 63 #[.int .i64 0, .int .i64 0, .int .i64 0]).grown hg1 (by simp [Value.ownBlock]); rw [World.size_alloc] at hbx; obtain ⟨k0, k1, k2, k3, k4, k5⟩ := hbx.three)
  refine bodyPost_ret (v := .tuple #[.agg #[.int .i64 q0, .int .i64 q1, .int .i64 q2], v']) (by simp [results, Tryd.results65, go_sem, k0, k1, k2]) rfl ⟨v', rfl, ?_⟩
  have R := step_end (n := 0) (zs := []) (.int .i64 q0) (.int .i64 q1) (.int .i64 q2) (by decide) hbx (grown_alloc (World.grownBy_alloc w _ _) _) (by omega) hown1 hg1 hm1 rfl rfl
  exact ⟨by simpa [i32s] using R.1, below_of_grown R.2.1 (Nat.le_refl _) (by simp [Value.ownBlock])⟩

end Go.Proofs.YtnnjppgmadmmaaaDoor
