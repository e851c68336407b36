/- The contract of into: one byte of a decoder. -/
import Derived.Test.YtnnjppgmadmmaaaDoorUtfBegin
set_option maxRecDepth 100000
namespace Go.Proofs.YtnnjppgmadmmaaaDoor
open Go.RowKit
set_option linter.unusedVariables false

set_option maxHeartbeats 400000 in
theorem into_A (base : Nat) (v : Value) (n : Nat) (xs : List Value) (s : U.St) (b : Int) (w : World) (hown : w.ownsRow base 21 1 v n xs) (hn : n ≤ 1099511627776) (hbase : base ≤ w.heap.size) (h0 : 0 ≤ b) (h1 : b < 256) (hs : s.need ≤ 0) :
    Calls Tryd.prog 68 #[s.val, v, .int .u8 b] w (Gave base 21 w v n xs (i32s (U.it s b).2) fun v' => .tuple #[(U.it s b).1.val, v']) := by
  have e : U.it s b = U.bg b := by unfold U.it; rw [if_pos hs]
  rw [e]
  clear e
  have ch := held_any s
  have eh : decide (0 < s.need) = false := decide_eq_false (by omega)
  have cb := fun w' ho hb' => begin_any base v n xs b w' ho hn hb' h0 h1
  generalize U.bg b = r at cb
  obtain ⟨⟨q0, q1, q2⟩, l⟩ := r
  obtain ⟨sn, sh, sa⟩ := s
  simp only [U.St.val] at cb ch eh ⊢
  rw [eh] at ch
  clear eh hs
  have CB := hide cb
  have CH := hide ch
  clear cb ch
  go_enter Tryd.func68, Tryd.ntmps68
  go_wp2_with (first
    | (go_at_call 39; go_must (refine (CH.out _).mono ?_); rintro e w' ⟨rfl, rfl⟩)
    | (go_at_call 73; go_must (refine (CB.out _ (((hown.alloc _).alloc _).alloc _) (by simp; omega)).mono ?_); rintro e w1 ⟨v', rfl, hown1, hg1, hm1⟩; have hbx := (((Box.new (w.alloc _) 63 #[.int .i64 0, .int .i64 0, .int .i64 0]).alloc _).grown hg1 (fun e => by have := hown.lt _ e.symm; simp at this; omega)); rw [show (w.alloc (.cells #[.int .i64 sn, .int .i64 sh, .int .i64 sa] 63)).heap.size = w.heap.size + 1 from by simp] at hbx; obtain ⟨k0, k1, k2, k3, k4, k5⟩ := hbx.three))
  refine bodyPost_ret (v := .tuple #[.agg #[.int .i64 q0, .int .i64 q1, .int .i64 q2], v']) (by simp [results, Tryd.results68, go_sem, k0, k1, k2]) rfl ⟨v', rfl, ?_⟩
  exact step_end _ _ _ (by decide) hbx (grown_alloc (grown_alloc (World.grownBy_alloc w _ _) _) _) (by omega) hown1 hg1 hm1 rfl rfl

set_option maxHeartbeats 400000 in
theorem into_C (base : Nat) (v : Value) (n : Nat) (xs : List Value) (s : U.St) (b : Int) (w : World) (hown : w.ownsRow base 21 1 v n xs) (hn : n ≤ 1099511627776) (hbase : base ≤ w.heap.size) (h0 : 128 ≤ b) (h1 : b < 192) (hs : 0 < s.need) (hso : s.ok) (hm : s.have_ + 1 < s.need) :
    Calls Tryd.prog 68 #[s.val, v, .int .u8 b] w (Gave base 21 w v n xs (i32s (U.it s b).2) fun v' => .tuple #[(U.it s b).1.val, v']) := by
  have e : U.it s b = (⟨s.need, s.have_ + 1, s.acc * 64 + (b - 128)⟩, []) := by unfold U.it; rw [if_neg (by omega), if_neg (by omega), if_pos hm]
  rw [e]
  clear e
  have bd := hso.bd
  have ch := held_any s
  have eh : decide (0 < s.need) = true := decide_eq_true hs
  obtain ⟨sn, sh, sa⟩ := s
  simp only [U.St.val] at ch eh ⊢
  simp only [] at bd hs hm
  rw [eh] at ch
  clear eh hso
  have CH := hide ch
  have em := U.andNot63 b (by omega) (by omega)
  have em' : bits .andNot .u8 b 63 = 128 := by omega
  have en := U.and63 b (by omega) (by omega)
  have en' : bits .and .u8 b 63 = b - 128 := by omega
  have eo := i64_join 6 (sa * 64) (b - 128) (by omega) (by omega) (by omega) (by omega) (by omega)
  clear ch em en
  go_enter Tryd.func68, Tryd.ntmps68
  go_wp2_with (first
    | (go_at_call 39; go_must (refine (CH.out _).mono ?_); rintro e w' ⟨rfl, rfl⟩))
  refine bodyPost_ret (v := .tuple #[.agg #[.int .i64 sn, .int .i64 (sh + 1), .int .i64 (sa * 64 + (b - 128))], v]) (by simp [results, Tryd.results68, go_sem]) rfl ⟨v, rfl, ?_⟩
  exact ⟨by simpa [i32s] using ((hown.alloc _).alloc _).alloc _, grown_alloc (grown_alloc (World.grownBy_alloc w _ _) _) _, .inl rfl⟩

set_option maxHeartbeats 400000 in
theorem into_D (base : Nat) (v : Value) (n : Nat) (xs : List Value) (s : U.St) (b : Int) (w : World) (hown : w.ownsRow base 21 1 v n xs) (hn : n ≤ 1099511627776) (hbase : base ≤ w.heap.size) (h0 : 128 ≤ b) (h1 : b < 192) (hs : 0 < s.need) (hso : s.ok) (hm : s.need ≤ s.have_ + 1) :
    Calls Tryd.prog 68 #[s.val, v, .int .u8 b] w (Gave base 21 w v n xs (i32s (U.it s b).2) fun v' => .tuple #[(U.it s b).1.val, v']) := by
  obtain ⟨i0, hi, hz0, hz1, hz2⟩ := info_parts info_i32
  have e : U.it s b = (U.z, [U.wh s.need (s.acc * 64 + (b - 128))]) := by unfold U.it; rw [if_neg (by omega), if_neg (by omega), if_neg (by omega)]
  rw [e]
  clear e
  have bd := hso.bd
  have ch := held_any s
  have eh : decide (0 < s.need) = true := decide_eq_true hs
  obtain ⟨sn, sh, sa⟩ := s
  simp only [U.St.val] at ch eh ⊢
  simp only [] at bd hs hm
  rw [eh] at ch
  clear eh hso
  have CH := hide ch
  have em := U.andNot63 b (by omega) (by omega)
  have em' : bits .andNot .u8 b 63 = 128 := by omega
  have en := U.and63 b (by omega) (by omega)
  have en' : bits .and .u8 b 63 = b - 128 := by omega
  have eo := i64_join 6 (sa * 64) (b - 128) (by omega) (by omega) (by omega) (by omega) (by omega)
  have ha0 : 0 ≤ sa * 64 + (b - 128) := by omega
  have ha1 : sa * 64 + (b - 128) < 2147483648 := by omega
  generalize sa * 64 + (b - 128) = A at eo ha0 ha1 ⊢
  have CW := hide (whole_any sn A ha0 ha1)
  generalize U.wh sn A = R at CW ⊢
  have howna := fun o1 o2 o3 => own_alloc (own_alloc (own_alloc hown o1) o2) o3
  have HO := hide howna
  clear ch em en howna
  go_enter Tryd.func68, Tryd.ntmps68
  go_wp2_with (first
    | (go_at_call 39; go_must (refine (CH.out _).mono ?_); rintro e w' ⟨rfl, rfl⟩)
    | (go_at_call 74; go_must (refine (CW.out _).mono ?_); rintro e w' ⟨rfl, rfl⟩)
    | (at_builtin; go_must (refine wpList_app1 rfl (.tmp 46) (.tmp 52) 49 rfl base 21 i0 _ 4 Tryd.underlying49 hi hz0 hz1 hz2 rfl v n xs rfl (HO.out _ _ _) _ _ _ rfl (by simp) rfl (by omega) hn (by simp; omega) ?_); intro v' w1 hown1 hg1 hm1; have hbx := (((Box.new (w.alloc _) 63 #[.int .i64 0, .int .i64 0, .int .i64 0]).alloc _).grown hg1 (fun e => by have := hown.lt _ e.symm; simp at this; omega)); rw [World.size_alloc] at hbx; obtain ⟨k0, k1, k2, k3, k4, k5⟩ := hbx.three))
  refine bodyPost_ret (v := .tuple #[U.z.val, v']) (by simp [results, Tryd.results68, go_sem, U.z, U.St.val, k0, k1, k2]) rfl ⟨v', rfl, ?_⟩
  exact step_end _ _ _ (by decide) hbx (grown_alloc (grown_alloc (World.grownBy_alloc w _ _) _) _) (by omega) hown1 hg1 hm1 rfl rfl

set_option maxHeartbeats 400000 in
theorem into_B (base : Nat) (v : Value) (n : Nat) (xs : List Value) (s : U.St) (b : Int) (w : World) (hown : w.ownsRow base 21 1 v n xs) (hn : n ≤ 1099511627775) (hbase : base ≤ w.heap.size) (h0 : 0 ≤ b) (h1 : b < 256) (hs : 0 < s.need) (hb : b < 128 ∨ 192 ≤ b) :
    Calls Tryd.prog 68 #[s.val, v, .int .u8 b] w (Gave base 21 w v n xs (i32s (U.it s b).2) fun v' => .tuple #[(U.it s b).1.val, v']) := by
  obtain ⟨i0, hi, hz0, hz1, hz2⟩ := info_parts info_i32
  have e : U.it s b = ((U.bg b).1, 65533 :: (U.bg b).2) := by unfold U.it; rw [if_neg (by omega), if_pos hb]
  rw [e]
  clear e
  have ch := held_any s
  have eh : decide (0 < s.need) = true := decide_eq_true hs
  have cb := fun v w' n xs (hn : n ≤ 1099511627776) ho hb' => begin_any base v n xs b w' ho hn hb' h0 h1
  generalize U.bg b = r at cb
  obtain ⟨⟨q0, q1, q2⟩, l⟩ := r
  obtain ⟨sn, sh, sa⟩ := s
  simp only [U.St.val] at cb ch eh ⊢
  rw [eh] at ch
  clear eh hs
  have CB := hide cb
  have CH := hide ch
  have em := U.andNot63 b h0 h1
  have hc : b - b % 64 < 128 ∨ 128 < b - b % 64 := by omega
  generalize b - b % 64 = c at em hc
  have HO := hide (fun o1 o2 o3 => own_alloc (own_alloc (own_alloc hown o1) o2) o3)
  clear cb ch
  rcases hc with hc | hc
  all_goals
    go_enter Tryd.func68, Tryd.ntmps68
    go_wp2_with (first
      | (go_at_call 39; go_must (refine (CH.out _).mono ?_); rintro e w' ⟨rfl, rfl⟩)
      | (at_builtin; go_must (refine wpList_app1 rfl (.tmp 19) (.tmp 20) 49 rfl base 21 i0 _ 4 Tryd.underlying49 hi hz0 hz1 hz2 rfl v n xs rfl (HO.out _ _ _) _ _ _ rfl (by simp) rfl (by omega) (by omega) (by simp; omega) ?_); intro v1 w1 hown1 hg1 hm1)
      | (go_at_call 73; go_must (refine (CB.out _ _ _ _ (by omega) hown1 (by have := hg1.size; simp at this; omega)).mono ?_); rintro e w2 ⟨v', rfl, hown2, hg2, hm2⟩; have hbx := ((((Box.new (w.alloc _) 63 #[.int .i64 0, .int .i64 0, .int .i64 0]).alloc _).grown hg1 (fun e => by have := hown.lt _ e.symm; simp at this; omega)).grown hg2 (Box.notOwn (((Box.new (w.alloc _) 63 #[.int .i64 0, .int .i64 0, .int .i64 0]).alloc _).grown hg1 (fun e => by have := hown.lt _ e.symm; simp at this; omega)) hown1 (by decide))); rw [World.size_alloc] at hbx; obtain ⟨k0, k1, k2, k3, k4, k5⟩ := hbx.three))
    refine bodyPost_ret (v := .tuple #[.agg #[.int .i64 q0, .int .i64 q1, .int .i64 q2], v']) (by simp [results, Tryd.results68, go_sem, k0, k1, k2]) rfl ⟨v', rfl, ?_⟩
    exact step_end _ _ _ (by decide) hbx (grown_alloc (grown_alloc (World.grownBy_alloc w _ _) _) _) (by omega) hown2 (grown_trans_moved hg1 hm1 hg2) (hm1.trans hm2 hg1.size) (by simp [i32s]; omega) (by simp [i32s])

theorem into_any (base : Nat) (v : Value) (n : Nat) (xs : List Value) (s : U.St) (b : Int) (w : World) (hown : w.ownsRow base 21 1 v n xs) (hn : n ≤ 1099511627775) (hbase : base ≤ w.heap.size) (h0 : 0 ≤ b) (h1 : b < 256) (hso : s.ok) :
    Calls Tryd.prog 68 #[s.val, v, .int .u8 b] w (Gave base 21 w v n xs (i32s (U.it s b).2) fun v' => .tuple #[(U.it s b).1.val, v']) := by
  by_cases hs : s.need ≤ 0
  · exact into_A base v n xs s b w hown (by omega) hbase h0 h1 hs
  · by_cases hb : b < 128 ∨ 192 ≤ b
    · exact into_B base v n xs s b w hown hn hbase h0 h1 (by omega) hb
    · by_cases hm : s.have_ + 1 < s.need
      · exact into_C base v n xs s b w hown (by omega) hbase (by omega) (by omega) (by omega) hso hm
      · exact into_D base v n xs s b w hown (by omega) hbase (by omega) (by omega) (by omega) hso (by omega)
end Go.Proofs.YtnnjppgmadmmaaaDoor
