/- The contracts of put and Encode. -/
import Derived.Test.YtnnjppgmadmmaaaDoorUtfSmall
import Derived.Test.YtnnjppgmadmmaaaDoorUtfTail
set_option maxRecDepth 100000
namespace Go.Proofs.YtnnjppgmadmmaaaDoor
open Go.RowKit
set_option linter.unusedVariables false
theorem en1_cases (r : Int) : (U.isR r = false ∧ U.en1 r = U.en 65533) ∨ (U.isR r = true ∧ U.en1 r = U.en r) := by
  rcases h : U.isR r with _ | _
  · exact .inl ⟨rfl, by simp [U.en1, h]; decide⟩
  · exact .inr ⟨rfl, by simp [U.en1, h]⟩
set_option maxHeartbeats 400000 in
theorem put1 (base : Nat) (v : Value) (n : Nat) (xs : List Value) (r : Int) (w : World) (hown : w.ownsRow base 5 1 v n xs) (hn : n ≤ 1099511627772) (hbase : base ≤ w.heap.size) (hr : U.isR r = true) (h : 0 ≤ r ∧ r < 128) :
    Calls Tryd.prog 53 #[v, .int .i32 r] w (Gave base 5 w v n xs (u8s (U.en r)) fun v' => v') := by
  obtain ⟨i0, hi, hz0, hz1, hz2⟩ := info_parts info_u8
  have he : U.en r = [r] := by unfold U.en; repeat (first | rw [if_pos (by omega)] | rw [if_neg (by omega)])
  rw [he]
  clear he
  have CI := hide (isRune_any r)
  have CS := hide (size_any r)
  have CT := hide tail_any
  go_enter Tryd.func53, Tryd.ntmps53
  go_wp2_with (first
    | (go_at_call 61; go_must (refine (CI.out _).mono ?_); rintro e w' ⟨rfl, rfl⟩; rw [hr])
    | (go_at_call 62; go_must (refine (CS.out _).mono ?_); rintro e w' ⟨rfl, rfl⟩; rw [show U.sz r = 1 from by unfold U.sz; repeat (first | rw [if_pos (by omega)] | rw [if_neg (by omega)])])
    | (go_at_call 63; go_must (refine (CT.out _ _).mono ?_); rintro e w' ⟨rfl, rfl⟩)
    | (at_builtin; go_must (refine wpList_appL rfl (.tmp 13) (.tmp 16) 26 rfl base 5 i0 _ 1 Tryd.underlying26 hi hz0 hz1 hz2 rfl v n xs rfl hown _ _ _ 1 rfl rfl (by simp) (by simp [Value.oneCell']) (by omega) (by omega) hbase ?_); intro v' w1 hown1 hg1 hm1))
  go_ret
  exact ⟨v', rfl, hown1, hg1, hm1⟩
set_option maxHeartbeats 400000 in
theorem put2 (base : Nat) (v : Value) (n : Nat) (xs : List Value) (r : Int) (w : World) (hown : w.ownsRow base 5 1 v n xs) (hn : n ≤ 1099511627772) (hbase : base ≤ w.heap.size) (hr : U.isR r = true) (h : 128 ≤ r ∧ r < 2048) :
    Calls Tryd.prog 53 #[v, .int .i32 r] w (Gave base 5 w v n xs (u8s (U.en r)) fun v' => v') := by
  obtain ⟨i0, hi, hz0, hz1, hz2⟩ := info_parts info_u8
  have he : U.en r = [192 + r / 64, U.tl r] := by unfold U.en; repeat (first | rw [if_pos (by omega)] | rw [if_neg (by omega)])
  rw [he]
  clear he
  have CI := hide (isRune_any r)
  have CS := hide (size_any r)
  have CT := hide tail_any
  go_enter Tryd.func53, Tryd.ntmps53
  go_wp2_with (first
    | (go_at_call 61; go_must (refine (CI.out _).mono ?_); rintro e w' ⟨rfl, rfl⟩; rw [hr])
    | (go_at_call 62; go_must (refine (CS.out _).mono ?_); rintro e w' ⟨rfl, rfl⟩; rw [show U.sz r = 2 from by unfold U.sz; repeat (first | rw [if_pos (by omega)] | rw [if_neg (by omega)])])
    | (go_at_call 63; go_must (refine (CT.out _ _).mono ?_); rintro e w' ⟨rfl, rfl⟩)
    | (at_builtin; go_must (refine wpList_appL rfl (.tmp 20) (.tmp 27) 26 rfl base 5 i0 _ 1 Tryd.underlying26 hi hz0 hz1 hz2 rfl v n xs rfl hown _ _ _ 2 rfl rfl (by simp) (by simp [Value.oneCell']) (by omega) (by omega) hbase ?_); intro v' w1 hown1 hg1 hm1))
  go_ret
  exact ⟨v', rfl, hown1, hg1, hm1⟩
set_option maxHeartbeats 400000 in
theorem put3 (base : Nat) (v : Value) (n : Nat) (xs : List Value) (r : Int) (w : World) (hown : w.ownsRow base 5 1 v n xs) (hn : n ≤ 1099511627772) (hbase : base ≤ w.heap.size) (hr : U.isR r = true) (h : 2048 ≤ r ∧ r < 65536) :
    Calls Tryd.prog 53 #[v, .int .i32 r] w (Gave base 5 w v n xs (u8s (U.en r)) fun v' => v') := by
  obtain ⟨i0, hi, hz0, hz1, hz2⟩ := info_parts info_u8
  have he : U.en r = [224 + r / 4096, U.tl (r / 64), U.tl r] := by unfold U.en; repeat (first | rw [if_pos (by omega)] | rw [if_neg (by omega)])
  rw [he]
  clear he
  have CI := hide (isRune_any r)
  have CS := hide (size_any r)
  have CT := hide tail_any
  go_enter Tryd.func53, Tryd.ntmps53
  go_wp2_with (first
    | (go_at_call 61; go_must (refine (CI.out _).mono ?_); rintro e w' ⟨rfl, rfl⟩; rw [hr])
    | (go_at_call 62; go_must (refine (CS.out _).mono ?_); rintro e w' ⟨rfl, rfl⟩; rw [show U.sz r = 3 from by unfold U.sz; repeat (first | rw [if_pos (by omega)] | rw [if_neg (by omega)])])
    | (go_at_call 63; go_must (refine (CT.out _ _).mono ?_); rintro e w' ⟨rfl, rfl⟩)
    | (at_builtin; go_must (refine wpList_appL rfl (.tmp 31) (.tmp 41) 26 rfl base 5 i0 _ 1 Tryd.underlying26 hi hz0 hz1 hz2 rfl v n xs rfl hown _ _ _ 3 rfl rfl (by simp) (by simp [Value.oneCell']) (by omega) (by omega) hbase ?_); intro v' w1 hown1 hg1 hm1))
  go_ret
  exact ⟨v', rfl, hown1, hg1, hm1⟩
set_option maxHeartbeats 400000 in
theorem put4 (base : Nat) (v : Value) (n : Nat) (xs : List Value) (r : Int) (w : World) (hown : w.ownsRow base 5 1 v n xs) (hn : n ≤ 1099511627772) (hbase : base ≤ w.heap.size) (hr : U.isR r = true) (h : 65536 ≤ r ∧ r < 1114112) :
    Calls Tryd.prog 53 #[v, .int .i32 r] w (Gave base 5 w v n xs (u8s (U.en r)) fun v' => v') := by
  obtain ⟨i0, hi, hz0, hz1, hz2⟩ := info_parts info_u8
  have he : U.en r = [240 + r / 262144, U.tl (r / 4096), U.tl (r / 64), U.tl r] := by unfold U.en; repeat (first | rw [if_pos (by omega)] | rw [if_neg (by omega)])
  rw [he]
  clear he
  have CI := hide (isRune_any r)
  have CS := hide (size_any r)
  have CT := hide tail_any
  go_enter Tryd.func53, Tryd.ntmps53
  go_wp2_with (first
    | (go_at_call 61; go_must (refine (CI.out _).mono ?_); rintro e w' ⟨rfl, rfl⟩; rw [hr])
    | (go_at_call 62; go_must (refine (CS.out _).mono ?_); rintro e w' ⟨rfl, rfl⟩; rw [show U.sz r = 4 from by unfold U.sz; repeat (first | rw [if_pos (by omega)] | rw [if_neg (by omega)])])
    | (go_at_call 63; go_must (refine (CT.out _ _).mono ?_); rintro e w' ⟨rfl, rfl⟩)
    | (at_builtin; go_must (refine wpList_appL rfl (.tmp 43) (.tmp 56) 26 rfl base 5 i0 _ 1 Tryd.underlying26 hi hz0 hz1 hz2 rfl v n xs rfl hown _ _ _ 4 rfl rfl (by simp) (by simp [Value.oneCell']) (by omega) (by omega) hbase ?_); intro v' w1 hown1 hg1 hm1))
  go_ret
  exact ⟨v', rfl, hown1, hg1, hm1⟩
set_option maxHeartbeats 400000 in
theorem put0 (base : Nat) (v : Value) (n : Nat) (xs : List Value) (r : Int) (w : World) (hown : w.ownsRow base 5 1 v n xs) (hn : n ≤ 1099511627772) (hbase : base ≤ w.heap.size) (hr : U.isR r = false) (hr0 : -2147483648 ≤ r) (hr1 : r ≤ 2147483647) :
    Calls Tryd.prog 53 #[v, .int .i32 r] w (Gave base 5 w v n xs (u8s [239, 191, 189]) fun v' => v') := by
  obtain ⟨i0, hi, hz0, hz1, hz2⟩ := info_parts info_u8
  have CI := hide (isRune_any r)
  have CS := hide (size_any 65533)
  have CT := hide tail_any
  have hz : U.sz 65533 = 3 := by simp [U.sz]
  rw [hz] at CS
  clear hz
  have t1 : U.tl 1023 = 191 := by simp [U.tl]
  have t2 : U.tl 65533 = 189 := by simp [U.tl]
  go_enter Tryd.func53, Tryd.ntmps53
  go_wp2_with (first
    | (go_at_call 61; go_must (refine (CI.out _).mono ?_); rintro e w' ⟨rfl, rfl⟩; rw [hr])
    | (go_at_call 62; go_must (refine (CS.out _).mono ?_); rintro e w' ⟨rfl, rfl⟩)
    | (go_at_call 63; go_must (refine (CT.out _ _).mono ?_); rintro e w' ⟨rfl, rfl⟩)
    | (at_builtin; go_must (refine wpList_appL rfl (.tmp 31) (.tmp 41) 26 rfl base 5 i0 _ 1 Tryd.underlying26 hi hz0 hz1 hz2 rfl v n xs rfl hown _ _ _ 3 rfl rfl (by simp) (by simp [Value.oneCell']) (by omega) (by omega) hbase ?_); intro v' w1 hown1 hg1 hm1))
  go_ret
  exact ⟨v', rfl, hown1, hg1, hm1⟩
theorem put_any (base : Nat) (v : Value) (n : Nat) (xs : List Value) (r : Int) (w : World) (hown : w.ownsRow base 5 1 v n xs) (hn : n ≤ 1099511627772) (hbase : base ≤ w.heap.size) (hr0 : -2147483648 ≤ r) (hr1 : r ≤ 2147483647) :
    Calls Tryd.prog 53 #[v, .int .i32 r] w (Gave base 5 w v n xs (u8s (U.en1 r)) fun v' => v') := by
  rcases hr : U.isR r with _ | _
  · rw [show U.en1 r = [239, 191, 189] from by simp [U.en1, hr]]
    exact put0 base v n xs r w hown hn hbase hr hr0 hr1
  · rw [show U.en1 r = U.en r from by simp [U.en1, hr]]
    have h := hr
    simp [U.isR] at h
    have cs : (0 ≤ r ∧ r < 128) ∨ (128 ≤ r ∧ r < 2048) ∨ (2048 ≤ r ∧ r < 65536) ∨ (65536 ≤ r ∧ r < 1114112) := by omega
    rcases cs with c | c | c | c
    · exact put1 base v n xs r w hown hn hbase hr c
    · exact put2 base v n xs r w hown hn hbase hr c
    · exact put3 base v n xs r w hown hn hbase hr c
    · exact put4 base v n xs r w hown hn hbase hr c
/-- What Encode leaves: a new list of bytes. -/
def Encoded (w : World) (l : List Int) (e : Ending) (w' : World) : Prop :=
  ∃ v', e = .returned v' ∧ w'.ownsRow w.heap.size 5 1 v' l.length (u8s l) ∧ Below w.heap.size w w'
set_option maxHeartbeats 400000 in
theorem encode_any (A : Option Addr) (n c : Nat) (l : List Int) (w : World) (hA : Seen w w.heap.size A n (i32s l)) (hl : ∀ x ∈ l, -2147483648 ≤ x ∧ x ≤ 2147483647) (hn : n ≤ 137438953472) :
    Calls Tryd.prog 40 #[.slice A n c] w (Encoded w (U.enc l)) := by
  have hlen : l.length = n := by simpa [i32s] using hA.1
  have HA := hide hA
  have HN := hide hlen
  have HL := hide hl
  clear hA hlen hl
  go_enter Tryd.func40, Tryd.ntmps40
  go_wp2
  go_loopw [3, 8] (fun v i wr => ∃ k : Nat, k ≤ n ∧ i = .int .i64 k ∧ wr.ownsRow w.heap.size 5 1 v (U.enc (l.take k)).length (u8s (U.enc (l.take k))) ∧ Below w.heap.size w wr)
    (fun _ i _ => n - (intOf i).toNat)
  case atStart => exact ⟨0, Nat.zero_le _, rfl, World.ownsRow_nil _ _ _ _, Below.refl _ _⟩
  case round =>
    obtain ⟨k, hk, rfl, hown, hbel⟩ := hrel
    by_cases hlt : k < n
    · obtain ⟨ad, u, rfl, _, hu, hc⟩ := (HA.out.below hbel).at_ hlt
      rw [i32s, List.getElem?_map] at hu
      obtain ⟨x, hx, rfl⟩ := Option.map_eq_some_iff.1 hu
      have hs1 := U.enc_snoc (l.take k) x
      rw [show l.take k ++ [x] = l.take (k + 1) from by rw [List.take_add_one, hx]; rfl] at hs1
      have hlen := U.enc_len (l.take k)
      rw [List.length_take] at hlen
      generalize U.enc (l.take k) = ys at hs1 hown hlen
      have ci := put_any w.heap.size u3 ys.length (u8s ys) x wr hown (by omega) hbel.size (HL.out x (List.mem_of_getElem? hx)).1 (HL.out x (List.mem_of_getElem? hx)).2
      generalize U.en1 x = ts at hs1 ci
      have CI := hide ci
      have HS := hide hs1
      clear hu hx hs1 ci
      go_wp2_with (go_at_call 53; go_must (refine CI.out.mono ?_); rintro e w1 ⟨v', rfl, hown1, hg1, hm1⟩)
      go_roundw
      case rel =>
        refine ⟨k + 1, by omega, by go_num, ?_, hbel.grown hg1 hbel.size (fun g hg => (hown.lt g hg).1)⟩
        rw [HS.out]
        simpa [u8s] using hown1
      case measure => simp [intOf]; omega
    · obtain rfl : k = n := by omega
      rw [List.take_of_length_le (by rw [HN.out]; omega)] at hown
      go_wp2
      go_ret
      exact ⟨u3, rfl, hown, hbel⟩
end Go.Proofs.YtnnjppgmadmmaaaDoor
