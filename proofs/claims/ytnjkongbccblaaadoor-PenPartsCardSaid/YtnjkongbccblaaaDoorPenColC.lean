/- The contract of the landed sayColor. -/
import Derived.Test.YtnjkongbccblaaaDoorPenApply
import Derived.Test.YtnjkongbccblaaaDoorPenEq10
import Derived.Test.YtnjkongbccblaaaDoorInfoInt
import Derived.Test.YtnjkongbccblaaaDoorRoomy64
import Derived.Deep.RegionHeldLaw
set_option maxRecDepth 100000
namespace Go.Proofs.YtnjkongbccblaaaDoor
open Go.RowKit
set_option linter.unusedVariables false
/-- a pen that may be -/
def PR (p : PS.Pn) : Prop := PS.Ok p ∧ PS.Col p.fo ∧ PS.Col p.ba
/-- what Between says -/
def betw (p q : PS.Pn) : List Int := if p.fo = q.fo ∧ p.ba = q.ba ∧ p.fl = q.fl then [] else PS.say q
theorem papply_is (p q : PS.Pn) (A : Option Addr) (n c B : Nat) (l : List Int) (hq : PS.apply p l = q) (w : World) (hp : PR p) (hA : Seen w B A n (j64s l)) (hn : n ≤ 1048576) (hnc : n ≤ c) (hl : ∀ x ∈ l, -1 ≤ x ∧ x ≤ 9223372036854775807) (hF : FlagT w) :
    Calls Tryd.prog 8 #[penV p, .slice A n c] w fun e w' => e = .returned (penV q) ∧ Below w.heap.size w w' := papply_ok p q A n c B l hq w hp.1 hA hn hnc hl hF
/-- what sayColor leaves: the row with a colour's parameters behind it -/
def SaidC (w : World) (base : Nat) (v : Value) (n : Nat) (xs ys : List Value) (e : Ending) (w' : World) : Prop :=
  ∃ v', e = .returned v' ∧ w'.ownsRow base 3 1 v' (n + ys.length) (xs ++ ys) ∧ w.grownBy w' v.ownBlock ∧ Moved w v v'
theorem sayc_none {s : Int} : PS.sayColour (-1) s = [] := by unfold PS.sayColour; rw [if_pos rfl]
theorem sayc_low {c s : Int} (h0 : 0 ≤ c) (h : c ≤ 7) : PS.sayColour c s = [s + c] := by unfold PS.sayColour; rw [if_neg (by omega), if_pos h]
theorem sayc_high {c s : Int} (h0 : 8 ≤ c) (h : c ≤ 15) : PS.sayColour c s = [s + 52 + c] := by unfold PS.sayColour; rw [if_neg (by omega), if_neg (by omega), if_pos h]
theorem sayc_num {c s : Int} (h0 : 16 ≤ c) (h : c ≤ 255) : PS.sayColour c s = [s + 8, 5, c] := by unfold PS.sayColour; rw [if_neg (by omega), if_neg (by omega), if_neg (by omega), if_pos h]
theorem sayc_direct {c s : Int} (h0 : 255 < c) : PS.sayColour c s = [s + 8, 2, (c - 16777216) / 65536, (c - 16777216) / 256 % 256, c % 256] := by unfold PS.sayColour; rw [if_neg (by omega), if_neg (by omega), if_neg (by omega), if_neg (by omega)]
set_option maxHeartbeats 4000000 in
theorem sayColor_is (c s : Int) (hc : PS.Col c) (hs : s = 30 ∨ s = 40) (w : World) (base n : Nat) (v : Value) (xs : List Value) (hown : w.ownsRow base 3 1 v n xs) (hn : n ≤ 1000) (hbase : base ≤ w.heap.size) :
    Calls Tryd.prog 22 #[v, .int .i64 c, .int .i64 s] w (SaidC w base v n xs (j64s (PS.sayColour c s))) := by
  obtain ⟨i0, hi, hz0, hz1, hz2⟩ := info_parts info_int9
  have hs0 : 30 ≤ s := by omega
  have hs1 : s ≤ 40 := by omega
  clear hs
  have cs : c = -1 ∨ (0 ≤ c ∧ c ≤ 7) ∨ (8 ≤ c ∧ c ≤ 15) ∨ (16 ≤ c ∧ c ≤ 255) ∨ (16777216 ≤ c ∧ c < 33554432) := by unfold PS.Col at hc; omega
  clear hc
  rcases cs with rfl | ⟨h, h'⟩ | ⟨h, h'⟩ | ⟨h, h'⟩ | ⟨h, h'⟩
  · rw [sayc_none]
    go_enter Tryd.func22, Tryd.ntmps22
    go_wp2_with fail
    go_ret
    exact ⟨v, rfl, by simpa [j64s] using hown, grown_refl _ _, Moved.refl _ _⟩
  · rw [sayc_low h h']
    go_enter Tryd.func22, Tryd.ntmps22
    go_wp2_with (at_builtin; go_must (refine wpList_app1 rfl (.tmp 18) (.tmp 22) 27 rfl base 3 i0 _ 8 Tryd.underlying27 hi hz0 hz1 hz2 rfl v n xs rfl hown _ _ _ rfl (by simp) rfl (by omega) (by omega) hbase ?_); intro v1 w1 hown1 hg1 hm1)
    go_ret
    exact ⟨v1, rfl, hown1, hg1, hm1⟩
  · rw [sayc_high h h']
    have e : s + 60 + c - 8 = s + 52 + c := by omega
    go_enter Tryd.func22, Tryd.ntmps22
    go_wp2_with (at_builtin; go_must (refine wpList_app1 rfl (.tmp 27) (.tmp 33) 27 rfl base 3 i0 _ 8 Tryd.underlying27 hi hz0 hz1 hz2 rfl v n xs rfl hown _ _ _ rfl (by simp) rfl (by omega) (by omega) hbase ?_); intro v1 w1 hown1 hg1 hm1)
    go_ret
    exact ⟨v1, rfl, by first | exact hown1 | (rw [← e]; exact hown1), hg1, hm1⟩
  · rw [sayc_num h h']
    obtain ⟨k, rfl⟩ := Int.eq_ofNat_of_zero_le (show 0 ≤ c by omega)
    have P := hide (fun w' => isPart_is k true (decide_eq_true (by omega)) (by omega) w')
    go_enter Tryd.func22, Tryd.ntmps22
    go_wp2_with fail
    refine (P.out _).mono ?_
    rintro e w' ⟨rfl, rfl⟩
    go_wp2_with (at_builtin; go_must (refine wpList_appL rfl (.tmp 38) (.tmp 42) 27 rfl base 3 i0 _ 8 Tryd.underlying27 hi hz0 hz1 hz2 rfl v n xs rfl hown _ _ _ 3 rfl rfl (by simp) (by intro u hu; simp at hu; rcases hu with rfl | rfl | rfl <;> rfl) (by omega) (by omega) hbase ?_); intro v1 w1 hown1 hg1 hm1)
    go_ret
    exact ⟨v1, rfl, hown1, hg1, hm1⟩
  · rw [sayc_direct (by omega)]
    obtain ⟨k, hk⟩ := Int.eq_ofNat_of_zero_le (show 0 ≤ c by omega)
    have P : Hid (∀ w', Calls Tryd.prog 25 #[.int .i64 c] w' fun e w'' => e = .returned (.bool false) ∧ w' = w'') := hide (fun w' => by rw [hk]; exact isPart_is k false (decide_eq_false (by omega)) (by omega) w')
    obtain ⟨r, hr⟩ : ∃ r, k / 2 ^ 16 % 256 = r := ⟨_, rfl⟩
    obtain ⟨g, hg⟩ : ∃ g, k / 2 ^ 8 % 256 = g := ⟨_, rfl⟩
    obtain ⟨b, hb⟩ : ∃ b, k / 2 ^ 0 % 256 = b := ⟨_, rfl⟩
    have Q1 : Hid (∀ w', Calls Tryd.prog 29 #[.int .i64 c, .int .i64 16] w' fun e w'' => e = .returned (.int .i64 (r : Nat)) ∧ w' = w'') := hide (fun w' => by rw [hk]; exact part_is k 16 r hr (by omega) (by omega) w')
    have Q2 : Hid (∀ w', Calls Tryd.prog 29 #[.int .i64 c, .int .i64 8] w' fun e w'' => e = .returned (.int .i64 (g : Nat)) ∧ w' = w'') := hide (fun w' => by rw [hk]; exact part_is k 8 g hg (by omega) (by omega) w')
    have Q3 : Hid (∀ w', Calls Tryd.prog 29 #[.int .i64 c, .int .i64 0] w' fun e w'' => e = .returned (.int .i64 (b : Nat)) ∧ w' = w'') := hide (fun w' => by rw [hk]; exact part_is k 0 b hb (by omega) (by omega) w')
    have E : j64s [s + 8, 2, (c - 16777216) / 65536, (c - 16777216) / 256 % 256, c % 256] = [.int .i64 (s + 8), .int .i64 2, .int .i64 (r : Nat), .int .i64 (g : Nat), .int .i64 (b : Nat)] := by
      have e1 : (c - 16777216) / 65536 = (r : Int) := by simp at hr; omega
      have e2 : (c - 16777216) / 256 % 256 = (g : Int) := by simp at hg; omega
      have e3 : c % 256 = (b : Int) := by simp at hb; omega
      rw [e1, e2, e3]
      rfl
    rw [E]
    clear hr hg hb E hk
    go_enter Tryd.func22, Tryd.ntmps22
    go_wp2_with fail
    refine (P.out _).mono ?_
    rintro e w' ⟨rfl, rfl⟩
    go_wp2_with fail
    refine (Q1.out _).mono ?_
    rintro e w' ⟨rfl, rfl⟩
    go_wp2_with fail
    refine (Q2.out _).mono ?_
    rintro e w' ⟨rfl, rfl⟩
    go_wp2_with fail
    refine (Q3.out _).mono ?_
    rintro e w' ⟨rfl, rfl⟩
    go_wp2_with (at_builtin; go_must (refine wpList_appL rfl (.tmp 47) (.tmp 56) 27 rfl base 3 i0 _ 8 Tryd.underlying27 hi hz0 hz1 hz2 rfl v n xs rfl hown _ _ _ 5 rfl rfl (by simp) (by intro u hu; simp at hu; rcases hu with rfl | rfl | rfl | rfl | rfl <;> rfl) (by omega) (by omega) hbase ?_); intro v1 w1 hown1 hg1 hm1)
    go_ret
    exact ⟨v1, rfl, hown1, hg1, hm1⟩
end Go.Proofs.YtnjkongbccblaaaDoor
