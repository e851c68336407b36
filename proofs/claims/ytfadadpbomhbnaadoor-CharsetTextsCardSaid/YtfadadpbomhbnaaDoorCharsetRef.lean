/- The contracts of the document's own Drawn and Plain. -/
import Derived.Test.YtfadadpbomhbnaaDoorCharsetUse
namespace Go.Proofs.YtfadadpbomhbnaaDoor
open Go.RowKit
set_option linter.unusedVariables false
def drawnCells : Array Value := #[.int .i32 9670, .int .i32 9618, .int .i32 9225, .int .i32 9228, .int .i32 9229, .int .i32 9226, .int .i32 176, .int .i32 177, .int .i32 9252, .int .i32 9227, .int .i32 9496, .int .i32 9488, .int .i32 9484, .int .i32 9492, .int .i32 9532, .int .i32 9146, .int .i32 9147, .int .i32 9472, .int .i32 9148, .int .i32 9149, .int .i32 9500, .int .i32 9508, .int .i32 9524, .int .i32 9516, .int .i32 9474, .int .i32 8804, .int .i32 8805, .int .i32 960, .int .i32 8800, .int .i32 163, .int .i32 183]
def plainBytes : ByteArray := ⟨#[42, 35, 72, 70, 67, 76, 111, 43, 78, 86, 43, 43, 43, 43, 43, 45, 45, 45, 45, 95, 43, 43, 43, 43, 124, 60, 62, 112, 33, 76, 46]⟩
theorem drawnCells_list : drawnCells.toList = i32s CH.drawn := rfl
theorem plain_index (w : World) (k : Nat) (hk : k < 31) : (Instr.index 9 (.string plainBytes) (.int .i64 (k : Int))).run Tryd.prog w = .ok (.int .u8 (CH.plainAt k)) w := by
  obtain rfl | rfl | rfl | rfl | rfl | rfl | rfl | rfl | rfl | rfl | rfl | rfl | rfl | rfl | rfl | rfl | rfl | rfl | rfl | rfl | rfl | rfl | rfl | rfl | rfl | rfl | rfl | rfl | rfl | rfl | rfl : k = 0 ∨ k = 1 ∨ k = 2 ∨ k = 3 ∨ k = 4 ∨ k = 5 ∨ k = 6 ∨ k = 7 ∨ k = 8 ∨ k = 9 ∨ k = 10 ∨ k = 11 ∨ k = 12 ∨ k = 13 ∨ k = 14 ∨ k = 15 ∨ k = 16 ∨ k = 17 ∨ k = 18 ∨ k = 19 ∨ k = 20 ∨ k = 21 ∨ k = 22 ∨ k = 23 ∨ k = 24 ∨ k = 25 ∨ k = 26 ∨ k = 27 ∨ k = 28 ∨ k = 29 ∨ k = 30 := by omega
  all_goals kernel_rfl
set_option maxHeartbeats 1000000 in
theorem refDrawn_any (w : World) : Calls Tryd.prog 12 #[] w (Runes w CH.drawn) := by
  have HO := hide (World.ownsRow_lit (base := w.heap.size) (e := 21) (size := 1) w drawnCells 31 (Nat.le_refl _) (by simp [maxLen]) rfl)
  go_enter Tryd.func12, Tryd.ntmps12
  go_wp2
  go_ret
  exact ⟨_, rfl, HO.out, (Below.refl _ _).alloc (Nat.le_refl _) _⟩
theorem plainTable_any (w : World) : Calls Tryd.prog 15 #[] w fun e w' => e = .returned (.string plainBytes) ∧ w = w' := by
  go_enter Tryd.func15, Tryd.ntmps15
  go_wp2
  go_ret
  exact ⟨rfl, rfl⟩

set_option maxHeartbeats 2000000 in
theorem refPlain_any (r : Int) (w : World) : Calls Tryd.prog 14 #[.int .i32 r] w fun e w' => e = .returned (.int .u8 (CH.plain r)) ∧ Below w.heap.size w w' := by
  have cs : (32 ≤ r ∧ r ≤ 126) ∨ r < 32 ∨ 126 < r := by omega
  rcases cs with h | h
  · have E := hide (plain_self h.1 h.2)
    have wr : IntKind.u8.wrap r = r := IntWalk.u8_in _ (by omega)
    go_enter Tryd.func14, Tryd.ntmps14
    go_wp2
    go_ret
    exact ⟨c_int E.out.symm, Below.refl _ _⟩
  · have D := hide refDrawn_any
    have T := hide plainTable_any
    have PI := hide plain_index
    generalize plainBytes = pb at T PI
    have HP := hide (CH.place_le r)
    have HL := hide CH.drawn_len
    have HC := hide h
    rcases h with h | h
    all_goals
      (try have h' : 32 ≤ r := by omega)
      go_enter Tryd.func14, Tryd.ntmps14
      go_wp2_with fail
      refine (D.out _).mono ?_
      rintro e w1 ⟨v, rfl, hown, b1⟩
      obtain ⟨A, c, rfl, hn, hc, hlt⟩ := own_form hown
      have hs := Seen.of_own hown
      rw [HL.out] at hs
      have HSN := hide hs
      clear hown hlt hs
      rw [HL.out]
      rw [HL.out] at hn
      go_wp2_with fail
      go_loopw [15] (fun i wr => ∃ k : Nat, k ≤ CH.place r ∧ i = .int .i64 k ∧ wr = w1) (fun i _ => 31 - (intOf i).toNat)
      case atStart => exact ⟨0, by omega, rfl, rfl⟩
      case round =>
        obtain ⟨k, hk, rfl, rfl⟩ := hrel
        have hp := HP.out
        obtain hlt | rfl : k < 31 ∨ k = 31 := by omega
        · obtain ⟨ad, u, rfl, hadb, hu, hcell⟩ := HSN.out.at_ hlt
          have hu' : u = .int .i32 (CH.drawnAt k) := by
            rw [i32s, List.getElem?_map, CH.drawnAt_is hlt] at hu
            exact (Option.some.inj hu).symm
          subst hu'
          clear hu
          by_cases hx : CH.drawnAt k = r
          · have E := hide (plain_sign HC.out hlt ((CH.drawnAt_iff hlt).1 hx))
            have pi := fun w' => PI.out w' k hlt
            rw [hx] at hcell
            clear hx
            generalize CH.plainAt k = y at pi E
            go_wp2_with fail
            refine (T.out _).mono ?_
            rintro e w' ⟨rfl, rfl⟩
            go_wp2_with fail
            go_ret
            exact ⟨c_int E.out.symm, b1⟩
          · have hk' : k + 1 ≤ CH.place r := by
              have : CH.place r ≠ k := fun e => hx ((CH.drawnAt_iff hlt).2 e)
              omega
            generalize CH.drawnAt k = x at hcell hx
            have hx : (x == r) = false := by simpa using hx
            go_wp2
            go_roundw
            case rel => exact ⟨k + 1, hk', by go_num, trivial⟩
            case measure => simp [intOf]; omega
        · have E := hide (plain_other HC.out (by omega))
          go_wp2
          go_ret
          exact ⟨c_int E.out.symm, b1⟩
theorem refPlain_is (r p : Int) (h : CH.plain r = p) (w : World) : Calls Tryd.prog 14 #[.int .i32 r] w fun e w' => e = .returned (.int .u8 p) ∧ Below w.heap.size w w' := by
  subst h
  exact refPlain_any r w
theorem sameRunes_is (zs : List Int) (A A' : Option Addr) (B B' n c m c' : Nat) (w : World) (hx : Seen w B A n (i32s zs)) (hy : Seen w B' A' m (i32s zs)) (hn : n ≤ 1099511627776) :
    Calls Tryd.prog 10 #[.slice A n c, .slice A' m c'] w fun e w' => e = .returned (.bool true) ∧ Below w.heap.size w w' := by
  refine (same_i32 zs A A' B B' n c m c' w hx hy hn).mono ?_
  rintro e w' ⟨he, q, rfl⟩
  exact ⟨he, below_drewN (Below.refl _ _) _⟩
end Go.Proofs.YtfadadpbomhbnaaDoor
