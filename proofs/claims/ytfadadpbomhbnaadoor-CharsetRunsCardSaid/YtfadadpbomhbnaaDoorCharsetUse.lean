/- The contracts of Plain, Drawn, and of the document's own Drawn, Plain. -/
import Derived.Test.YtfadadpbomhbnaaDoorCharsetTab
import Derived.Test.YtfadadpbomhbnaaDoorLists
import Derived.Test.YtfadadpbomhbnaaDoorSame32
import Derived.Deep.DeepCutAuto
namespace Go.Proofs.YtfadadpbomhbnaaDoor
open Go.RowKit
set_option linter.unusedVariables false
theorem undraw_is (r b : Int) (ok : Bool) (h : CH.undraw r = b) (hk : CH.undrawn r = ok) (w : World) (hs : Signs w) : Calls Tryd.prog 7 #[.int .i32 r] w fun e w' => e = .returned (.tuple #[.int .u8 b, .bool ok]) ∧ Below w.heap.size w w' := by
  subst h hk
  exact undraw_any r w hs
theorem draw_is (b r : Int) (h : CH.draw b = r) (w : World) (h0 : 0 ≤ b) (h1 : b < 256) (hs : Signs w) : Calls Tryd.prog 8 #[.int .u8 b] w fun e w' => e = .returned (.int .i32 r) ∧ Below w.heap.size w w' := by
  subst h
  exact draw_any b w h0 h1 hs
theorem plain_self {r : Int} (h : 32 ≤ r) (h' : r ≤ 126) : CH.plain r = r := by
  unfold CH.plain
  rw [if_pos (by omega)]
theorem plain_sign {r : Int} {k : Nat} (h : r < 32 ∨ 126 < r) (hk : k < 31) (hp : CH.place r = k) : CH.plain r = CH.plainAt k := by
  unfold CH.plain
  rw [if_neg (by omega), hp, if_pos hk]
theorem plain_other {r : Int} (h : r < 32 ∨ 126 < r) (hp : CH.place r = 31) : CH.plain r = 63 := by
  unfold CH.plain
  rw [if_neg (by omega), hp, if_neg (by omega)]
set_option maxHeartbeats 1000000 in
theorem plain_any (r : Int) (w : World) (hs : Signs w) : Calls Tryd.prog 9 #[.int .i32 r] w fun e w' => e = .returned (.int .u8 (CH.plain r)) ∧ Below w.heap.size w w' := by
  have HS := hide hs
  clear hs
  have cs : (32 ≤ r ∧ r ≤ 126) ∨ r < 32 ∨ 126 < r := by omega
  rcases cs with h | h
  · have E := hide (plain_self h.1 h.2)
    have wr : IntKind.u8.wrap r = r := IntWalk.u8_in _ (by omega)
    go_enter Tryd.func9, Tryd.ntmps9
    go_wp2
    go_ret
    exact ⟨c_int E.out.symm, Below.refl _ _⟩
  · have hp := CH.place_le r
    have key : ∀ d : Bool, d = decide (32 ≤ r) → (d = true → decide (r ≤ 126) = false) := by
      rintro d rfl
      simp
      omega
    by_cases hk : CH.place r < 31
    · generalize hkk : CH.place r = k at hk hp
      obtain ⟨u1, u2⟩ := undraw_at hk hkk
      have U := hide (fun w' h => undraw_is r _ _ u1 u2 w' h)
      have E := hide (plain_sign h hk hkk)
      have SP := hide (fun w' (h : Signs w') => signs_plain h k hk)
      generalize CH.plainAt k = y at E SP
      clear u1 u2 hkk hp key
      rcases h with h | h
      all_goals
        (try have h' : 32 ≤ r := by omega)
        go_enter Tryd.func9, Tryd.ntmps9
        go_wp2_with fail
        refine (U.out _ HS.out).mono ?_
        rintro e w1 ⟨rfl, b1⟩
        have hc := SP.out _ (HS.out.keep b1)
        go_wp2_with fail
        go_ret
        exact ⟨c_int E.out.symm, b1⟩
    · have hkk : CH.place r = 31 := by omega
      obtain ⟨u1, u2⟩ := undraw_none hkk
      have U := hide (fun w' h => undraw_is r _ _ u1 u2 w' h)
      have E := hide (plain_other h hkk)
      clear u1 u2 hkk hp key
      rcases h with h | h
      all_goals
        (try have h' : 32 ≤ r := by omega)
        go_enter Tryd.func9, Tryd.ntmps9
        go_wp2_with fail
        refine (U.out _ HS.out).mono ?_
        rintro e w1 ⟨rfl, b1⟩
        go_wp2_with fail
        go_ret
        exact ⟨c_int E.out.symm, b1⟩
theorem plain_is (r p : Int) (h : CH.plain r = p) (w : World) (hs : Signs w) : Calls Tryd.prog 9 #[.int .i32 r] w fun e w' => e = .returned (.int .u8 p) ∧ Below w.heap.size w w' := by
  subst h
  exact plain_any r w hs
def zero31 : Array Value := #[.int .i32 0, .int .i32 0, .int .i32 0, .int .i32 0, .int .i32 0, .int .i32 0, .int .i32 0, .int .i32 0, .int .i32 0, .int .i32 0, .int .i32 0, .int .i32 0, .int .i32 0, .int .i32 0, .int .i32 0, .int .i32 0, .int .i32 0, .int .i32 0, .int .i32 0, .int .i32 0, .int .i32 0, .int .i32 0, .int .i32 0, .int .i32 0, .int .i32 0, .int .i32 0, .int .i32 0, .int .i32 0, .int .i32 0, .int .i32 0, .int .i32 0]
theorem make31 (w : World) : (Instr.makeSlice 27 (.int .i64 0) (.int .i64 31)).run Tryd.prog w = .ok (.slice (some ⟨w.heap.size, 0, none⟩) 0 31) (w.alloc (.cells zero31 21)) := by kernel_rfl
/-- a call that gives back a new slice of runes -/
def Runes (w : World) (l : List Int) (e : Ending) (w' : World) : Prop := ∃ v, e = .returned v ∧ w'.ownsRow w.heap.size 21 1 v l.length (i32s l) ∧ Below w.heap.size w w'
set_option maxHeartbeats 2000000 in
theorem drawn_any (w : World) (hs : Signs w) : Calls Tryd.prog 11 #[] w (Runes w CH.drawn) := by
  obtain ⟨i0, hi, hz0, hz1, hz2⟩ := info_parts info_i32
  obtain ⟨tt, hg⟩ := hs
  have lt : 0 < w.heap.size := (Array.getElem?_eq_some_iff.1 hg).1
  have SI := hide sign_index
  have SC := hide size_signs
  have MK := make31
  have hz31 : zero31.size = 31 * 1 := rfl
  generalize zero31 = zs at MK hz31
  generalize hcs : signCells = cs at hg SI SC
  clear hcs
  have hg' : (w.alloc (.cells zs 21)).heap[0]? = some (.cells cs tt (0, 0)) := (Below.heap_alloc w _ _ lt).trans hg
  have own0 : (w.alloc (.cells zs 21)).ownsRow w.heap.size 21 1 (.slice (some ⟨w.heap.size, 0, none⟩) 0 31) 0 [] := World.ownsRow_made w zs 31 (Nat.le_refl _) (by simp [maxLen]) hz31
  have HL := hide CH.drawn_len
  have OWN := hide own0
  clear own0 hg hz31
  go_enter Tryd.func11, Tryd.ntmps11
  go_wp2_with (refine wpList_load_row rfl 38 _ rfl 0 rfl tt cs (0, 0) _ hg' Tryd.underlying38 rfl SC.out ?_)
  go_loopw [1, 6] (fun v i wr => ∃ k : Nat, k ≤ 31 ∧ i = .int .i64 k ∧ wr.ownsRow w.heap.size 21 1 v k (i32s (CH.drawn.take k)) ∧ Below w.heap.size w wr) (fun _ i _ => 31 - (intOf i).toNat)
  case atStart => exact ⟨0, by omega, rfl, OWN.out, (Below.refl _ _).alloc (Nat.le_refl _) _⟩
  case round =>
    obtain ⟨k, hk, rfl, hown, hbel⟩ := hrel
    have hsz := hbel.size
    by_cases hlt : k < 31
    · have si := fun w' => SI.out w' k hlt
      have E := hide (show CH.drawn.take (k + 1) = CH.drawn.take k ++ [CH.drawnAt k] by rw [List.take_add_one, CH.drawnAt_is hlt]; rfl)
      generalize CH.drawnAt k = x at si E
      generalize CH.plainAt k = y at si
      have hown' := own_alloc hown (.cells #[.int .i32 x, .int .u8 y] 37)
      go_wp2_with (at_builtin; refine wpList_app1 rfl (.tmp 9) (.tmp 12) 27 rfl w.heap.size 21 i0 _ 4 Tryd.underlying27 hi hz0 hz1 hz2 rfl u1 k _ rfl hown' _ _ _ rfl (by simp) rfl (by omega) (by omega) (by simp; omega) ?_; intro v1 w1 hown1 hg1 hm1)
      go_roundw
      case rel =>
        refine ⟨k + 1, by omega, by go_num, ?_, (hbel.alloc hsz _).grown hg1 (by simp; omega) (fun g hg => (hown.lt g hg).1)⟩
        rw [E.out]
        simpa [i32s] using hown1
      case measure => simp [intOf]; omega
    · obtain rfl : k = 31 := by omega
      go_wp2
      go_ret
      refine ⟨u1, rfl, ?_, hbel⟩
      rw [List.take_of_length_le (by rw [HL.out]; omega)] at hown
      rw [HL.out]
      exact hown
end Go.Proofs.YtfadadpbomhbnaaDoor
