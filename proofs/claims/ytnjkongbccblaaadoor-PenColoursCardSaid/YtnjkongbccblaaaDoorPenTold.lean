/- The contract of package pen's told: a colour behind 38 or 48. -/
import Derived.Test.YtnjkongbccblaaaDoorPenFun
import Derived.Test.YtnjkongbccblaaaDoorRoomy64
import Derived.Deep.QuietTactic
import Derived.BigQuiet
set_option maxRecDepth 100000
namespace Go.Proofs.YtnjkongbccblaaaDoor
open Go.RowKit
set_option linter.unusedVariables false
theorem argAt_of {l : List Int} {i : Nat} {x : Int} (h : l[i]? = some x) : argAt l i = ((PS.pos x : Nat) : Int) := by
  unfold argAt
  rw [List.getD_eq_getElem?_getD, h]
  rfl
/-- what told leaves -/
def ToldP (z : Int) (A : Option Addr) (n cp B : Nat) (l : List Int) (w : World) (e : Ending) (w' : World) : Prop :=
  (∃ m, w' = w.drewN m) ∧ ∃ A' n' c', e = .returned (.tuple #[.int .i64 z, .slice A' n' c']) ∧ Seen w B A' n' (j64s (l.drop (PS.wide l).2)) ∧ n' ≤ c' ∧ n' ≤ n
theorem told_none {z : Int} {A : Option Addr} {n cp B m : Nat} {l : List Int} {w : World} (hl : (PS.wide l).2 = l.length) : ToldP z A n cp B l w (.returned (.tuple #[.int .i64 z, .slice none 0 0])) (w.drewN m) :=
  ⟨⟨m, rfl⟩, none, 0, 0, rfl, by rw [hl, List.drop_length]; exact Seen.nil_ _ _ _, Nat.le_refl _, Nat.zero_le _⟩
theorem told_none0 {z : Int} {A : Option Addr} {n cp B : Nat} {l : List Int} {w : World} (hl : (PS.wide l).2 = l.length) : ToldP z A n cp B l w (.returned (.tuple #[.int .i64 z, .slice none 0 0])) w := told_none (m := 0) hl
theorem add_two (ad : Addr) {k : Nat} (hk : k ≠ 0) : ad.add k = ⟨ad.block, ad.off + k, none⟩ := by
  unfold Addr.add
  rw [if_neg hk]
theorem told_drop1 {z : Int} {ad : Addr} {n cp B m k : Nat} {l : List Int} {w : World} (hl : (PS.wide l).2 = k) (h0 : k ≠ 0) (hk : k ≤ n) (hnc : n ≤ cp) (hA : Seen w B (some ad) n (j64s l)) (hc : cp = k) :
    ToldP z (some ad) n cp B l w (.returned (.tuple #[.int .i64 z, .slice (some ad) (n - k) 0])) (w.drewN m) := by
  have h := hA.drop hk hnc
  rw [if_pos hc] at h
  refine ⟨⟨m, rfl⟩, _, _, _, rfl, ?_, by omega, by omega⟩
  rw [hl]
  unfold j64s at h ⊢
  rw [List.map_drop]
  exact h
theorem told_drop2 {z : Int} {ad : Addr} {n cp B m k : Nat} {l : List Int} {w : World} (hl : (PS.wide l).2 = k) (h0 : k ≠ 0) (hk : k ≤ n) (hnc : n ≤ cp) (hA : Seen w B (some ad) n (j64s l)) (hc : ¬ cp = k) :
    ToldP z (some ad) n cp B l w (.returned (.tuple #[.int .i64 z, .slice (some ⟨ad.block, ad.off + k, none⟩) (n - k) (cp - k)])) (w.drewN m) := by
  rw [← add_two ad h0]
  have h := hA.drop hk hnc
  rw [if_neg hc] at h
  refine ⟨⟨m, rfl⟩, _, _, _, rfl, ?_, by omega, by omega⟩
  rw [hl]
  unfold j64s at h ⊢
  rw [List.map_drop]
  exact h
set_option maxHeartbeats 4000000 in
theorem told_short (c : Int) (A : Option Addr) (n cp B : Nat) (l : List Int) (w : World) (hA : Seen w B A n (j64s l)) (hn : n < 2) (hl : l.length = n) :
    Calls Tryd.prog 20 #[.int .i64 c, .slice A n cp] w (ToldP c A n cp B l w) := by
  have E := hide (show (PS.wide l).2 = l.length by rw [wide_short (by omega)])
  clear hA hl
  go_enter Tryd.func20, Tryd.ntmps20
  go_wp2_with fail
  refine bodyPost_ret (v := .tuple #[.int .i64 c, .slice none 0 0]) (by simp [results, Tryd.results20, go_sem]) rfl (told_none0 E.out)
set_option maxHeartbeats 4000000 in
theorem told_five (c : Int) (ad : Addr) (n cp B b : Nat) (l : List Int) (x : Int) (w : World) (z : Int) (hA : Seen w B (some ad) n (j64s l)) (hn : 2 ≤ n) (hn1 : n ≤ 1048576) (hnc : n ≤ cp) (h2 : (PS.wide l).2 = 2)
    (c0 : w.cell? ad = some (.int .i64 5)) (c1 : w.cell? ⟨ad.block, ad.off + 1, none⟩ = some (.int .i64 x)) (hx0 : -1 ≤ x) (hx : PS.pos x = b) (hx1 : x ≤ 9223372036854775807) (hz : z = if b ≤ 255 then (b : Int) else c) :
    Calls Tryd.prog 20 #[.int .i64 c, .slice (some ad) n cp] w (ToldP z (some ad) n cp B l w) := by
  have M := hide fun w' => meant_is x b hx hx0 w'
  have hb : b ≤ 9223372036854775807 := by unfold PS.pos at hx; omega
  have D1 := hide fun m z h => told_drop1 (z := z) (m := m) h2 (by decide) hn hnc hA h
  have D2 := hide fun m z h => told_drop2 (z := z) (m := m) h2 (by decide) hn hnc hA h
  clear hA h2 hx
  by_cases h : b ≤ 255
  · rw [if_pos h] at hz
    subst hz
    have P := hide fun w' => isPart_is b true (decide_eq_true h) hb w'
    go_enter Tryd.func20, Tryd.ntmps20
    go_wp2_with fail
    refine (M.out _).mono ?_
    rintro e w' ⟨rfl, rfl⟩
    go_wp2_with fail
    refine (P.out _).mono ?_
    rintro e w' ⟨rfl, rfl⟩
    go_wp2_with fail
    go_quiet (fail)
    go_wp2_with fail
    all_goals first
      | exact bodyPost_ret (v := .tuple #[.int .i64 b, .slice (some ad) (n - 2) 0]) (by simp [results, Tryd.results20, go_sem] <;> omega) rfl (D1.out _ _ (by assumption))
      | exact bodyPost_ret (v := .tuple #[.int .i64 b, .slice (some ⟨ad.block, ad.off + 2, none⟩) (n - 2) (cp - 2)]) (by simp [results, Tryd.results20, go_sem]) rfl (D2.out _ _ (by assumption))
  · rw [if_neg h] at hz
    subst hz
    have P := hide fun w' => isPart_is b false (decide_eq_false h) hb w'
    go_enter Tryd.func20, Tryd.ntmps20
    go_wp2_with fail
    refine (M.out _).mono ?_
    rintro e w' ⟨rfl, rfl⟩
    go_wp2_with fail
    refine (P.out _).mono ?_
    rintro e w' ⟨rfl, rfl⟩
    go_wp2_with fail
    go_quiet (fail)
    go_wp2_with fail
    all_goals first
      | exact bodyPost_ret (v := .tuple #[.int .i64 z, .slice (some ad) (n - 2) 0]) (by simp [results, Tryd.results20, go_sem] <;> omega) rfl (D1.out _ _ (by assumption))
      | exact bodyPost_ret (v := .tuple #[.int .i64 z, .slice (some ⟨ad.block, ad.off + 2, none⟩) (n - 2) (cp - 2)]) (by simp [results, Tryd.results20, go_sem]) rfl (D2.out _ _ (by assumption))
set_option maxHeartbeats 4000000 in
theorem told_other (c : Int) (ad : Addr) (n cp B : Nat) (l : List Int) (x : Int) (w : World) (hn : 2 ≤ n) (h2 : (PS.wide l).2 = l.length) (c0 : w.cell? ad = some (.int .i64 x)) (h5 : (x == 5) = false) (ho : n ≤ 3 ∨ (4 ≤ n ∧ (x == 2) = false)) :
    Calls Tryd.prog 20 #[.int .i64 c, .slice (some ad) n cp] w (ToldP c (some ad) n cp B l w) := by
  have E := hide h2
  clear h2
  rcases ho with ho | ⟨ho, h6⟩
  all_goals
    go_enter Tryd.func20, Tryd.ntmps20
    go_wp2_with fail
    exact bodyPost_ret (v := .tuple #[.int .i64 c, .slice none 0 0]) (by simp [results, Tryd.results20, go_sem]) rfl (told_none0 E.out)
set_option maxHeartbeats 8000000 in
theorem told_twoa (c : Int) (ad : Addr) (n cp B r g b : Nat) (l : List Int) (x y z : Int) (w : World) (hA : Seen w B (some ad) n (j64s l)) (hn : 4 ≤ n) (hn1 : n ≤ 1048576) (hnc : n ≤ cp) (h4 : (PS.wide l).2 = 4)
    (c0 : w.cell? ad = some (.int .i64 2)) (c1 : w.cell? ⟨ad.block, ad.off + 1, none⟩ = some (.int .i64 x)) (c2 : w.cell? ⟨ad.block, ad.off + 2, none⟩ = some (.int .i64 y)) (c3 : w.cell? ⟨ad.block, ad.off + 3, none⟩ = some (.int .i64 z))
    (hx0 : -1 ≤ x) (hx : PS.pos x = r) (hx1 : x ≤ 9223372036854775807) (hy0 : -1 ≤ y) (hy : PS.pos y = g) (hy1 : y ≤ 9223372036854775807) (hz0 : -1 ≤ z) (hz : PS.pos z = b) (hz1 : z ≤ 9223372036854775807) (h : ¬ r ≤ 255) :
    Calls Tryd.prog 20 #[.int .i64 c, .slice (some ad) n cp] w (ToldP c (some ad) n cp B l w) := by
  have MX := fun w' => meant_is x r hx hx0 w'
  have MY := fun w' => meant_is y g hy hy0 w'
  have MZ := fun w' => meant_is z b hz hz0 w'
  have M : Hid (∀ w' u, (u = x ∨ u = y ∨ u = z) → Calls Tryd.prog 19 #[.int .i64 u] w' fun e w2 => e = .returned (.int .i64 (PS.pos u : Nat)) ∧ w2 = w') := hide fun w' u hu => by
    rcases hu with rfl | rfl | rfl
    · rw [hx]; exact (MX _).mono fun _ _ h => ⟨h.1, h.2.symm⟩
    · rw [hy]; exact (MY _).mono fun _ _ h => ⟨h.1, h.2.symm⟩
    · rw [hz]; exact (MZ _).mono fun _ _ h => ⟨h.1, h.2.symm⟩
  have hr : r ≤ 9223372036854775807 := by unfold PS.pos at hx; omega
  have hg : g ≤ 9223372036854775807 := by unfold PS.pos at hy; omega
  have hb : b ≤ 9223372036854775807 := by unfold PS.pos at hz; omega
  have D1 := hide fun m z h => told_drop1 (z := z) (m := m) h4 (by decide) hn hnc hA h
  have D2 := hide fun m z h => told_drop2 (z := z) (m := m) h4 (by decide) hn hnc hA h
  have P0 := hide fun w' => isPart_is r false (decide_eq_false h) hr w'
  subst hx hy hz
  clear hA h4 MX MY MZ
  go_enter Tryd.func20, Tryd.ntmps20
  go_wp2_with fail
  go_quiet (first | (go_at_call 19; exact Calls.quiet_of_same (M.out _ _ (by simp))))
  go_wp2_with fail
  refine (P0.out _).mono ?_
  rintro e w' ⟨rfl, rfl⟩
  go_wp2_with fail
  go_quiet (fail)
  go_wp2_with fail
  all_goals first
    | exact bodyPost_ret (v := .tuple #[.int .i64 c, .slice (some ad) (n - 4) 0]) (by simp [results, Tryd.results20, go_sem] <;> omega) rfl (D1.out _ _ (by assumption))
    | exact bodyPost_ret (v := .tuple #[.int .i64 c, .slice (some ⟨ad.block, ad.off + 4, none⟩) (n - 4) (cp - 4)]) (by simp [results, Tryd.results20, go_sem]) rfl (D2.out _ _ (by assumption))
set_option maxHeartbeats 8000000 in
theorem told_twob (c : Int) (ad : Addr) (n cp B r g b : Nat) (l : List Int) (x y z : Int) (w : World) (hA : Seen w B (some ad) n (j64s l)) (hn : 4 ≤ n) (hn1 : n ≤ 1048576) (hnc : n ≤ cp) (h4 : (PS.wide l).2 = 4)
    (c0 : w.cell? ad = some (.int .i64 2)) (c1 : w.cell? ⟨ad.block, ad.off + 1, none⟩ = some (.int .i64 x)) (c2 : w.cell? ⟨ad.block, ad.off + 2, none⟩ = some (.int .i64 y)) (c3 : w.cell? ⟨ad.block, ad.off + 3, none⟩ = some (.int .i64 z))
    (hx0 : -1 ≤ x) (hx : PS.pos x = r) (hx1 : x ≤ 9223372036854775807) (hy0 : -1 ≤ y) (hy : PS.pos y = g) (hy1 : y ≤ 9223372036854775807) (hz0 : -1 ≤ z) (hz : PS.pos z = b) (hz1 : z ≤ 9223372036854775807) (h : r ≤ 255) (h1 : ¬ g ≤ 255) :
    Calls Tryd.prog 20 #[.int .i64 c, .slice (some ad) n cp] w (ToldP c (some ad) n cp B l w) := by
  have MX := fun w' => meant_is x r hx hx0 w'
  have MY := fun w' => meant_is y g hy hy0 w'
  have MZ := fun w' => meant_is z b hz hz0 w'
  have M : Hid (∀ w' u, (u = x ∨ u = y ∨ u = z) → Calls Tryd.prog 19 #[.int .i64 u] w' fun e w2 => e = .returned (.int .i64 (PS.pos u : Nat)) ∧ w2 = w') := hide fun w' u hu => by
    rcases hu with rfl | rfl | rfl
    · rw [hx]; exact (MX _).mono fun _ _ h => ⟨h.1, h.2.symm⟩
    · rw [hy]; exact (MY _).mono fun _ _ h => ⟨h.1, h.2.symm⟩
    · rw [hz]; exact (MZ _).mono fun _ _ h => ⟨h.1, h.2.symm⟩
  have hr : r ≤ 9223372036854775807 := by unfold PS.pos at hx; omega
  have hg : g ≤ 9223372036854775807 := by unfold PS.pos at hy; omega
  have hb : b ≤ 9223372036854775807 := by unfold PS.pos at hz; omega
  have D1 := hide fun m z h => told_drop1 (z := z) (m := m) h4 (by decide) hn hnc hA h
  have D2 := hide fun m z h => told_drop2 (z := z) (m := m) h4 (by decide) hn hnc hA h
  have P0 := hide fun w' => isPart_is r true (decide_eq_true h) hr w'
  have P1 := hide fun w' => isPart_is g false (decide_eq_false h1) hg w'
  subst hx hy hz
  clear hA h4 MX MY MZ
  go_enter Tryd.func20, Tryd.ntmps20
  go_wp2_with fail
  go_quiet (first | (go_at_call 19; exact Calls.quiet_of_same (M.out _ _ (by simp))))
  go_wp2_with fail
  refine (P0.out _).mono ?_
  rintro e w' ⟨rfl, rfl⟩
  go_wp2_with fail
  refine (P1.out _).mono ?_
  rintro e w' ⟨rfl, rfl⟩
  go_wp2_with fail
  go_quiet (fail)
  go_wp2_with fail
  all_goals first
    | exact bodyPost_ret (v := .tuple #[.int .i64 c, .slice (some ad) (n - 4) 0]) (by simp [results, Tryd.results20, go_sem] <;> omega) rfl (D1.out _ _ (by assumption))
    | exact bodyPost_ret (v := .tuple #[.int .i64 c, .slice (some ⟨ad.block, ad.off + 4, none⟩) (n - 4) (cp - 4)]) (by simp [results, Tryd.results20, go_sem]) rfl (D2.out _ _ (by assumption))
set_option maxHeartbeats 8000000 in
theorem told_twoc (c : Int) (ad : Addr) (n cp B r g b : Nat) (l : List Int) (x y z : Int) (w : World) (hA : Seen w B (some ad) n (j64s l)) (hn : 4 ≤ n) (hn1 : n ≤ 1048576) (hnc : n ≤ cp) (h4 : (PS.wide l).2 = 4)
    (c0 : w.cell? ad = some (.int .i64 2)) (c1 : w.cell? ⟨ad.block, ad.off + 1, none⟩ = some (.int .i64 x)) (c2 : w.cell? ⟨ad.block, ad.off + 2, none⟩ = some (.int .i64 y)) (c3 : w.cell? ⟨ad.block, ad.off + 3, none⟩ = some (.int .i64 z))
    (hx0 : -1 ≤ x) (hx : PS.pos x = r) (hx1 : x ≤ 9223372036854775807) (hy0 : -1 ≤ y) (hy : PS.pos y = g) (hy1 : y ≤ 9223372036854775807) (hz0 : -1 ≤ z) (hz : PS.pos z = b) (hz1 : z ≤ 9223372036854775807) (h : r ≤ 255) (h1 : g ≤ 255) (h2 : ¬ b ≤ 255) :
    Calls Tryd.prog 20 #[.int .i64 c, .slice (some ad) n cp] w (ToldP c (some ad) n cp B l w) := by
  have MX := fun w' => meant_is x r hx hx0 w'
  have MY := fun w' => meant_is y g hy hy0 w'
  have MZ := fun w' => meant_is z b hz hz0 w'
  have M : Hid (∀ w' u, (u = x ∨ u = y ∨ u = z) → Calls Tryd.prog 19 #[.int .i64 u] w' fun e w2 => e = .returned (.int .i64 (PS.pos u : Nat)) ∧ w2 = w') := hide fun w' u hu => by
    rcases hu with rfl | rfl | rfl
    · rw [hx]; exact (MX _).mono fun _ _ h => ⟨h.1, h.2.symm⟩
    · rw [hy]; exact (MY _).mono fun _ _ h => ⟨h.1, h.2.symm⟩
    · rw [hz]; exact (MZ _).mono fun _ _ h => ⟨h.1, h.2.symm⟩
  have hr : r ≤ 9223372036854775807 := by unfold PS.pos at hx; omega
  have hg : g ≤ 9223372036854775807 := by unfold PS.pos at hy; omega
  have hb : b ≤ 9223372036854775807 := by unfold PS.pos at hz; omega
  have D1 := hide fun m z h => told_drop1 (z := z) (m := m) h4 (by decide) hn hnc hA h
  have D2 := hide fun m z h => told_drop2 (z := z) (m := m) h4 (by decide) hn hnc hA h
  have P0 := hide fun w' => isPart_is r true (decide_eq_true h) hr w'
  have P1 := hide fun w' => isPart_is g true (decide_eq_true h1) hg w'
  have P2 := hide fun w' => isPart_is b false (decide_eq_false h2) hb w'
  subst hx hy hz
  clear hA h4 MX MY MZ
  go_enter Tryd.func20, Tryd.ntmps20
  go_wp2_with fail
  go_quiet (first | (go_at_call 19; exact Calls.quiet_of_same (M.out _ _ (by simp))))
  go_wp2_with fail
  refine (P0.out _).mono ?_
  rintro e w' ⟨rfl, rfl⟩
  go_wp2_with fail
  refine (P1.out _).mono ?_
  rintro e w' ⟨rfl, rfl⟩
  go_wp2_with fail
  refine (P2.out _).mono ?_
  rintro e w' ⟨rfl, rfl⟩
  go_wp2_with fail
  go_quiet (fail)
  go_wp2_with fail
  all_goals first
    | exact bodyPost_ret (v := .tuple #[.int .i64 c, .slice (some ad) (n - 4) 0]) (by simp [results, Tryd.results20, go_sem] <;> omega) rfl (D1.out _ _ (by assumption))
    | exact bodyPost_ret (v := .tuple #[.int .i64 c, .slice (some ⟨ad.block, ad.off + 4, none⟩) (n - 4) (cp - 4)]) (by simp [results, Tryd.results20, go_sem]) rfl (D2.out _ _ (by assumption))
set_option maxHeartbeats 8000000 in
theorem told_twod (c : Int) (ad : Addr) (n cp B r g b : Nat) (l : List Int) (x y z : Int) (w : World) (hA : Seen w B (some ad) n (j64s l)) (hn : 4 ≤ n) (hn1 : n ≤ 1048576) (hnc : n ≤ cp) (h4 : (PS.wide l).2 = 4)
    (c0 : w.cell? ad = some (.int .i64 2)) (c1 : w.cell? ⟨ad.block, ad.off + 1, none⟩ = some (.int .i64 x)) (c2 : w.cell? ⟨ad.block, ad.off + 2, none⟩ = some (.int .i64 y)) (c3 : w.cell? ⟨ad.block, ad.off + 3, none⟩ = some (.int .i64 z))
    (hx0 : -1 ≤ x) (hx : PS.pos x = r) (hx1 : x ≤ 9223372036854775807) (hy0 : -1 ≤ y) (hy : PS.pos y = g) (hy1 : y ≤ 9223372036854775807) (hz0 : -1 ≤ z) (hz : PS.pos z = b) (hz1 : z ≤ 9223372036854775807) (h : r ≤ 255) (h1 : g ≤ 255) (h2 : b ≤ 255) :
    Calls Tryd.prog 20 #[.int .i64 c, .slice (some ad) n cp] w (ToldP (16777216 + (r : Int) * 65536 + (g : Int) * 256 + (b : Int)) (some ad) n cp B l w) := by
  have MX := fun w' => meant_is x r hx hx0 w'
  have MY := fun w' => meant_is y g hy hy0 w'
  have MZ := fun w' => meant_is z b hz hz0 w'
  have M : Hid (∀ w' u, (u = x ∨ u = y ∨ u = z) → Calls Tryd.prog 19 #[.int .i64 u] w' fun e w2 => e = .returned (.int .i64 (PS.pos u : Nat)) ∧ w2 = w') := hide fun w' u hu => by
    rcases hu with rfl | rfl | rfl
    · rw [hx]; exact (MX _).mono fun _ _ h => ⟨h.1, h.2.symm⟩
    · rw [hy]; exact (MY _).mono fun _ _ h => ⟨h.1, h.2.symm⟩
    · rw [hz]; exact (MZ _).mono fun _ _ h => ⟨h.1, h.2.symm⟩
  have hr : r ≤ 9223372036854775807 := by unfold PS.pos at hx; omega
  have hg : g ≤ 9223372036854775807 := by unfold PS.pos at hy; omega
  have hb : b ≤ 9223372036854775807 := by unfold PS.pos at hz; omega
  have D1 := hide fun m z h => told_drop1 (z := z) (m := m) h4 (by decide) hn hnc hA h
  have D2 := hide fun m z h => told_drop2 (z := z) (m := m) h4 (by decide) hn hnc hA h
  have P0 := hide fun w' => isPart_is r true (decide_eq_true h) hr w'
  have P1 := hide fun w' => isPart_is g true (decide_eq_true h1) hg w'
  have P2 := hide fun w' => isPart_is b true (decide_eq_true h2) hb w'
  have j1 := i64_join 24 16777216 ((r : Int) * 65536) (by omega) (by decide) (by omega) (by show (r : Int) * 65536 < 16777216; omega) (by omega)
  have j2 := i64_join 16 (16777216 + (r : Int) * 65536) ((g : Int) * 256) (by omega) (by show (16777216 + (r : Int) * 65536) % 65536 = 0; omega) (by omega) (by show (g : Int) * 256 < 65536; omega) (by omega)
  have j3 := i64_join 8 (16777216 + (r : Int) * 65536 + (g : Int) * 256) (b : Int) (by omega) (by show (16777216 + (r : Int) * 65536 + (g : Int) * 256) % 256 = 0; omega) (by omega) (by show (b : Int) < 256; omega) (by omega)
  have J1 := hide j1
  have J2 := hide j2
  have J3 := hide j3
  clear j1 j2 j3
  subst hx hy hz
  clear hA h4 MX MY MZ
  go_enter Tryd.func20, Tryd.ntmps20
  go_wp2_with fail
  go_quiet (first | (go_at_call 19; exact Calls.quiet_of_same (M.out _ _ (by simp))))
  go_wp2_with fail
  refine (P0.out _).mono ?_
  rintro e w' ⟨rfl, rfl⟩
  go_wp2_with fail
  refine (P1.out _).mono ?_
  rintro e w' ⟨rfl, rfl⟩
  go_wp2_with fail
  refine (P2.out _).mono ?_
  rintro e w' ⟨rfl, rfl⟩
  go_wp2_with fail
  simp only [J1.out, J2.out, J3.out]
  go_quiet (fail)
  go_wp2_with fail
  all_goals first
    | exact bodyPost_ret (v := .tuple #[.int .i64 _, .slice (some ad) (n - 4) 0]) (by simp [results, Tryd.results20, go_sem] <;> omega) rfl (D1.out _ _ (by assumption))
    | exact bodyPost_ret (v := .tuple #[.int .i64 _, .slice (some ⟨ad.block, ad.off + 4, none⟩) (n - 4) (cp - 4)]) (by simp [results, Tryd.results20, go_sem]) rfl (D2.out _ _ (by assumption))
end Go.Proofs.YtnjkongbccblaaaDoor
