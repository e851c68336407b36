/- The document's own arg, wider, Apply. -/
import Derived.Test.YtnjkongbccblaaaDoorPenSpec
import Derived.Test.YtnjkongbccblaaaDoorLists
import Derived.Test.YtnjkongbccblaaaDoorEnds
set_option maxRecDepth 100000
namespace Go.Proofs.YtnjkongbccblaaaDoor
open Go.RowKit
set_option linter.unusedVariables false
/-- the list's number at i, from 0 on; beyond it 0 -/
def argAt (l : List Int) (i : Nat) : Int := ((PS.pos (l.getD i 0) : Nat) : Int)
theorem argAt_bd (l : List Int) (i : Nat) : 0 ≤ argAt l i := Int.natCast_nonneg _
set_option maxHeartbeats 1000000 in
theorem rarg_any (A : Option Addr) (n c B i : Nat) (l : List Int) (w : World) (hA : Seen w B A n (l.map (Value.int .i64))) (hn : n ≤ 1099511627776) (hi : i ≤ 3) (hl : ∀ x ∈ l, -9223372036854775808 ≤ x ∧ x ≤ 9223372036854775807) :
    Calls Tryd.prog 30 #[.slice A n c, .int .i64 i] w fun e w' => e = .returned (.int .i64 (argAt l i)) ∧ w = w' := by
  have hlen : l.length = n := by simpa using hA.1
  by_cases h : i < n
  · obtain ⟨ad, u, rfl, _, hu, hc⟩ := hA.at_ h
    rw [List.getElem?_map] at hu
    obtain ⟨x, hx, rfl⟩ := Option.map_eq_some_iff.1 hu
    have E := hide (show argAt l i = max x 0 by
      unfold argAt PS.pos
      rw [List.getD_eq_getElem?_getD, hx]
      show (((max x 0).toNat : Nat) : Int) = _
      omega)
    obtain ⟨x0, x1⟩ := hl x (List.mem_of_getElem? hx)
    clear hu hx hA hlen hl
    by_cases hx0 : x < 0
    · go_enter Tryd.func30, Tryd.ntmps30
      go_wp2
      go_ret
      exact ⟨c_int (by rw [E.out]; omega), rfl⟩
    · go_enter Tryd.func30, Tryd.ntmps30
      go_wp2
      go_ret
      exact ⟨c_int (by rw [E.out]; omega), rfl⟩
  · have E := hide (show argAt l i = 0 by
      unfold argAt
      rw [List.getD_eq_getElem?_getD, List.getElem?_eq_none (by omega)]
      rfl)
    clear hA hlen hl
    go_enter Tryd.func30, Tryd.ntmps30
    go_wp2
    go_ret
    exact ⟨c_int E.out.symm, rfl⟩
theorem rarg_is (A : Option Addr) (n c B i : Nat) (l : List Int) (z : Int) (hz : argAt l i = z) (w : World) (hA : Seen w B A n (l.map (Value.int .i64))) (hn : n ≤ 1099511627776) (hi : i ≤ 3) (hl : ∀ x ∈ l, -9223372036854775808 ≤ x ∧ x ≤ 9223372036854775807) :
    Calls Tryd.prog 30 #[.slice A n c, .int .i64 i] w fun e w' => e = .returned (.int .i64 z) ∧ w = w' := by
  subst hz
  exact rarg_any A n c B i l w hA hn hi hl
/-- what wider says -/
def widerV (l : List Int) : Value := .tuple #[.int .i64 ((PS.wide l).1.getD (-2)), .int .i64 ((PS.wide l).2 : Nat)]
theorem wide_short {l : List Int} (h : l.length < 2) : PS.wide l = (none, l.length) := by
  rcases l with _ | ⟨a, _ | ⟨b, l⟩⟩
  · rfl
  · rfl
  · simp only [List.length_cons] at h
    omega
theorem wide_big5 {l : List Int} {x : Int} (h : 2 ≤ l.length) (h5 : l[0]? = some 5) (hx : argAt l 1 = x) (h2 : 255 < x) : PS.wide l = (none, 2) := by
  rcases l with _ | ⟨a, _ | ⟨b, l⟩⟩
  · simp at h
  · simp at h
  · have ha : a = 5 := by simpa using h5
    have hb : (PS.pos b : Int) = x := hx
    subst ha
    rcases l with _ | ⟨c, _ | ⟨d, l⟩⟩
    · show (if (5 : Int) = 5 ∧ PS.pos b ≤ 255 then some ((PS.pos b : Nat) : Int) else none, 2) = _
      rw [if_neg (by omega)]
    · show (if (5 : Int) = 5 then (if PS.pos b ≤ 255 then some ((PS.pos b : Nat) : Int) else none, 2) else (none, 3)) = _
      rw [if_pos rfl, if_neg (by omega)]
    · rw [PS.wide_four, if_pos rfl, if_neg (by omega)]
theorem wide_small5 {l : List Int} {x : Int} (h : 2 ≤ l.length) (h5 : l[0]? = some 5) (hx : argAt l 1 = x) (h2 : x ≤ 255) : PS.wide l = (some x, 2) := by
  rcases l with _ | ⟨a, _ | ⟨b, l⟩⟩
  · simp at h
  · simp at h
  · have ha : a = 5 := by simpa using h5
    have hb : (PS.pos b : Int) = x := hx
    subst ha
    rw [PS.wide_five b (by omega), hb]
theorem wide_other {l : List Int} {x : Int} (h : 2 ≤ l.length) (h0 : l[0]? = some x) (h5 : x ≠ 5) (h2 : l.length < 4 ∨ x ≠ 2) : PS.wide l = (none, l.length) := by
  rcases l with _ | ⟨a, _ | ⟨b, _ | ⟨c, _ | ⟨d, l⟩⟩⟩⟩
  · simp at h
  · simp at h
  · have ha : a = x := by simpa using h0
    show (if a = 5 ∧ PS.pos b ≤ 255 then some ((PS.pos b : Nat) : Int) else none, 2) = _
    rw [if_neg (by omega)]
    rfl
  · have ha : a = x := by simpa using h0
    show (if a = 5 then (if PS.pos b ≤ 255 then some ((PS.pos b : Nat) : Int) else none, 2) else (none, 3)) = _
    rw [if_neg (by omega)]
    rfl
  · have ha : a = x := by simpa using h0
    have : a ≠ 2 := by
      rcases h2 with h2 | h2
      · simp only [List.length_cons] at h2
        omega
      · omega
    rw [PS.wide_four, if_neg (by omega), if_neg this]
    rfl
theorem wide_two {l : List Int} {r g b : Int} (h : 4 ≤ l.length) (h0 : l[0]? = some 2) (hr : argAt l 1 = r) (hg : argAt l 2 = g) (hb : argAt l 3 = b) : PS.wide l = (if r ≤ 255 ∧ g ≤ 255 ∧ b ≤ 255 then some (16777216 + r * 65536 + g * 256 + b) else none, 4) := by
  rcases l with _ | ⟨a, _ | ⟨x, _ | ⟨y, _ | ⟨z, l⟩⟩⟩⟩
  · simp at h
  · simp at h
  · simp at h
  · simp at h
  · have ha : a = 2 := by simpa using h0
    have e1 : (PS.pos x : Int) = r := hr
    have e2 : (PS.pos y : Int) = g := hg
    have e3 : (PS.pos z : Int) = b := hb
    subst ha
    rw [PS.wide_four, if_neg (by decide), if_pos rfl, e1, e2, e3]
    by_cases hc : r ≤ 255 ∧ g ≤ 255 ∧ b ≤ 255
    · rw [if_pos hc, if_pos (by omega)]
    · rw [if_neg hc, if_neg (by omega)]
set_option maxHeartbeats 4000000 in
theorem rwider_any (A : Option Addr) (n c B : Nat) (l : List Int) (w : World) (hA : Seen w B A n (l.map (Value.int .i64))) (hn : n ≤ 1099511627776) (hl : ∀ x ∈ l, -9223372036854775808 ≤ x ∧ x ≤ 9223372036854775807) :
    Calls Tryd.prog 24 #[.slice A n c] w fun e w' => e = .returned (widerV l) ∧ w = w' := by
  have hlen : l.length = n := by simpa using hA.1
  have hc : ∀ v : Option Int × Nat, PS.wide l = v → widerV l = .tuple #[.int .i64 (v.1.getD (-2)), .int .i64 (v.2 : Nat)] := fun v h => by unfold widerV; rw [h]
  have b1 := argAt_bd l 1
  have b2 := argAt_bd l 2
  have b3 := argAt_bd l 3
  have R1 := hide fun w' h => rarg_is A n c B 1 l _ rfl w' h hn (by omega) hl
  have R2 := hide fun w' h => rarg_is A n c B 2 l _ rfl w' h hn (by omega) hl
  have R3 := hide fun w' h => rarg_is A n c B 3 l _ rfl w' h hn (by omega) hl
  have HA := hide hA
  generalize hr : argAt l 1 = r at R1 b1
  generalize hg : argAt l 2 = g at R2 b2
  generalize hb : argAt l 3 = b at R3 b3
  have HR := hide hr
  have HG := hide hg
  have HB := hide hb
  have HC := hide hc
  have HL := hide hlen
  clear hr hg hb hc hlen hl
  by_cases h2 : n < 2
  · have E := hide (HC.out _ (wide_short (by rw [HL.out]; exact h2)))
    rw [HL.out] at E
    clear hA
    go_enter Tryd.func24, Tryd.ntmps24
    go_wp2_with fail
    refine bodyPost_ret (v := .tuple #[.int .i64 (-2), .int .i64 n]) (by simp [results, Tryd.results24, go_sem]) rfl ⟨by rw [E.out]; rfl, rfl⟩
  · obtain ⟨ad, u, rfl, _, hu, hcell⟩ := hA.at_ (k := 0) (by omega)
    rw [List.getElem?_map] at hu
    obtain ⟨x, hx, rfl⟩ := Option.map_eq_some_iff.1 hu
    have HX := hide hx
    rw [show ad.add 0 = ad from by unfold Addr.add; simp] at hcell
    clear hA hu hx
    have cs : (x = 5 ∧ r ≤ 255) ∨ (x = 5 ∧ 255 < r) ∨ (x ≠ 5 ∧ n < 4) ∨ (x ≠ 5 ∧ x ≠ 2 ∧ 4 ≤ n) ∨ (x = 2 ∧ 4 ≤ n ∧ r ≤ 255 ∧ g ≤ 255 ∧ b ≤ 255) ∨ (x = 2 ∧ 4 ≤ n ∧ 255 < r) ∨ (x = 2 ∧ 4 ≤ n ∧ r ≤ 255 ∧ 255 < g) ∨ (x = 2 ∧ 4 ≤ n ∧ r ≤ 255 ∧ g ≤ 255 ∧ 255 < b) := by omega
    rcases cs with ⟨rfl, h⟩ | ⟨rfl, h⟩ | ⟨h5, h⟩ | ⟨h5, h2', h⟩ | ⟨rfl, h, hr, hg, hb⟩ | ⟨rfl, h, hr⟩ | ⟨rfl, h, hr, hg⟩ | ⟨rfl, h, hr, hg, hb⟩
    · have E := hide (HC.out _ (wide_small5 (by rw [HL.out]; omega) HX.out HR.out h))
      go_enter Tryd.func24, Tryd.ntmps24
      go_wp2_with fail
      refine (R1.out _ HA.out).mono ?_
      rintro e w' ⟨rfl, rfl⟩
      go_wp2_with fail
      refine (R1.out _ HA.out).mono ?_
      rintro e w' ⟨rfl, rfl⟩
      go_wp2_with fail
      refine bodyPost_ret (v := .tuple #[.int .i64 r, .int .i64 2]) (by simp [results, Tryd.results24, go_sem]) rfl ⟨by rw [E.out]; rfl, rfl⟩
    · have E := hide (HC.out _ (wide_big5 (by rw [HL.out]; omega) HX.out HR.out h))
      go_enter Tryd.func24, Tryd.ntmps24
      go_wp2_with fail
      refine (R1.out _ HA.out).mono ?_
      rintro e w' ⟨rfl, rfl⟩
      go_wp2_with fail
      refine bodyPost_ret (v := .tuple #[.int .i64 (-2), .int .i64 2]) (by simp [results, Tryd.results24, go_sem]) rfl ⟨by rw [E.out]; rfl, rfl⟩
    · have E := hide (HC.out _ (wide_other (by rw [HL.out]; omega) HX.out h5 (.inl (by rw [HL.out]; exact h))))
      rw [HL.out] at E
      have h5' : (x == 5) = false := by simpa using h5
      clear h5
      go_enter Tryd.func24, Tryd.ntmps24
      go_wp2_with fail
      refine bodyPost_ret (v := .tuple #[.int .i64 (-2), .int .i64 n]) (by simp [results, Tryd.results24, go_sem]) rfl ⟨by rw [E.out]; rfl, rfl⟩
    · have E := hide (HC.out _ (wide_other (by rw [HL.out]; omega) HX.out h5 (.inr h2')))
      rw [HL.out] at E
      have h5' : (x == 5) = false := by simpa using h5
      have h2'' : (x == 2) = false := by simpa using h2'
      clear h5 h2'
      go_enter Tryd.func24, Tryd.ntmps24
      go_wp2_with fail
      refine bodyPost_ret (v := .tuple #[.int .i64 (-2), .int .i64 n]) (by simp [results, Tryd.results24, go_sem]) rfl ⟨by rw [E.out]; rfl, rfl⟩
    · have E := hide (HC.out _ (wide_two (by rw [HL.out]; omega) HX.out HR.out HG.out HB.out))
      rw [if_pos ⟨hr, hg, hb⟩] at E
      go_enter Tryd.func24, Tryd.ntmps24
      go_wp2_with fail
      refine (R1.out _ HA.out).mono ?_
      rintro e w' ⟨rfl, rfl⟩
      go_wp2_with fail
      refine (R2.out _ HA.out).mono ?_
      rintro e w' ⟨rfl, rfl⟩
      go_wp2_with fail
      refine (R3.out _ HA.out).mono ?_
      rintro e w' ⟨rfl, rfl⟩
      go_wp2_with fail
      refine (R1.out _ HA.out).mono ?_
      rintro e w' ⟨rfl, rfl⟩
      go_wp2_with fail
      refine (R2.out _ HA.out).mono ?_
      rintro e w' ⟨rfl, rfl⟩
      go_wp2_with fail
      refine (R3.out _ HA.out).mono ?_
      rintro e w' ⟨rfl, rfl⟩
      go_wp2_with fail
      refine bodyPost_ret (v := .tuple #[.int .i64 (16777216 + r * 65536 + g * 256 + b), .int .i64 4]) (by simp [results, Tryd.results24, go_sem]) rfl ⟨by rw [E.out]; rfl, rfl⟩
    · have E := hide (HC.out _ (wide_two (by rw [HL.out]; omega) HX.out HR.out HG.out HB.out))
      rw [if_neg (by omega)] at E
      go_enter Tryd.func24, Tryd.ntmps24
      go_wp2_with fail
      refine (R1.out _ HA.out).mono ?_
      rintro e w' ⟨rfl, rfl⟩
      go_wp2_with fail
      refine bodyPost_ret (v := .tuple #[.int .i64 (-2), .int .i64 4]) (by simp [results, Tryd.results24, go_sem]) rfl ⟨by rw [E.out]; rfl, rfl⟩
    · have E := hide (HC.out _ (wide_two (by rw [HL.out]; omega) HX.out HR.out HG.out HB.out))
      rw [if_neg (by omega)] at E
      go_enter Tryd.func24, Tryd.ntmps24
      go_wp2_with fail
      refine (R1.out _ HA.out).mono ?_
      rintro e w' ⟨rfl, rfl⟩
      go_wp2_with fail
      refine (R2.out _ HA.out).mono ?_
      rintro e w' ⟨rfl, rfl⟩
      go_wp2_with fail
      refine bodyPost_ret (v := .tuple #[.int .i64 (-2), .int .i64 4]) (by simp [results, Tryd.results24, go_sem]) rfl ⟨by rw [E.out]; rfl, rfl⟩
    · have E := hide (HC.out _ (wide_two (by rw [HL.out]; omega) HX.out HR.out HG.out HB.out))
      rw [if_neg (by omega)] at E
      go_enter Tryd.func24, Tryd.ntmps24
      go_wp2_with fail
      refine (R1.out _ HA.out).mono ?_
      rintro e w' ⟨rfl, rfl⟩
      go_wp2_with fail
      refine (R2.out _ HA.out).mono ?_
      rintro e w' ⟨rfl, rfl⟩
      go_wp2_with fail
      refine (R3.out _ HA.out).mono ?_
      rintro e w' ⟨rfl, rfl⟩
      go_wp2_with fail
      refine bodyPost_ret (v := .tuple #[.int .i64 (-2), .int .i64 4]) (by simp [results, Tryd.results24, go_sem]) rfl ⟨by rw [E.out]; rfl, rfl⟩
end Go.Proofs.YtnjkongbccblaaaDoor
