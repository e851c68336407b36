/- CharsetTells: any byte, any rune: what is drawn, and back; the plain byte. -/
import Derived.Test.YtfadadpbomhbnaaDoorCharsetRuns
import Derived.Test.YtfadadpbomhbnaaDoorBook
namespace Go.Proofs.YtfadadpbomhbnaaDoor
open Go.RowKit
set_option linter.unusedVariables false
/-- what is undrawn among the first k of the drawn ones -/
def undrawTo (k : Nat) (r : Int) : Int := if CH.place r < k then 96 + (CH.place r : Int) else 0
def undrawnTo (k : Nat) (r : Int) : Bool := decide (CH.place r < k)
theorem undrawTo_hit {k : Nat} {r : Int} (h : CH.place r = k) : undrawTo (k + 1) r = 96 + (k : Int) ∧ undrawnTo (k + 1) r = true := by
  unfold undrawTo undrawnTo
  rw [h, if_pos (by omega)]
  simp
theorem undrawTo_miss {k : Nat} {r : Int} (h : CH.place r ≠ k) : undrawTo (k + 1) r = undrawTo k r ∧ undrawnTo (k + 1) r = undrawnTo k r := by
  unfold undrawTo undrawnTo
  by_cases hk : CH.place r < k
  · rw [if_pos hk, if_pos (by omega)]
    simp [hk]
    omega
  · rw [if_neg hk, if_neg (by omega)]
    simp [hk]
    omega
theorem seen_drawn {w : World} {B : Nat} {A : Option Addr} (h : Seen w B A 31 (i32s CH.drawn)) {k : Nat} (hk : k < 31) : ∃ ad, A = some ad ∧ w.cell? (ad.add k) = some (.int .i32 (CH.drawnAt k)) := by
  obtain ⟨ad, u, hA, _, hu, hc⟩ := h.at_ hk
  rw [i32s, List.getElem?_map, CH.drawnAt_is hk] at hu
  obtain rfl := Option.some.inj hu
  exact ⟨ad, hA, hc⟩
theorem draw_cases (b : Int) : (b = 95 ∧ 32 = CH.draw b) ∨ (96 ≤ b ∧ b ≤ 126 ∧ CH.draw b = CH.drawnAt (b - 96).toNat) ∨ (b < 95 ∧ b = CH.draw b) ∨ (126 < b ∧ b = CH.draw b) := by
  have cs : b = 95 ∨ (96 ≤ b ∧ b ≤ 126) ∨ b < 95 ∨ 126 < b := by omega
  rcases cs with rfl | h | h | h
  · exact .inl ⟨rfl, rfl⟩
  · refine .inr (.inl ⟨h.1, h.2, ?_⟩)
    have := draw_is_drawn (k := (b - 96).toNat) (by omega)
    rwa [show (96 : Int) + ((b - 96).toNat : Int) = b from by omega] at this
  · exact .inr (.inr (.inl ⟨h, (draw_is_plain (.inl h)).symm⟩))
  · exact .inr (.inr (.inr ⟨h, (draw_is_plain (.inr h)).symm⟩))
set_option maxHeartbeats 4000000 in
theorem charsetTells_any0 (b r at_ : Int) (w : World) (h0 : 0 ≤ b) (h1 : b < 256) (hs : Signs w) :
    Calls Tryd.prog 4 #[.int .u8 b, .int .i32 r, .int .i64 at_, .bool false] w fun e w' => e = .returned (.bool true) ∧ Below w.heap.size w w' := by
  have HS := hide hs
  clear hs
  obtain ⟨d, hd⟩ : ∃ d, CH.draw b = d := ⟨_, rfl⟩
  have DR := hide (fun w' h => draw_is b d hd w' h0 h1 h)
  obtain ⟨p, hp⟩ : ∃ p, CH.plain r = p := ⟨_, rfl⟩
  have P := hide (fun w' h => plain_is r p hp w' h)
  have Q := hide (fun w' => refPlain_is r p hp w')
  obtain ⟨u, hu⟩ : ∃ u, CH.undraw r = u := ⟨_, rfl⟩
  obtain ⟨ok, hok⟩ : ∃ ok, CH.undrawn r = ok := ⟨_, rfl⟩
  have U := hide (fun w' h => undraw_is r u ok hu hok w' h)
  have EU := hide (show undrawTo 31 r = u from hu)
  have EK := hide (show undrawnTo 31 r = ok from hok)
  have DC := hide (hd ▸ draw_cases b)
  have SR := hide refDrawn_any
  have HL := hide CH.drawn_len
  clear hd hp hu hok
  go_enter Tryd.func4, Tryd.ntmps4
  go_wp2_with fail
  refine (SR.out _).mono ?_
  intro e w1 h
  obtain ⟨A, c, rfl, hc, hm, hseen, b1⟩ := h.seen HL.out
  clear h
  have SN := hide hseen
  clear hseen
  go_wp2_with fail
  go_loopw [10, 11, 29] (fun x y i wr => ∃ k : Nat, k ≤ 31 ∧ i = .int .i64 k ∧ x = .int .u8 (undrawTo k r) ∧ y = .bool (undrawnTo k r) ∧ wr = w1) (fun _ _ i _ => 31 - (intOf i).toNat)
  case atStart => exact ⟨0, by omega, rfl, rfl, rfl, rfl⟩
  case round =>
    obtain ⟨k, hk, rfl, rfl, rfl, rfl⟩ := hrel
    obtain hlt | rfl : k < 31 ∨ k = 31 := by omega
    · obtain ⟨ad', hA, hcell'⟩ := seen_drawn SN.out hlt
      subst hA
      by_cases hx : CH.drawnAt k = r
      · obtain ⟨e1, e2⟩ := undrawTo_hit ((CH.drawnAt_iff hlt).1 hx)
        have E1 := hide e1
        have E2 := hide e2
        rw [hx] at hcell'
        clear hx e1 e2
        go_wp2
        go_roundw
        case rel => exact ⟨k + 1, by omega, by go_num, by rw [E1.out], by rw [E2.out], trivial⟩
        case measure => simp [intOf]; omega
      · obtain ⟨e1, e2⟩ := undrawTo_miss (k := k) (r := r) (fun e => hx ((CH.drawnAt_iff hlt).2 e))
        have E1 := hide e1
        have E2 := hide e2
        generalize CH.drawnAt k = x at hcell' hx
        have hx : (x == r) = false := by simpa using hx
        clear e1 e2
        go_wp2
        go_roundw
        case rel => exact ⟨k + 1, by omega, by go_num, by rw [E1.out], by rw [E2.out], trivial⟩
        case measure => simp [intOf]; omega
    · rw [EU.out, EK.out]
      rcases DC.out with ⟨rfl, rfl⟩ | ⟨g0, g1, hd⟩ | ⟨hb, rfl⟩ | ⟨hb, rfl⟩
      · go_wp2_with fail
        refine (U.out _ (HS.out.keep b1)).mono ?_
        rintro e w2 ⟨rfl, bb⟩
        have b2 := b1.trans (bb.mono b1.size)
        clear bb b1
        go_wp2_with fail
        refine (DR.out _ (HS.out.keep b2)).mono ?_
        rintro e w3 ⟨rfl, bb⟩
        have b3 := b2.trans (bb.mono b2.size)
        clear bb b2
        go_wp2_with fail
        refine (P.out _ (HS.out.keep b3)).mono ?_
        rintro e w4 ⟨rfl, bb⟩
        have b4 := b3.trans (bb.mono b3.size)
        clear bb b3
        go_wp2_with fail
        refine (Q.out _).mono ?_
        rintro e w5 ⟨rfl, bb⟩
        have b5 := b4.trans (bb.mono b4.size)
        clear bb b4
        go_wp2_with fail
        refine (charsetRuns_any _ (HS.out.keep b5)).mono ?_
        rintro e w6 ⟨rfl, bb⟩
        have b6 := b5.trans (bb.mono b5.size)
        clear bb b5
        go_wp2_with fail
        go_ret
        exact ⟨rfl, b6⟩
      · have hb : (b == 95) = false := by simp; omega
        have hj : (b - 96).toNat < 31 := by omega
        obtain ⟨ad', hA, hcell'⟩ := seen_drawn SN.out hj
        subst hA
        rw [← hd] at hcell'
        clear hd hj
        go_wp2_with fail
        refine (U.out _ (HS.out.keep b1)).mono ?_
        rintro e w2 ⟨rfl, bb⟩
        have b2 := b1.trans (bb.mono b1.size)
        clear bb b1
        go_wp2_with fail
        refine (DR.out _ (HS.out.keep b2)).mono ?_
        rintro e w3 ⟨rfl, bb⟩
        have b3 := b2.trans (bb.mono b2.size)
        clear bb b2
        go_wp2_with fail
        refine (P.out _ (HS.out.keep b3)).mono ?_
        rintro e w4 ⟨rfl, bb⟩
        have b4 := b3.trans (bb.mono b3.size)
        clear bb b3
        go_wp2_with fail
        refine (Q.out _).mono ?_
        rintro e w5 ⟨rfl, bb⟩
        have b5 := b4.trans (bb.mono b4.size)
        clear bb b4
        go_wp2_with fail
        refine (charsetRuns_any _ (HS.out.keep b5)).mono ?_
        rintro e w6 ⟨rfl, bb⟩
        have b6 := b5.trans (bb.mono b5.size)
        clear bb b5
        go_wp2_with fail
        go_ret
        exact ⟨rfl, b6⟩
      · have hb' : (b == 95) = false := by simp; omega
        go_wp2_with fail
        refine (U.out _ (HS.out.keep b1)).mono ?_
        rintro e w2 ⟨rfl, bb⟩
        have b2 := b1.trans (bb.mono b1.size)
        clear bb b1
        go_wp2_with fail
        refine (DR.out _ (HS.out.keep b2)).mono ?_
        rintro e w3 ⟨rfl, bb⟩
        have b3 := b2.trans (bb.mono b2.size)
        clear bb b2
        go_wp2_with fail
        refine (P.out _ (HS.out.keep b3)).mono ?_
        rintro e w4 ⟨rfl, bb⟩
        have b4 := b3.trans (bb.mono b3.size)
        clear bb b3
        go_wp2_with fail
        refine (Q.out _).mono ?_
        rintro e w5 ⟨rfl, bb⟩
        have b5 := b4.trans (bb.mono b4.size)
        clear bb b4
        go_wp2_with fail
        refine (charsetRuns_any _ (HS.out.keep b5)).mono ?_
        rintro e w6 ⟨rfl, bb⟩
        have b6 := b5.trans (bb.mono b5.size)
        clear bb b5
        go_wp2_with fail
        go_ret
        exact ⟨rfl, b6⟩
      · have hb' : (b == 95) = false := by simp; omega
        have hb2 : 96 ≤ b := by omega
        go_wp2_with fail
        refine (U.out _ (HS.out.keep b1)).mono ?_
        rintro e w2 ⟨rfl, bb⟩
        have b2 := b1.trans (bb.mono b1.size)
        clear bb b1
        go_wp2_with fail
        refine (DR.out _ (HS.out.keep b2)).mono ?_
        rintro e w3 ⟨rfl, bb⟩
        have b3 := b2.trans (bb.mono b2.size)
        clear bb b2
        go_wp2_with fail
        refine (P.out _ (HS.out.keep b3)).mono ?_
        rintro e w4 ⟨rfl, bb⟩
        have b4 := b3.trans (bb.mono b3.size)
        clear bb b3
        go_wp2_with fail
        refine (Q.out _).mono ?_
        rintro e w5 ⟨rfl, bb⟩
        have b5 := b4.trans (bb.mono b4.size)
        clear bb b4
        go_wp2_with fail
        refine (charsetRuns_any _ (HS.out.keep b5)).mono ?_
        rintro e w6 ⟨rfl, bb⟩
        have b6 := b5.trans (bb.mono b5.size)
        clear bb b5
        go_wp2_with fail
        go_ret
        exact ⟨rfl, b6⟩
set_option maxHeartbeats 4000000 in
theorem charsetTells_own (b r at_ : Int) (i : Nat) (w : World) (hi : i < 31) (W : Hid (∀ w', Calls Tryd.prog 13 #[.int .i64 at_, .int .i64 0, .int .i64 30] w' fun e w'' => e = .returned (.int .i64 (i : Int)) ∧ w' = w'')) (h0 : 0 ≤ b) (h1 : b < 256) (hs : Signs w) :
    Calls Tryd.prog 4 #[.int .u8 b, .int .i32 r, .int .i64 at_, .bool true] w fun e w' => e = .returned (.bool true) ∧ Below w.heap.size w w' := by
  obtain ⟨q, hq⟩ : ∃ q, CH.drawnAt i = q := ⟨_, rfl⟩
  have HS := hide hs
  clear hs
  obtain ⟨d, hd⟩ : ∃ d, CH.draw b = d := ⟨_, rfl⟩
  have DR := hide (fun w' h => draw_is b d hd w' h0 h1 h)
  obtain ⟨p, hp⟩ : ∃ p, CH.plain q = p := ⟨_, rfl⟩
  have P := hide (fun w' h => plain_is q p hp w' h)
  have Q := hide (fun w' => refPlain_is q p hp w')
  obtain ⟨u, hu⟩ : ∃ u, CH.undraw q = u := ⟨_, rfl⟩
  obtain ⟨ok, hok⟩ : ∃ ok, CH.undrawn q = ok := ⟨_, rfl⟩
  have U := hide (fun w' h => undraw_is q u ok hu hok w' h)
  have EU := hide (show undrawTo 31 q = u from hu)
  have EK := hide (show undrawnTo 31 q = ok from hok)
  have DC := hide (hd ▸ draw_cases b)
  have SR := hide refDrawn_any
  have HL := hide CH.drawn_len
  clear hd hp hu hok
  go_enter Tryd.func4, Tryd.ntmps4
  go_wp2_with fail
  refine (SR.out _).mono ?_
  intro e w1 h
  obtain ⟨A, c, rfl, hc, hm, hseen, b1⟩ := h.seen HL.out
  clear h
  have SN := hide hseen
  clear hseen
  go_wp2_with fail
  refine (W.out _).mono ?_
  rintro e w' ⟨rfl, rfl⟩
  obtain ⟨ad, rfl, hcell⟩ := seen_drawn SN.out hi
  rw [hq] at hcell
  clear hq
  go_wp2_with fail
  go_loopw [10, 11, 29] (fun x y i wr => ∃ k : Nat, k ≤ 31 ∧ i = .int .i64 k ∧ x = .int .u8 (undrawTo k q) ∧ y = .bool (undrawnTo k q) ∧ wr = w1) (fun _ _ i _ => 31 - (intOf i).toNat)
  case atStart => exact ⟨0, by omega, rfl, rfl, rfl, rfl⟩
  case round =>
    obtain ⟨k, hk, rfl, rfl, rfl, rfl⟩ := hrel
    obtain hlt | rfl : k < 31 ∨ k = 31 := by omega
    · obtain ⟨ad', hA, hcell'⟩ := seen_drawn SN.out hlt
      obtain rfl := Option.some.inj hA
      clear hA
      by_cases hx : CH.drawnAt k = q
      · obtain ⟨e1, e2⟩ := undrawTo_hit ((CH.drawnAt_iff hlt).1 hx)
        have E1 := hide e1
        have E2 := hide e2
        rw [hx] at hcell'
        clear hx e1 e2
        go_wp2
        go_roundw
        case rel => exact ⟨k + 1, by omega, by go_num, by rw [E1.out], by rw [E2.out], trivial⟩
        case measure => simp [intOf]; omega
      · obtain ⟨e1, e2⟩ := undrawTo_miss (k := k) (r := q) (fun e => hx ((CH.drawnAt_iff hlt).2 e))
        have E1 := hide e1
        have E2 := hide e2
        generalize CH.drawnAt k = x at hcell' hx
        have hx : (x == q) = false := by simpa using hx
        clear e1 e2
        go_wp2
        go_roundw
        case rel => exact ⟨k + 1, by omega, by go_num, by rw [E1.out], by rw [E2.out], trivial⟩
        case measure => simp [intOf]; omega
    · rw [EU.out, EK.out]
      rcases DC.out with ⟨rfl, rfl⟩ | ⟨g0, g1, hd⟩ | ⟨hb, rfl⟩ | ⟨hb, rfl⟩
      · go_wp2_with fail
        refine (U.out _ (HS.out.keep b1)).mono ?_
        rintro e w2 ⟨rfl, bb⟩
        have b2 := b1.trans (bb.mono b1.size)
        clear bb b1
        go_wp2_with fail
        refine (DR.out _ (HS.out.keep b2)).mono ?_
        rintro e w3 ⟨rfl, bb⟩
        have b3 := b2.trans (bb.mono b2.size)
        clear bb b2
        go_wp2_with fail
        refine (P.out _ (HS.out.keep b3)).mono ?_
        rintro e w4 ⟨rfl, bb⟩
        have b4 := b3.trans (bb.mono b3.size)
        clear bb b3
        go_wp2_with fail
        refine (Q.out _).mono ?_
        rintro e w5 ⟨rfl, bb⟩
        have b5 := b4.trans (bb.mono b4.size)
        clear bb b4
        go_wp2_with fail
        refine (charsetRuns_any _ (HS.out.keep b5)).mono ?_
        rintro e w6 ⟨rfl, bb⟩
        have b6 := b5.trans (bb.mono b5.size)
        clear bb b5
        go_wp2_with fail
        go_ret
        exact ⟨rfl, b6⟩
      · have hb : (b == 95) = false := by simp; omega
        have hj : (b - 96).toNat < 31 := by omega
        obtain ⟨ad', hA, hcell'⟩ := seen_drawn SN.out hj
        obtain rfl := Option.some.inj hA
        clear hA
        rw [← hd] at hcell'
        clear hd hj
        go_wp2_with fail
        refine (U.out _ (HS.out.keep b1)).mono ?_
        rintro e w2 ⟨rfl, bb⟩
        have b2 := b1.trans (bb.mono b1.size)
        clear bb b1
        go_wp2_with fail
        refine (DR.out _ (HS.out.keep b2)).mono ?_
        rintro e w3 ⟨rfl, bb⟩
        have b3 := b2.trans (bb.mono b2.size)
        clear bb b2
        go_wp2_with fail
        refine (P.out _ (HS.out.keep b3)).mono ?_
        rintro e w4 ⟨rfl, bb⟩
        have b4 := b3.trans (bb.mono b3.size)
        clear bb b3
        go_wp2_with fail
        refine (Q.out _).mono ?_
        rintro e w5 ⟨rfl, bb⟩
        have b5 := b4.trans (bb.mono b4.size)
        clear bb b4
        go_wp2_with fail
        refine (charsetRuns_any _ (HS.out.keep b5)).mono ?_
        rintro e w6 ⟨rfl, bb⟩
        have b6 := b5.trans (bb.mono b5.size)
        clear bb b5
        go_wp2_with fail
        go_ret
        exact ⟨rfl, b6⟩
      · have hb' : (b == 95) = false := by simp; omega
        go_wp2_with fail
        refine (U.out _ (HS.out.keep b1)).mono ?_
        rintro e w2 ⟨rfl, bb⟩
        have b2 := b1.trans (bb.mono b1.size)
        clear bb b1
        go_wp2_with fail
        refine (DR.out _ (HS.out.keep b2)).mono ?_
        rintro e w3 ⟨rfl, bb⟩
        have b3 := b2.trans (bb.mono b2.size)
        clear bb b2
        go_wp2_with fail
        refine (P.out _ (HS.out.keep b3)).mono ?_
        rintro e w4 ⟨rfl, bb⟩
        have b4 := b3.trans (bb.mono b3.size)
        clear bb b3
        go_wp2_with fail
        refine (Q.out _).mono ?_
        rintro e w5 ⟨rfl, bb⟩
        have b5 := b4.trans (bb.mono b4.size)
        clear bb b4
        go_wp2_with fail
        refine (charsetRuns_any _ (HS.out.keep b5)).mono ?_
        rintro e w6 ⟨rfl, bb⟩
        have b6 := b5.trans (bb.mono b5.size)
        clear bb b5
        go_wp2_with fail
        go_ret
        exact ⟨rfl, b6⟩
      · have hb' : (b == 95) = false := by simp; omega
        have hb2 : 96 ≤ b := by omega
        go_wp2_with fail
        refine (U.out _ (HS.out.keep b1)).mono ?_
        rintro e w2 ⟨rfl, bb⟩
        have b2 := b1.trans (bb.mono b1.size)
        clear bb b1
        go_wp2_with fail
        refine (DR.out _ (HS.out.keep b2)).mono ?_
        rintro e w3 ⟨rfl, bb⟩
        have b3 := b2.trans (bb.mono b2.size)
        clear bb b2
        go_wp2_with fail
        refine (P.out _ (HS.out.keep b3)).mono ?_
        rintro e w4 ⟨rfl, bb⟩
        have b4 := b3.trans (bb.mono b3.size)
        clear bb b3
        go_wp2_with fail
        refine (Q.out _).mono ?_
        rintro e w5 ⟨rfl, bb⟩
        have b5 := b4.trans (bb.mono b4.size)
        clear bb b4
        go_wp2_with fail
        refine (charsetRuns_any _ (HS.out.keep b5)).mono ?_
        rintro e w6 ⟨rfl, bb⟩
        have b6 := b5.trans (bb.mono b5.size)
        clear bb b5
        go_wp2_with fail
        go_ret
        exact ⟨rfl, b6⟩
theorem charsetTells_any (b r at_ : Int) (own : Bool) (w : World) (hb : (Lit.int .u8 b).wf = true) (hr : (Lit.int .i32 r).wf = true) (ha : (Lit.int .i64 at_).wf = true) (hs : Signs w) :
    Calls Tryd.prog 4 #[.int .u8 b, .int .i32 r, .int .i64 at_, .bool own] w fun e w' => e = .returned (.bool true) ∧ Below w.heap.size w w' := by
  have b1 := bounds_u8 hb
  have b2 := bounds_i64 ha
  rcases own with _ | _
  · exact charsetTells_any0 b r at_ w (by omega) (by omega) hs
  · obtain ⟨i, hi⟩ := Int.eq_ofNat_of_zero_le (show 0 ≤ at_ % 31 by omega)
    exact charsetTells_own b r at_ i w (by omega) (hide (fun w' => within_is at_ 0 30 i (by omega) w' b2.1 b2.2 (by omega) (by omega) (by omega))) (by omega) (by omega) hs
end Go.Proofs.YtfadadpbomhbnaaDoor
