/- ColorFar: how far is the same both ways, nought just of the same parts; a step of one part is its square. -/
import Derived.Test.YtgkjknjcklnngaaDoorColorNear
import Derived.Test.YtgkjknjcklnngaaDoorColorMade
import Derived.Test.YtgkjknjcklnngaaDoorInReg
namespace Go.Proofs.YtgkjknjcklnngaaDoor
open Go.RowKit
set_option linter.unusedVariables false
theorem far_same_parts {c p q r : Int} (h : CO.has c = true) (e : CO.rgb c = (p, q, r)) : CO.far c (CO.mk p q r) = 0 := by
  have b := CO.rgb_bd c
  rw [e] at b
  simp only at b
  obtain ⟨b1, b2, b3⟩ := b
  unfold CO.far
  rw [if_pos ⟨h, CO.has_mk _ _ _⟩, CO.rgb_mk, cut_in b1, cut_in b2, cut_in b3, e]
  exact CO.dist_zero.2 rfl
theorem far_step {k : Int} (h : 0 ≤ k ∧ k ≤ 255) : CO.far (CO.mk k 7 9) (CO.mk 0 7 9) = k * k := by
  unfold CO.far
  rw [if_pos ⟨CO.has_mk _ _ _, CO.has_mk _ _ _⟩, CO.rgb_mk, CO.rgb_mk, cut_in h]
  show CO.sq (k - CO.cut 0) + CO.sq (CO.cut 7 - CO.cut 7) + CO.sq (CO.cut 9 - CO.cut 9) = k * k
  rw [show CO.cut 0 = 0 from rfl, show CO.cut 7 = 7 from rfl, show CO.cut 9 = 9 from rfl, Int.sub_zero]
  show k * k + 0 + 0 = k * k
  omega
theorem far_key {c d p q r u v z : Int} (h : CO.has c = true) (h' : CO.has d = true) (e : CO.rgb c = (p, q, r)) (e' : CO.rgb d = (u, v, z)) : (CO.far c d == 0) = ((p == u) && ((q == v) && (r == z))) := by
  have k : CO.far c d = 0 ↔ (p = u ∧ q = v ∧ r = z) := by
    unfold CO.far
    rw [if_pos ⟨h, h'⟩, e, e', CO.dist_zero]
    simp
  rw [Bool.eq_iff_iff]
  simp [k]
theorem far_left {d : Int} : CO.far (-1) d = 0 := far_none (by rw [has_m1]; simp)
theorem far_right {d : Int} : CO.far d (-1) = 0 := far_none (by rw [has_m1]; simp)
set_option maxRecDepth 100000 in
set_option maxHeartbeats 4000000 in
theorem colorFar_t (a0 a1 a2 b0 b1 b2 d pf pb pg qf qb qg k : Int) (w : World) (PC : Hid (∀ w, Calls Tryd.prog 17 #[.agg #[.int .i64 a0, .int .i64 a1, .int .i64 a2]] w fun e w' => e = .returned (.agg #[.int .i64 pf, .int .i64 pb, .int .i64 pg]) ∧ Below w.heap.size w w'))
    (QC : Hid (∀ w, Calls Tryd.prog 17 #[.agg #[.int .i64 b0, .int .i64 b1, .int .i64 b2]] w fun e w' => e = .returned (.agg #[.int .i64 qf, .int .i64 qb, .int .i64 qg]) ∧ Below w.heap.size w w'))
    (KW : Hid (∀ w, Calls Tryd.prog 14 #[.int .i64 d, .int .i64 0, .int .i64 255] w fun e w' => e = .returned (.int .i64 k) ∧ w = w')) (hk : 0 ≤ k ∧ k ≤ 255) (hp : pf = -1 ∨ CO.has pf = true) (hq : qb = -1 ∨ CO.has qb = true) (ht : Tab w) :
    Calls Tryd.prog 7 #[.agg #[.int .i64 a0, .int .i64 a1, .int .i64 a2], .agg #[.int .i64 b0, .int .i64 b1, .int .i64 b2], .int .i64 d] w fun e w' => e = .returned (.bool true) ∧ Below w.heap.size w w' := by
  have HT := hide ht
  have HP := hide hp
  have HQ := hide hq
  clear ht hp hq
  have fl := pen_fore
  have fb := pen_back
  go_enter Tryd.func7, Tryd.ntmps7
  go_upto_region 1 with fail
  go_cut [7, 8] from 20 to 25 (fun s7 s8 wx => s7 = .int .i64 pf ∧ s8 = .int .i64 qb ∧ Below w.heap.size w wx)
  case first =>
    have xa : Box ((w.alloc (.cells #[.int .i64 a0, .int .i64 a1, .int .i64 a2] 29)).alloc (.cells #[.int .i64 b0, .int .i64 b1, .int .i64 b2] 29)) w.heap.size 29 #[.int .i64 a0, .int .i64 a1, .int .i64 a2] := (Box.new w _ _).alloc _
    have xb : Box ((w.alloc (.cells #[.int .i64 a0, .int .i64 a1, .int .i64 a2] 29)).alloc (.cells #[.int .i64 b0, .int .i64 b1, .int .i64 b2] 29)) (w.heap.size + 1) 29 #[.int .i64 b0, .int .i64 b1, .int .i64 b2] := Box.fresh (by simp)
    have bw : Below w.heap.size w ((w.alloc (.cells #[.int .i64 a0, .int .i64 a1, .int .i64 a2] 29)).alloc (.cells #[.int .i64 b0, .int .i64 b1, .int .i64 b2] 29)) := ((Below.refl _ _).alloc (Nat.le_refl _) _).alloc (by simp) _
    generalize (w.alloc (.cells #[.int .i64 a0, .int .i64 a1, .int .i64 a2] 29)).alloc (.cells #[.int .i64 b0, .int .i64 b1, .int .i64 b2] 29) = w0 at xa xb bw ⊢
    have h0 : InReg w0 w0.drew := (Below.refl _ _).drew
    have Ra0 : ∀ w', InReg w0 w' → w'.cell? ⟨w.heap.size, 0, none⟩ = some (.int .i64 a0) := fun w' h => (h.cell xa.lt).trans (xa.cell 0)
    have Ra1 : ∀ w', InReg w0 w' → w'.cell? ⟨w.heap.size, 1, none⟩ = some (.int .i64 a1) := fun w' h => (h.cell xa.lt).trans (xa.cell 1)
    have Ra2 : ∀ w', InReg w0 w' → w'.cell? ⟨w.heap.size, 2, none⟩ = some (.int .i64 a2) := fun w' h => (h.cell xa.lt).trans (xa.cell 2)
    have Rb0 : ∀ w', InReg w0 w' → w'.cell? ⟨w.heap.size + 1, 0, none⟩ = some (.int .i64 b0) := fun w' h => (h.cell xb.lt).trans (xb.cell 0)
    have Rb1 : ∀ w', InReg w0 w' → w'.cell? ⟨w.heap.size + 1, 1, none⟩ = some (.int .i64 b1) := fun w' h => (h.cell xb.lt).trans (xb.cell 1)
    have Rb2 : ∀ w', InReg w0 w' → w'.cell? ⟨w.heap.size + 1, 2, none⟩ = some (.int .i64 b2) := fun w' h => (h.cell xb.lt).trans (xb.cell 2)
    go_region_held3 (fun w' => InReg w0 w')
      (first | with_reducible exact h0 | with_reducible exact hQ.out | with_reducible exact hP.out)
      (first | (go_at_call_of 17 (Value.agg #[Value.int IntKind.i64 a0, Value.int IntKind.i64 a1, Value.int IntKind.i64 a2]); refine (PC.out _).mono ?_; rintro e wP ⟨rfl, bb⟩; have hP := Lib.hid (InReg.call (by assumption) bb)) | (go_at_call_of 17 (Value.agg #[Value.int IntKind.i64 b0, Value.int IntKind.i64 b1, Value.int IntKind.i64 b2]); refine (QC.out _).mono ?_; rintro e wQ ⟨rfl, bb⟩; have hQ := Lib.hid (InReg.call (by assumption) bb)))
    all_goals
      go_wp2_with fail
      go_meet
      exact ⟨rfl, rfl, bw.trans (Below.mono (show InReg w0 _ from by assumption) bw.size)⟩
  case rest =>
    obtain ⟨rfl, rfl, b1⟩ := hcut
    rcases HP.out with rfl | hp
    · have F := hide (fun w' ht => far_is (-1) qb 0 far_left w' ht)
      go_wp2_with fail
      refine (F.out _ (HT.out.keep b1)).mono ?_
      rintro e w2 ⟨rfl, bb⟩
      have b2 := b1.trans (bb.mono b1.size)
      clear bb b1
      go_wp2_with fail
      refine (colorRuns_any _ (HT.out.keep b2)).mono ?_
      rintro e w3 ⟨rfl, bb⟩
      have b3 := b2.trans (bb.mono b2.size)
      clear bb b2
      go_wp2_with fail
      go_ret
      exact ⟨rfl, b3⟩
    have n1 : (pf == -1) = false := by have := has_pos hp; simp; omega
    rcases HQ.out with rfl | hq
    · have F := hide (fun w' ht => far_is pf (-1) 0 far_right w' ht)
      go_wp2_with fail
      refine (F.out _ (HT.out.keep b1)).mono ?_
      rintro e w2 ⟨rfl, bb⟩
      have b2 := b1.trans (bb.mono b1.size)
      clear bb b1
      go_wp2_with fail
      refine (colorRuns_any _ (HT.out.keep b2)).mono ?_
      rintro e w3 ⟨rfl, bb⟩
      have b3 := b2.trans (bb.mono b2.size)
      clear bb b2
      go_wp2_with fail
      go_ret
      exact ⟨rfl, b3⟩
    have n2 : (qb == -1) = false := by have := has_pos hq; simp; omega
    rcases e1 : CO.rgb pf with ⟨p, q, r⟩
    rcases e2 : CO.rgb qb with ⟨u, v, z⟩
    have X := hide (fun w' ht => rgb_is pf p q r true e1 hp w' ht)
    have Y := hide (fun w' ht => rgb_is qb u v z true e2 hq w' ht)
    have key := far_key hp hq e1 e2
    obtain ⟨f, hf⟩ : ∃ f, CO.far pf qb = f := ⟨_, rfl⟩
    rw [hf] at key
    have F := hide (fun w' ht => far_is pf qb f hf w' ht)
    have G := hide (fun w' ht => far_is qb pf f ((CO.far_comm _ _).trans hf) w' ht)
    obtain ⟨s, hs⟩ : ∃ s, CO.mk k 7 9 = s := ⟨_, rfl⟩
    obtain ⟨t, hh⟩ : ∃ t, CO.mk 0 7 9 = t := ⟨_, rfl⟩
    obtain ⟨o, ho⟩ : ∃ o, CO.mk p q r = o := ⟨_, rfl⟩
    have OS := hide (fun w' => of_is k 7 9 s hs w')
    have OT := hide (fun w' => of_is 0 7 9 t hh w')
    have OO := hide (fun w' => of_is p q r o ho w')
    have st := far_step hk
    rw [hs, hh] at st
    have sp := far_same_parts hp e1
    rw [ho] at sp
    have S := hide (fun w' ht => far_is s t (k * k) st w' ht)
    have O := hide (fun w' ht => far_is pf o 0 sp w' ht)
    have kk0 : 0 ≤ k * k := CO.sq_nonneg k
    have kk1 : k * k ≤ 65025 := CO.sq_bd (x := k) (by omega) (by omega)
    clear hf hs hh ho st sp e1 e2 HP HQ hp hq
    rcases c1 : (p == u) with _ | _
    · have z0 : (f == 0) = false := by rw [key, c1]; rfl
      clear key
      go_wp2_with fail
      refine (X.out _ (HT.out.keep b1)).mono ?_
      rintro e w2 ⟨rfl, bb⟩
      have b2 := b1.trans (bb.mono b1.size)
      clear bb b1
      go_wp2_with fail
      refine (Y.out _ (HT.out.keep b2)).mono ?_
      rintro e w3 ⟨rfl, bb⟩
      have b3 := b2.trans (bb.mono b2.size)
      clear bb b2
      go_wp2_with fail
      refine (KW.out _).mono ?_
      rintro e w' ⟨rfl, rfl⟩
      go_wp2_with fail
      refine (OS.out _).mono ?_
      rintro e w' ⟨rfl, rfl⟩
      go_wp2_with fail
      refine (OT.out _).mono ?_
      rintro e w' ⟨rfl, rfl⟩
      go_wp2_with fail
      refine (F.out _ (HT.out.keep b3)).mono ?_
      rintro e w4 ⟨rfl, bb⟩
      have b4 := b3.trans (bb.mono b3.size)
      clear bb b3
      go_wp2_with fail
      refine (G.out _ (HT.out.keep b4)).mono ?_
      rintro e w5 ⟨rfl, bb⟩
      have b5 := b4.trans (bb.mono b4.size)
      clear bb b4
      go_wp2_with fail
      refine (F.out _ (HT.out.keep b5)).mono ?_
      rintro e w6 ⟨rfl, bb⟩
      have b6 := b5.trans (bb.mono b5.size)
      clear bb b5
      go_wp2_with fail
      refine (S.out _ (HT.out.keep b6)).mono ?_
      rintro e w7 ⟨rfl, bb⟩
      have b7 := b6.trans (bb.mono b6.size)
      clear bb b6
      go_wp2_with fail
      refine (OO.out _).mono ?_
      rintro e w' ⟨rfl, rfl⟩
      go_wp2_with fail
      refine (O.out _ (HT.out.keep b7)).mono ?_
      rintro e w8 ⟨rfl, bb⟩
      have b8 := b7.trans (bb.mono b7.size)
      clear bb b7
      go_wp2_with fail
      refine (colorRuns_any _ (HT.out.keep b8)).mono ?_
      rintro e w9 ⟨rfl, bb⟩
      have b9 := b8.trans (bb.mono b8.size)
      clear bb b8
      go_wp2_with fail
      go_ret
      exact ⟨rfl, b9⟩
    rcases c2 : (q == v) with _ | _
    · have z0 : (f == 0) = false := by rw [key, c1, c2]; rfl
      clear key
      go_wp2_with fail
      refine (X.out _ (HT.out.keep b1)).mono ?_
      rintro e w2 ⟨rfl, bb⟩
      have b2 := b1.trans (bb.mono b1.size)
      clear bb b1
      go_wp2_with fail
      refine (Y.out _ (HT.out.keep b2)).mono ?_
      rintro e w3 ⟨rfl, bb⟩
      have b3 := b2.trans (bb.mono b2.size)
      clear bb b2
      go_wp2_with fail
      refine (KW.out _).mono ?_
      rintro e w' ⟨rfl, rfl⟩
      go_wp2_with fail
      refine (OS.out _).mono ?_
      rintro e w' ⟨rfl, rfl⟩
      go_wp2_with fail
      refine (OT.out _).mono ?_
      rintro e w' ⟨rfl, rfl⟩
      go_wp2_with fail
      refine (F.out _ (HT.out.keep b3)).mono ?_
      rintro e w4 ⟨rfl, bb⟩
      have b4 := b3.trans (bb.mono b3.size)
      clear bb b3
      go_wp2_with fail
      refine (G.out _ (HT.out.keep b4)).mono ?_
      rintro e w5 ⟨rfl, bb⟩
      have b5 := b4.trans (bb.mono b4.size)
      clear bb b4
      go_wp2_with fail
      refine (F.out _ (HT.out.keep b5)).mono ?_
      rintro e w6 ⟨rfl, bb⟩
      have b6 := b5.trans (bb.mono b5.size)
      clear bb b5
      go_wp2_with fail
      refine (S.out _ (HT.out.keep b6)).mono ?_
      rintro e w7 ⟨rfl, bb⟩
      have b7 := b6.trans (bb.mono b6.size)
      clear bb b6
      go_wp2_with fail
      refine (OO.out _).mono ?_
      rintro e w' ⟨rfl, rfl⟩
      go_wp2_with fail
      refine (O.out _ (HT.out.keep b7)).mono ?_
      rintro e w8 ⟨rfl, bb⟩
      have b8 := b7.trans (bb.mono b7.size)
      clear bb b7
      go_wp2_with fail
      refine (colorRuns_any _ (HT.out.keep b8)).mono ?_
      rintro e w9 ⟨rfl, bb⟩
      have b9 := b8.trans (bb.mono b8.size)
      clear bb b8
      go_wp2_with fail
      go_ret
      exact ⟨rfl, b9⟩
    rcases c3 : (r == z) with _ | _
    · have z0 : (f == 0) = false := by rw [key, c1, c2, c3]; rfl
      clear key
      go_wp2_with fail
      refine (X.out _ (HT.out.keep b1)).mono ?_
      rintro e w2 ⟨rfl, bb⟩
      have b2 := b1.trans (bb.mono b1.size)
      clear bb b1
      go_wp2_with fail
      refine (Y.out _ (HT.out.keep b2)).mono ?_
      rintro e w3 ⟨rfl, bb⟩
      have b3 := b2.trans (bb.mono b2.size)
      clear bb b2
      go_wp2_with fail
      refine (KW.out _).mono ?_
      rintro e w' ⟨rfl, rfl⟩
      go_wp2_with fail
      refine (OS.out _).mono ?_
      rintro e w' ⟨rfl, rfl⟩
      go_wp2_with fail
      refine (OT.out _).mono ?_
      rintro e w' ⟨rfl, rfl⟩
      go_wp2_with fail
      refine (F.out _ (HT.out.keep b3)).mono ?_
      rintro e w4 ⟨rfl, bb⟩
      have b4 := b3.trans (bb.mono b3.size)
      clear bb b3
      go_wp2_with fail
      refine (G.out _ (HT.out.keep b4)).mono ?_
      rintro e w5 ⟨rfl, bb⟩
      have b5 := b4.trans (bb.mono b4.size)
      clear bb b4
      go_wp2_with fail
      refine (F.out _ (HT.out.keep b5)).mono ?_
      rintro e w6 ⟨rfl, bb⟩
      have b6 := b5.trans (bb.mono b5.size)
      clear bb b5
      go_wp2_with fail
      refine (S.out _ (HT.out.keep b6)).mono ?_
      rintro e w7 ⟨rfl, bb⟩
      have b7 := b6.trans (bb.mono b6.size)
      clear bb b6
      go_wp2_with fail
      refine (OO.out _).mono ?_
      rintro e w' ⟨rfl, rfl⟩
      go_wp2_with fail
      refine (O.out _ (HT.out.keep b7)).mono ?_
      rintro e w8 ⟨rfl, bb⟩
      have b8 := b7.trans (bb.mono b7.size)
      clear bb b7
      go_wp2_with fail
      refine (colorRuns_any _ (HT.out.keep b8)).mono ?_
      rintro e w9 ⟨rfl, bb⟩
      have b9 := b8.trans (bb.mono b8.size)
      clear bb b8
      go_wp2_with fail
      go_ret
      exact ⟨rfl, b9⟩
    · have z0 : (f == 0) = true := by rw [key, c1, c2, c3]; rfl
      clear key
      go_wp2_with fail
      refine (X.out _ (HT.out.keep b1)).mono ?_
      rintro e w2 ⟨rfl, bb⟩
      have b2 := b1.trans (bb.mono b1.size)
      clear bb b1
      go_wp2_with fail
      refine (Y.out _ (HT.out.keep b2)).mono ?_
      rintro e w3 ⟨rfl, bb⟩
      have b3 := b2.trans (bb.mono b2.size)
      clear bb b2
      go_wp2_with fail
      refine (KW.out _).mono ?_
      rintro e w' ⟨rfl, rfl⟩
      go_wp2_with fail
      refine (OS.out _).mono ?_
      rintro e w' ⟨rfl, rfl⟩
      go_wp2_with fail
      refine (OT.out _).mono ?_
      rintro e w' ⟨rfl, rfl⟩
      go_wp2_with fail
      refine (F.out _ (HT.out.keep b3)).mono ?_
      rintro e w4 ⟨rfl, bb⟩
      have b4 := b3.trans (bb.mono b3.size)
      clear bb b3
      go_wp2_with fail
      refine (G.out _ (HT.out.keep b4)).mono ?_
      rintro e w5 ⟨rfl, bb⟩
      have b5 := b4.trans (bb.mono b4.size)
      clear bb b4
      go_wp2_with fail
      refine (F.out _ (HT.out.keep b5)).mono ?_
      rintro e w6 ⟨rfl, bb⟩
      have b6 := b5.trans (bb.mono b5.size)
      clear bb b5
      go_wp2_with fail
      refine (S.out _ (HT.out.keep b6)).mono ?_
      rintro e w7 ⟨rfl, bb⟩
      have b7 := b6.trans (bb.mono b6.size)
      clear bb b6
      go_wp2_with fail
      refine (OO.out _).mono ?_
      rintro e w' ⟨rfl, rfl⟩
      go_wp2_with fail
      refine (O.out _ (HT.out.keep b7)).mono ?_
      rintro e w8 ⟨rfl, bb⟩
      have b8 := b7.trans (bb.mono b7.size)
      clear bb b7
      go_wp2_with fail
      refine (colorRuns_any _ (HT.out.keep b8)).mono ?_
      rintro e w9 ⟨rfl, bb⟩
      have b9 := b8.trans (bb.mono b8.size)
      clear bb b8
      go_wp2_with fail
      go_ret
      exact ⟨rfl, b9⟩
theorem colorFar_any (a0 a1 a2 b0 b1 b2 d : Int) (w : World) (ha0 : (Lit.int .i64 a0).wf = true) (ha1 : (Lit.int .i64 a1).wf = true) (ha2 : (Lit.int .i64 a2).wf = true) (hb0 : (Lit.int .i64 b0).wf = true) (hb1 : (Lit.int .i64 b1).wf = true) (hb2 : (Lit.int .i64 b2).wf = true) (hd : (Lit.int .i64 d).wf = true) (ht : Tab w) :
    Calls Tryd.prog 7 #[.agg #[.int .i64 a0, .int .i64 a1, .int .i64 a2], .agg #[.int .i64 b0, .int .i64 b1, .int .i64 b2], .int .i64 d] w fun e w' => e = .returned (.bool true) ∧ Below w.heap.size w w' := by
  have bn := bounds_i64 hd
  exact colorFar_t a0 a1 a2 b0 b1 b2 d _ _ _ _ _ _ (0 + d % 256) w (pen_given ha0 ha1 ha2) (pen_given hb0 hb1 hb2) (hide (fun w' => within_is d 0 255 _ rfl w' bn.1 bn.2 (by omega) (by omega) (by omega))) (by omega) (kcol_or a0) (kcol_or b1) ht
end Go.Proofs.YtgkjknjcklnngaaDoor
