/- PenRuns: chapter 10's runs. -/
import Derived.Test.YtnjkongbccblaaaDoorPenUse
import Derived.Test.YtnjkongbccblaaaDoorPenEq10
import Derived.Deep.DeepCutAuto
set_option maxRecDepth 100000
namespace Go.Proofs.YtnjkongbccblaaaDoor
open Go.RowKit
set_option linter.unusedVariables false
theorem pr_plain : PR PS.plain := ⟨PS.plain_ok, .inl rfl, .inl rfl⟩
theorem pr_mid : PR ⟨200, -1, 9⟩ := ⟨(by decide : 9 < 256), .inr (.inl (by decide)), .inl rfl⟩
set_option maxHeartbeats 4000000 in
theorem penRuns_any (w : World) (hF : FlagT w) : Calls Tryd.prog 3 #[] w fun e w' => e = .returned (.bool true) ∧ Below w.heap.size w w' := by
  have A1 := hide (papply_box PS.plain ⟨200, -1, 9⟩ [1, 38, 5, 200, 4] 5 rfl (by decide) rfl pr_plain (by decide))
  have HT := hide hF
  have A2 := hide (fun w' h => papply_is ⟨200, -1, 9⟩ PS.plain none 0 0 0 [] rfl w' pr_mid (Seen.nil_ _ _ _) (by omega) (by omega) (by simp) h)
  have S1 := hide (fun w' h => psay_is ⟨200, -1, 9⟩ w' pr_mid h)
  have B1 := hide (fun w' h => pbetw_is ⟨200, -1, 9⟩ ⟨200, -1, 9⟩ w' pr_mid pr_mid h)
  have e1 : PS.say ⟨200, -1, 9⟩ = [0, 1, 4, 38, 5, 200] := by decide
  have e2 : betw ⟨200, -1, 9⟩ ⟨200, -1, 9⟩ = [] := rfl
  rw [e1] at S1
  rw [e2] at B1
  have ep : ∀ w' : World, (binOp .eql 23 (.agg #[.int .i64 200, .int .i64 (-1), .int .i64 9]) (.agg #[.int .i64 200, .int .i64 (-1), .int .i64 9])).run Tryd.prog w' = .ok (.bool true) w' := fun w' => by rw [eql_pen10]; rfl
  have ep0 : ∀ w' : World, (binOp .eql 23 (.agg #[.int .i64 (-1), .int .i64 (-1), .int .i64 0]) (.agg #[.int .i64 (-1), .int .i64 (-1), .int .i64 0])).run Tryd.prog w' = .ok (.bool true) w' := fun w' => by rw [eql_pen10]; rfl
  clear e1 e2 hF
  go_enter Tryd.func3, Tryd.ntmps3
  go_wp2_with fail
  refine (rplain10 _).mono ?_
  rintro e w1 ⟨rfl, b1⟩
  go_wp2_with fail
  refine (A1.out _ _ (Box.new _ _ _) ((HT.out.keep b1).alloc _)).mono ?_
  rintro e w2 ⟨rfl, b2⟩
  simp only [penV]
  have b12 : Below w.heap.size w w2 := (b1.alloc b1.size (.cells #[.int .i64 1, .int .i64 38, .int .i64 5, .int .i64 200, .int .i64 4] 3)).trans (b2.mono (by have := b1.size; simp; omega))
  have BP := Box.new w2 23 #[.int .i64 200, .int .i64 (-1), .int .i64 9]
  have b3 := b12.alloc b12.size (.cells #[.int .i64 200, .int .i64 (-1), .int .i64 9] 23)
  obtain ⟨p0, p1, p2, q0, q1, q2⟩ := BP.three
  go_upto_region 2 with fail
  generalize w2.heap.size = gP at *
  generalize w2.alloc (.cells #[.int .i64 200, .int .i64 (-1), .int .i64 9] 23) = w3 at *
  have HB3 := hide b3
  have HP := hide BP
  clear b1 b2 b12 b3 BP
  go_wp2_with fail
  refine (S1.out _ (HT.out.keep HB3.out)).mono ?_
  rintro e w4 ⟨v4, rfl, hv4, b4⟩
  obtain ⟨A4, c4, rfl, _⟩ := own_form hv4
  have S4 := hide ((Seen.of_own hv4).alloc (Nat.le_refl _) (.cells #[.int .i64 0, .int .i64 1, .int .i64 4, .int .i64 38, .int .i64 5, .int .i64 200] 3))
  have B4 := hide (HB3.out.trans (b4.mono HB3.out.size))
  have P4 := hide (HP.out.below b4 HP.out.lt)
  clear hv4 b4 p0 p1 p2 q0 q1 q2
  go_wp2_with fail
  refine (same64_is [0, 1, 4, 38, 5, 200] A4 (some ⟨w4.heap.size, 0, none⟩) w4.heap.size (w4.heap.size + 1) _ c4 6 6 _ (by exact S4.out) (Seen.fresh (t := 3) (cs := #[.int .i64 0, .int .i64 1, .int .i64 4, .int .i64 38, .int .i64 5, .int .i64 200]) rfl rfl rfl rfl) (by simp)).mono ?_
  rintro e w5 ⟨rfl, b5⟩
  have B5 := hide ((B4.out.alloc B4.out.size (.cells #[.int .i64 0, .int .i64 1, .int .i64 4, .int .i64 38, .int .i64 5, .int .i64 200] 3)).trans (b5.mono (by have := B4.out.size; simp; omega)))
  have P5 := hide ((P4.out.alloc (.cells #[.int .i64 0, .int .i64 1, .int .i64 4, .int .i64 38, .int .i64 5, .int .i64 200] 3)).below b5 (by have := P4.out.lt; simp; omega))
  obtain ⟨p0, p1, p2, q0, q1, q2⟩ := P5.out.three
  clear b5 S4
  go_wp2_with fail
  refine (A2.out _ (HT.out.keep B5.out)).mono ?_
  rintro e w6 ⟨rfl, b6⟩
  simp only [penV, PS.plain]
  have B6 := hide (B5.out.trans (b6.mono B5.out.size))
  have P6 := hide (P5.out.below b6 P5.out.lt)
  clear b6 p0 p1 p2 q0 q1 q2
  go_wp2_with fail
  refine (rplain10 _).mono ?_
  rintro e w7 ⟨rfl, b7⟩
  have B7 := hide (B6.out.trans (b7.mono B6.out.size))
  have P7 := hide (P6.out.below b7 P6.out.lt)
  obtain ⟨p0, p1, p2, q0, q1, q2⟩ := P7.out.three
  clear b7
  go_wp2_with fail
  refine (B1.out _ (HT.out.keep B7.out)).mono ?_
  rintro e w8 ⟨v8, rfl, hv8, b8⟩
  obtain ⟨A8, c8, rfl, _⟩ := own_form hv8
  have B8 := hide (B7.out.trans (b8.mono B7.out.size))
  clear b8 hv8
  go_wp2_with fail
  go_ret
  exact ⟨rfl, B8.out⟩
end Go.Proofs.YtnjkongbccblaaaDoor
