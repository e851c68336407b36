/- SeqRuns: chapter 6's runs. -/
import Derived.Test.YtnnjppgmadmmaaaDoorSeqBox
set_option maxRecDepth 100000
namespace Go.Proofs.YtnnjppgmadmmaaaDoor
open Go.RowKit
set_option linter.unusedVariables false
theorem sr_b1 : PA.bytesAll (printed ([(⟨4, 0, 0, 0, 72, [3, 4], []⟩ : PA.Ev)])) = [27, 91, 51, 59, 52, 72] := by kernel_rfl
theorem sr_b2 : PA.bytesAll (printed ([(⟨4, 0, 63, 0, 108, [25], []⟩ : PA.Ev)])) = [27, 91, 63, 50, 53, 108] := by kernel_rfl
set_option maxHeartbeats 8000000 in
theorem seqRuns_any (w : World) (ht : Tens w) : Calls Tryd.prog 3 #[] w fun e w' => e = .returned (.bool true) ∧ Below w.heap.size w w' := by
  have HT := hide ht
  clear ht
  go_enter Tryd.func3, Tryd.ntmps3
  go_wp2_with fail
  refine (csi_is (f := 72) (A := some ⟨w.heap.size, 0, none⟩) (n := 2) (c := 2) (l := [3, 4]) [3, 4] 2 (by decide) rfl (Seen.fresh (t := 3) (cs := #[.int .i64 3, .int .i64 4]) rfl (by simp) rfl rfl) (by omega)).mono ?_
  rintro e w1 ⟨A1, c1, rfl, _, p1, b1⟩
  have bb1 : Below w.heap.size w w1 := ((Below.refl _ w).alloc (Nat.le_refl _) _).trans (b1.mono (by simp))
  have P1 := hide p1
  have B1 := hide bb1
  clear p1 bb1 b1
  go_wp2_with fail
  have bx : Box (w1.alloc (.cells #[.int .i64 4, .int .i32 0, .int .u8 0, .int .u8 0, .int .u8 72, .slice A1 2 c1, .string ⟨#[]⟩] 24)) w1.heap.size 24 _ := Box.new w1 _ _
  refine (print_is [⟨4, 0, 0, 0, 72, [3, 4], []⟩] [27, 91, 51, 59, 52, 72] 6 sr_b1 rfl rfl (seenE_block (n := 1) (M := [(⟨4, 0, 0, 0, 72, [3, 4], []⟩, .slice A1 2 c1)]) (Box.fresh (by simp)) rfl rfl (one_par rfl (((P1.out.alloc (Nat.le_refl _) _).alloc (by simp) _).more (by simp; omega)) (by omega))) (one_fits ⟨by simp, by simp⟩) (by omega) (HT.out.keep ((B1.out.alloc B1.out.size _).alloc (by have := B1.out.size; simp; omega) _))).mono ?_
  rintro e w2 ⟨A2, c2, rfl, _, h2, b2⟩
  have cv2 := conv_seen (c := c2) h2
  have hs2 := str_same [27, 91, 51, 59, 52, 72] [27, 91, 51, 59, 52, 72] rfl
  generalize strOfNums [27, 91, 51, 59, 52, 72] = s2 at cv2 hs2
  have bx2 := (bx.alloc (.cells #[.int .i64 4, .int .i32 0, .int .u8 0, .int .u8 0, .int .u8 72, .slice A1 2 c1, .string ⟨#[]⟩] 24)).below b2 (by simp; omega)
  have bb2 : Below w1.heap.size w1 w2 := (((Below.refl _ w1).alloc (Nat.le_refl _) _).alloc (by simp) _).trans (b2.mono (by simp; omega))
  have B2 := hide (B1.out.trans (bb2.mono B1.out.size))
  have P2 := hide ((P1.out.below bb2).more bb2.size)
  obtain ⟨k0, k1, k2, k3, k4, k5, k6⟩ := Box.seven bx2
  have BX2 := hide bx2
  clear h2 b2 bx bx2 bb2
  go_wp2_with fail
  refine (csi_is (f := 65) (A := some ⟨w2.heap.size, 0, none⟩) (n := 1) (c := 1) (l := [0]) [0] 1 (by decide) rfl (Seen.fresh (t := 3) (cs := #[.int .i64 0]) rfl (by simp) rfl rfl) (by omega)).mono ?_
  rintro e w3 ⟨A3, c3, rfl, _, p3, b3⟩
  have bb3 : Below w2.heap.size w2 w3 := ((Below.refl _ w2).alloc (Nat.le_refl _) _).trans (b3.mono (by simp))
  have B3 := hide (B2.out.trans (bb3.mono B2.out.size))
  have P23 := hide ((P2.out.below bb3).more bb3.size)
  have P3 := hide p3
  have BX3 := hide (BX2.out.below bb3 BX2.out.lt)
  clear b3 bb3 p3 k0 k1 k2 k3 k4 k5 k6
  go_wp2_with fail
  refine (arg_any 4 0 0 0 65 A3 1 c3 [0] ⟨#[]⟩ 0 1 1 9 w3 P3.out).mono ?_
  rw [show argOf [0] 0 1 1 9 = 1 from by decide]
  rintro e w4 ⟨rfl, b4⟩
  have B4 := hide (B3.out.trans (b4.mono B3.out.size))
  have P4 := hide ((P23.out.below b4).more b4.size)
  have BX4 := hide (BX3.out.below b4 BX3.out.lt)
  obtain ⟨k0, k1, k2, k3, k4, k5, k6⟩ := Box.seven BX4.out
  clear b4
  go_wp2_with fail
  refine (arg_any 4 0 0 0 72 A1 2 c1 [3, 4] ⟨#[]⟩ 1 1 1 9 w4 P4.out).mono ?_
  rw [show argOf [3, 4] 1 1 1 9 = 4 from by decide]
  rintro e w5 ⟨rfl, b5⟩
  have B5 := hide (B4.out.trans (b5.mono B4.out.size))
  have P5 := hide ((P4.out.below b5).more b5.size)
  have BX5 := hide (BX4.out.below b5 BX4.out.lt)
  clear b5 k0 k1 k2 k3 k4 k5 k6
  go_wp2_with fail
  refine (set_is (p := 63) (on := false) (A := some ⟨w5.heap.size, 0, none⟩) (n := 1) (c := 1) (l := [25]) 108 1 rfl rfl (Seen.fresh (t := 3) (cs := #[.int .i64 25]) rfl (by simp) rfl rfl) (by omega)).mono ?_
  rintro e w6 ⟨A6, c6, rfl, _, p6, b6⟩
  have bb6 : Below w5.heap.size w5 w6 := ((Below.refl _ w5).alloc (Nat.le_refl _) _).trans (b6.mono (by simp))
  have B6 := hide (B5.out.trans (bb6.mono B5.out.size))
  have P6 := hide ((P5.out.below bb6).more bb6.size)
  have Q6 := hide p6
  have BX6 := hide (BX5.out.below bb6 BX5.out.lt)
  clear b6 bb6 p6
  go_wp2_with fail
  refine (print_is [⟨4, 0, 63, 0, 108, [25], []⟩] [27, 91, 63, 50, 53, 108] 6 sr_b2 rfl rfl (seenE_block (n := 1) (M := [(⟨4, 0, 63, 0, 108, [25], []⟩, .slice A6 1 c6)]) (Box.fresh (by simp)) rfl rfl (one_par rfl ((Q6.out.alloc (Nat.le_refl _) _).more (by simp)) (by omega))) (one_fits ⟨by simp, by simp⟩) (by omega) (HT.out.keep (B6.out.alloc B6.out.size _))).mono ?_
  rintro e w7 ⟨A7, c7, rfl, _, h7, b7⟩
  have cv7 := conv_seen (c := c7) h7
  have hs7 := str_same [27, 91, 63, 50, 53, 108] [27, 91, 63, 50, 53, 108] rfl
  generalize strOfNums [27, 91, 63, 50, 53, 108] = s7 at cv7 hs7
  have bb7 : Below w6.heap.size w6 w7 := ((Below.refl _ w6).alloc (Nat.le_refl _) _).trans (b7.mono (by simp))
  have B7 := hide (B6.out.trans (bb7.mono B6.out.size))
  have P7 := hide ((P6.out.below bb7).more bb7.size)
  have BX7 := hide (BX6.out.below bb7 BX6.out.lt)
  obtain ⟨k0, k1, k2, k3, k4, k5, k6⟩ := Box.seven BX7.out
  clear h7 b7 bb7
  go_wp2_with fail
  refine (seqSame_any 4 0 0 0 72 4 0 0 0 72 A1 A1 2 c1 2 c1 [3, 4] [3, 4] [] [] w7 P7.out P7.out (by omega) (by simp) (by simp)).mono ?_
  rw [(evEqB_iff _ _).2 rfl]
  rintro e w8 ⟨rfl, b8⟩
  have B8 := hide (B7.out.trans (b8.mono B7.out.size))
  clear b8 k0 k1 k2 k3 k4 k5 k6
  go_wp2_with fail
  go_ret
  exact ⟨rfl, B8.out⟩
end Go.Proofs.YtnnjppgmadmmaaaDoor
