/- The contract of the document's own Decode: it makes what package utf's machine makes, and says that something is left over just if something is held. -/
import Derived.Test.YtnnjppgmadmmaaaDoorUtfEncode
import Derived.Test.YtnnjppgmadmmaaaDoorRefSpec
namespace Go.Proofs.YtnnjppgmadmmaaaDoor
open Go.RowKit
set_option linter.unusedVariables false
/-- what the document's Decode leaves -/
def RefDecoded (w : World) (l : List Int) (e : Ending) (w' : World) : Prop :=
  ∃ (v : Value) (left : Int), e = .returned (.tuple #[v, .int .i64 left]) ∧ (0 < left ↔ 0 < (U.dec U.z l).1.need) ∧ w'.ownsRow w.heap.size 21 1 v (U.dec U.z l).2.length (i32s (U.dec U.z l).2) ∧ Below w.heap.size w w'
set_option maxRecDepth 100000 in
set_option maxHeartbeats 40000000 in
theorem refDecode_any (A : Option Addr) (n c : Nat) (l : List Int) (w : World) (hA : Seen w w.heap.size A n (u8s l)) (hl : ∀ x ∈ l, 0 ≤ x ∧ x < 256) (hn : n ≤ 274877906944) :
    Calls Tryd.prog 49 #[.slice A n c] w (RefDecoded w l) := by
  obtain ⟨i0, hi, hz0, hz1, hz2⟩ := info_parts info_i32
  have hlen : l.length = n := by simpa [u8s] using hA.1
  have HA := hide hA
  have HL := hide hl
  have HN := hide hlen
  clear hA hl hlen
  go_enter Tryd.func49, Tryd.ntmps49
  go_wp2_with fail
  go_loopw [4, 5] (fun v a wr => ∃ (k : Nat) (out : List Int), k ≤ n ∧ a = .int .i64 k ∧ out.length ≤ k ∧ wr.ownsRow w.heap.size 21 1 v out.length (i32s out) ∧ U.Head l k out ∧ Below w.heap.size w wr)
    (fun _ a _ => n - (intOf a).toNat)
  case atStart => exact ⟨0, [], Nat.zero_le _, rfl, Nat.le_refl _, World.ownsRow_nil _ _ _ _, U.head_zero l, Below.refl _ _⟩
  case round =>
    obtain ⟨k, out, hk, rfl, hol, hown, hhd, b0⟩ := hrel
    by_cases hlt : k < n
    · obtain ⟨ad, u, rfl, _, hu, hc⟩ := (HA.out.below b0).at_ hlt
      rw [u8s, List.getElem?_map] at hu
      obtain ⟨x, hx, rfl⟩ := Option.map_eq_some_iff.1 hu
      have hxr := HL.out x (List.mem_of_getElem? hx)
      have HH := hide hhd
      have HX := hide hx
      clear hu hx hhd
      have cs : x < 128 ∨ (128 ≤ x ∧ x < 194) ∨ 244 < x ∨ (194 ≤ x ∧ x ≤ 223) ∨ (224 ≤ x ∧ x ≤ 239) ∨ (240 ≤ x ∧ x ≤ 244) := by omega
      rcases cs with c | c | c | c | c | c
      · have hb : U.bg x = (U.z, [x]) := by unfold U.bg; repeat (first | rw [if_pos (by omega)] | rw [if_neg (by omega)])
        have HH2 := hide (U.head_one HH.out HX.out hb)
        clear hb
        go_wp2_with (at_builtin; go_must (refine wpList_app1 rfl (.tmp 27) (.tmp 30) 49 rfl w.heap.size 21 i0 _ 4 Tryd.underlying49 hi hz0 hz1 hz2 rfl u4 _ _ rfl hown _ _ _ rfl (by first | rfl | simp) rfl (by omega) (by omega) (by first | exact b0.size | (have := b0.size; simp; omega)) ?_); intro v' w1 hown1 hg1 hm1)
        go_roundw
        case rel => exact ⟨k + 1, out ++ [x], by omega, by go_num, by simp; omega, by simpa [i32s] using hown1, HH2.out, b0.grown hg1 b0.size (fun g hg => (hown.lt g hg).1)⟩
        case measure => simp [intOf]; omega
      · have hb : U.bg x = (U.z, [65533]) := by unfold U.bg; repeat (first | rw [if_pos (by omega)] | rw [if_neg (by omega)])
        have HH2 := hide (U.head_one HH.out HX.out hb)
        clear hb
        go_wp2_with (at_builtin; go_must (refine wpList_app1 rfl (.tmp 19) (.tmp 20) 49 rfl w.heap.size 21 i0 _ 4 Tryd.underlying49 hi hz0 hz1 hz2 rfl u4 _ _ rfl hown _ _ _ rfl (by first | rfl | simp) rfl (by omega) (by omega) (by first | exact b0.size | (have := b0.size; simp; omega)) ?_); intro v' w1 hown1 hg1 hm1)
        go_roundw
        case rel => exact ⟨k + 1, out ++ [65533], by omega, by go_num, by simp; omega, by simpa [i32s] using hown1, HH2.out, b0.grown hg1 b0.size (fun g hg => (hown.lt g hg).1)⟩
        case measure => simp [intOf]; omega
      · have hb : U.bg x = (U.z, [65533]) := by unfold U.bg; repeat (first | rw [if_pos (by omega)] | rw [if_neg (by omega)])
        have HH2 := hide (U.head_one HH.out HX.out hb)
        clear hb
        go_wp2_with (at_builtin; go_must (refine wpList_app1 rfl (.tmp 19) (.tmp 20) 49 rfl w.heap.size 21 i0 _ 4 Tryd.underlying49 hi hz0 hz1 hz2 rfl u4 _ _ rfl hown _ _ _ rfl (by first | rfl | simp) rfl (by omega) (by omega) (by first | exact b0.size | (have := b0.size; simp; omega)) ?_); intro v' w1 hown1 hg1 hm1)
        go_roundw
        case rel => exact ⟨k + 1, out ++ [65533], by omega, by go_num, by simp; omega, by simpa [i32s] using hown1, HH2.out, b0.grown hg1 b0.size (fun g hg => (hown.lt g hg).1)⟩
        case measure => simp [intOf]; omega
      · have hb : U.bg x = (⟨((1 : Nat) : Int) + 1, 1, x - 192⟩, []) := by (unfold U.bg; repeat (first | rw [if_pos (by omega)] | rw [if_neg (by omega)])); rfl
        have em := i64_mask 5 (by omega) x
        simp at em
        have em' : bits .and .i64 x 31 = x - 192 := by omega
        have hN : 0 ≤ x - 192 ∧ x - 192 < 32 := by omega
        clear em
        generalize x - 192 = N0 at hb em' hN
        have MID := hide (U.mid_start HH.out HX.out hb (by omega) hN.1 (by simpa using hN.2))
        clear hb
        have q0 : decide (x < 128) = false := by simp; omega
        have q1 : decide (194 ≤ x) = true := by simp; omega
        have q2 : decide (x ≤ 223) = true := by simp; omega
        go_wp2_with fail
        go_loop [6, 8] (fun nv hv => ∃ (h : Nat) (n' : Int), 1 ≤ h ∧ h ≤ 2 ∧ k + h ≤ n ∧ nv = .int .i64 n' ∧ hv = .int .i64 h ∧ U.Mid l k 1 h n' out) (fun _ hv => 2 - (intOf hv).toNat)
        case atStart => exact ⟨1, N0, by omega, by omega, by omega, rfl, rfl, MID.out⟩
        case round =>
          obtain ⟨h, n', h1, h2, h3, rfl, rfl, hmid⟩ := hrel
          have ht := U.mid_top hmid h1 h2 (by omega) (by omega)
          have HM := hide hmid
          clear hmid
          by_cases a1 : h ≤ 1
          · by_cases a2 : k + h < n
            · obtain ⟨ad2, u2, e2, _, hu2, hc2⟩ := (HA.out.below b0).at_ a2
              obtain rfl := Option.some.inj e2
              rw [u8s, List.getElem?_map] at hu2
              obtain ⟨y, hy, rfl⟩ := Option.map_eq_some_iff.1 hu2
              have hyr := HL.out y (List.mem_of_getElem? hy)
              have HY := hide hy
              clear hu2 hy e2
              have f1 := U.and192 y hyr.1 hyr.2
              have f2 := U.and63 y hyr.1 hyr.2
              by_cases a3 : 128 ≤ y ∧ y < 192
              · have f1' : bits .and .u8 y 192 = 128 := by omega
                have f2' : bits .and .u8 y 63 = y - 128 := by omega
                have f3 := i64_join 6 (n' * 64) (y - 128) (by omega) (by omega) (by omega) (by omega) (by omega)
                have HM2 := hide (U.mid_step HM.out h1 a1 (by omega) HY.out a3.1 a3.2)
                clear f1 f2
                go_wp2_with fail
                go_round
                case rel => exact ⟨h + 1, n' * 64 + (y - 128), by omega, by omega, by omega, rfl, by go_num, HM2.out⟩
                case measure => simp [intOf]; omega
              · have HH2 := hide (U.mid_cut HM.out a1 HY.out (by omega))
                have hc : y - y % 64 < 128 ∨ 128 < y - y % 64 := by omega
                generalize y - y % 64 = cc at f1 hc
                clear f2
                have hc1 : (cc == 128) = false := by simp; omega
                go_wp2_with (at_builtin; go_must (refine wpList_app1 rfl (.tmp 138) (.tmp 141) 49 rfl w.heap.size 21 i0 _ 4 Tryd.underlying49 hi hz0 hz1 hz2 rfl u4 _ _ rfl (hown.alloc _) _ _ _ rfl (by first | rfl | simp) rfl (by omega) (by omega) (by first | exact b0.size | (have := b0.size; simp; omega)) ?_); intro v' w1 hown1 hg1 hm1)
                go_roundw
                case rel => exact ⟨k + h, out ++ [65533], by omega, by go_num, by simp; omega, by simpa [i32s] using hown1, HH2.out, b0.grown (World.grownBy.trans (World.grownBy_alloc _ _ _) hg1) b0.size (fun g hg => (hown.lt g hg).1)⟩
                case measure => simp [intOf]; omega
            · have HD := hide (U.mid_held HM.out a1 (by rw [HN.out]; omega))
              go_wp2_with fail
              go_ret2
              refine ⟨u4, _, rfl, ?_, by rw [HD.out]; exact hown, b0⟩
              rw [HD.out]
              simp
              omega
          · obtain rfl : h = 2 := by omega
            have HH1 := hide (U.mid_done HM.out rfl)
            have cs : (n' < 128) ∨ (128 ≤ n' ∧ n' < 2048) := by omega
            rcases cs with d | d
            · have HH2 := hide (by have := HH1.out; rwa [U.wh_bad 1 n' (by simp; omega) (by omega)] at this)
              go_wp2_with (at_builtin; go_must (refine wpList_app1 rfl (.tmp 138) (.tmp 141) 49 rfl w.heap.size 21 i0 _ 4 Tryd.underlying49 hi hz0 hz1 hz2 rfl u4 _ _ rfl (hown.alloc _) _ _ _ rfl (by first | rfl | simp) rfl (by omega) (by omega) (by first | exact b0.size | (have := b0.size; simp; omega)) ?_); intro v' w1 hown1 hg1 hm1)
              go_roundw
              case rel => exact ⟨k + 2, out ++ [65533], by omega, by go_num, by simp; omega, by simpa [i32s] using hown1, HH2.out, b0.grown (World.grownBy.trans (World.grownBy_alloc _ _ _) hg1) b0.size (fun g hg => (hown.lt g hg).1)⟩
              case measure => simp [intOf]; omega
            · have HH2 := hide (by have := HH1.out; rwa [U.wh_good 1 n' (by simp; omega) (by omega) (by omega) (by omega) (by omega) (by omega)] at this)
              go_wp2_with (at_builtin; go_must (refine wpList_app1 rfl (.tmp 138) (.tmp 141) 49 rfl w.heap.size 21 i0 _ 4 Tryd.underlying49 hi hz0 hz1 hz2 rfl u4 _ _ rfl (hown.alloc _) _ _ _ rfl (by first | rfl | simp) rfl (by omega) (by omega) (by first | exact b0.size | (have := b0.size; simp; omega)) ?_); intro v' w1 hown1 hg1 hm1)
              go_roundw
              case rel => exact ⟨k + 2, out ++ [n'], by omega, by go_num, by simp; omega, by simpa [i32s] using hown1, HH2.out, b0.grown (World.grownBy.trans (World.grownBy_alloc _ _ _) hg1) b0.size (fun g hg => (hown.lt g hg).1)⟩
              case measure => simp [intOf]; omega
      · have hb : U.bg x = (⟨((2 : Nat) : Int) + 1, 1, x - 224⟩, []) := by (unfold U.bg; repeat (first | rw [if_pos (by omega)] | rw [if_neg (by omega)])); rfl
        have em := i64_mask 4 (by omega) x
        simp at em
        have em' : bits .and .i64 x 15 = x - 224 := by omega
        have hN : 0 ≤ x - 224 ∧ x - 224 < 16 := by omega
        clear em
        generalize x - 224 = N0 at hb em' hN
        have MID := hide (U.mid_start HH.out HX.out hb (by omega) hN.1 (by simpa using hN.2))
        clear hb
        have q0 : decide (x < 128) = false := by simp; omega
        have q1 : decide (194 ≤ x) = true := by simp; omega
        have q2 : decide (x ≤ 223) = false := by simp; omega
        have q3 : decide (224 ≤ x) = true := by simp; omega
        have q4 : decide (x ≤ 239) = true := by simp; omega
        go_wp2_with fail
        go_loop [6, 8] (fun nv hv => ∃ (h : Nat) (n' : Int), 1 ≤ h ∧ h ≤ 3 ∧ k + h ≤ n ∧ nv = .int .i64 n' ∧ hv = .int .i64 h ∧ U.Mid l k 2 h n' out) (fun _ hv => 3 - (intOf hv).toNat)
        case atStart => exact ⟨1, N0, by omega, by omega, by omega, rfl, rfl, MID.out⟩
        case round =>
          obtain ⟨h, n', h1, h2, h3, rfl, rfl, hmid⟩ := hrel
          have ht := U.mid_top hmid h1 h2 (by omega) (by omega)
          have HM := hide hmid
          clear hmid
          by_cases a1 : h ≤ 2
          · by_cases a2 : k + h < n
            · obtain ⟨ad2, u2, e2, _, hu2, hc2⟩ := (HA.out.below b0).at_ a2
              obtain rfl := Option.some.inj e2
              rw [u8s, List.getElem?_map] at hu2
              obtain ⟨y, hy, rfl⟩ := Option.map_eq_some_iff.1 hu2
              have hyr := HL.out y (List.mem_of_getElem? hy)
              have HY := hide hy
              clear hu2 hy e2
              have f1 := U.and192 y hyr.1 hyr.2
              have f2 := U.and63 y hyr.1 hyr.2
              by_cases a3 : 128 ≤ y ∧ y < 192
              · have f1' : bits .and .u8 y 192 = 128 := by omega
                have f2' : bits .and .u8 y 63 = y - 128 := by omega
                have f3 := i64_join 6 (n' * 64) (y - 128) (by omega) (by omega) (by omega) (by omega) (by omega)
                have HM2 := hide (U.mid_step HM.out h1 a1 (by omega) HY.out a3.1 a3.2)
                clear f1 f2
                go_wp2_with fail
                go_round
                case rel => exact ⟨h + 1, n' * 64 + (y - 128), by omega, by omega, by omega, rfl, by go_num, HM2.out⟩
                case measure => simp [intOf]; omega
              · have HH2 := hide (U.mid_cut HM.out a1 HY.out (by omega))
                have hc : y - y % 64 < 128 ∨ 128 < y - y % 64 := by omega
                generalize y - y % 64 = cc at f1 hc
                clear f2
                have hc1 : (cc == 128) = false := by simp; omega
                go_wp2_with (at_builtin; go_must (refine wpList_app1 rfl (.tmp 138) (.tmp 141) 49 rfl w.heap.size 21 i0 _ 4 Tryd.underlying49 hi hz0 hz1 hz2 rfl u4 _ _ rfl (hown.alloc _) _ _ _ rfl (by first | rfl | simp) rfl (by omega) (by omega) (by first | exact b0.size | (have := b0.size; simp; omega)) ?_); intro v' w1 hown1 hg1 hm1)
                go_roundw
                case rel => exact ⟨k + h, out ++ [65533], by omega, by go_num, by simp; omega, by simpa [i32s] using hown1, HH2.out, b0.grown (World.grownBy.trans (World.grownBy_alloc _ _ _) hg1) b0.size (fun g hg => (hown.lt g hg).1)⟩
                case measure => simp [intOf]; omega
            · have HD := hide (U.mid_held HM.out a1 (by rw [HN.out]; omega))
              go_wp2_with fail
              go_ret2
              refine ⟨u4, _, rfl, ?_, by rw [HD.out]; exact hown, b0⟩
              rw [HD.out]
              simp
              omega
          · obtain rfl : h = 3 := by omega
            have HH1 := hide (U.mid_done HM.out rfl)
            have cs : (n' < 2048) ∨ (55296 ≤ n' ∧ n' ≤ 57343) ∨ (2048 ≤ n' ∧ n' < 55296) ∨ (57343 < n' ∧ n' < 65536) := by omega
            rcases cs with d | d | d | d
            · have HH2 := hide (by have := HH1.out; rwa [U.wh_bad 2 n' (by simp; omega) (by omega)] at this)
              go_wp2_with (at_builtin; go_must (refine wpList_app1 rfl (.tmp 138) (.tmp 141) 49 rfl w.heap.size 21 i0 _ 4 Tryd.underlying49 hi hz0 hz1 hz2 rfl u4 _ _ rfl (hown.alloc _) _ _ _ rfl (by first | rfl | simp) rfl (by omega) (by omega) (by first | exact b0.size | (have := b0.size; simp; omega)) ?_); intro v' w1 hown1 hg1 hm1)
              go_roundw
              case rel => exact ⟨k + 3, out ++ [65533], by omega, by go_num, by simp; omega, by simpa [i32s] using hown1, HH2.out, b0.grown (World.grownBy.trans (World.grownBy_alloc _ _ _) hg1) b0.size (fun g hg => (hown.lt g hg).1)⟩
              case measure => simp [intOf]; omega
            · have HH2 := hide (by have := HH1.out; rwa [U.wh_bad 2 n' (by simp; omega) (by omega)] at this)
              go_wp2_with (at_builtin; go_must (refine wpList_app1 rfl (.tmp 138) (.tmp 141) 49 rfl w.heap.size 21 i0 _ 4 Tryd.underlying49 hi hz0 hz1 hz2 rfl u4 _ _ rfl (hown.alloc _) _ _ _ rfl (by first | rfl | simp) rfl (by omega) (by omega) (by first | exact b0.size | (have := b0.size; simp; omega)) ?_); intro v' w1 hown1 hg1 hm1)
              go_roundw
              case rel => exact ⟨k + 3, out ++ [65533], by omega, by go_num, by simp; omega, by simpa [i32s] using hown1, HH2.out, b0.grown (World.grownBy.trans (World.grownBy_alloc _ _ _) hg1) b0.size (fun g hg => (hown.lt g hg).1)⟩
              case measure => simp [intOf]; omega
            · have HH2 := hide (by have := HH1.out; rwa [U.wh_good 2 n' (by simp; omega) (by omega) (by omega) (by omega) (by omega) (by omega)] at this)
              go_wp2_with (at_builtin; go_must (refine wpList_app1 rfl (.tmp 138) (.tmp 141) 49 rfl w.heap.size 21 i0 _ 4 Tryd.underlying49 hi hz0 hz1 hz2 rfl u4 _ _ rfl (hown.alloc _) _ _ _ rfl (by first | rfl | simp) rfl (by omega) (by omega) (by first | exact b0.size | (have := b0.size; simp; omega)) ?_); intro v' w1 hown1 hg1 hm1)
              go_roundw
              case rel => exact ⟨k + 3, out ++ [n'], by omega, by go_num, by simp; omega, by simpa [i32s] using hown1, HH2.out, b0.grown (World.grownBy.trans (World.grownBy_alloc _ _ _) hg1) b0.size (fun g hg => (hown.lt g hg).1)⟩
              case measure => simp [intOf]; omega
            · have HH2 := hide (by have := HH1.out; rwa [U.wh_good 2 n' (by simp; omega) (by omega) (by omega) (by omega) (by omega) (by omega)] at this)
              go_wp2_with (at_builtin; go_must (refine wpList_app1 rfl (.tmp 138) (.tmp 141) 49 rfl w.heap.size 21 i0 _ 4 Tryd.underlying49 hi hz0 hz1 hz2 rfl u4 _ _ rfl (hown.alloc _) _ _ _ rfl (by first | rfl | simp) rfl (by omega) (by omega) (by first | exact b0.size | (have := b0.size; simp; omega)) ?_); intro v' w1 hown1 hg1 hm1)
              go_roundw
              case rel => exact ⟨k + 3, out ++ [n'], by omega, by go_num, by simp; omega, by simpa [i32s] using hown1, HH2.out, b0.grown (World.grownBy.trans (World.grownBy_alloc _ _ _) hg1) b0.size (fun g hg => (hown.lt g hg).1)⟩
              case measure => simp [intOf]; omega
      · have hb : U.bg x = (⟨((3 : Nat) : Int) + 1, 1, x - 240⟩, []) := by (unfold U.bg; repeat (first | rw [if_pos (by omega)] | rw [if_neg (by omega)])); rfl
        have em := i64_mask 3 (by omega) x
        simp at em
        have em' : bits .and .i64 x 7 = x - 240 := by omega
        have hN : 0 ≤ x - 240 ∧ x - 240 < 8 := by omega
        clear em
        generalize x - 240 = N0 at hb em' hN
        have MID := hide (U.mid_start HH.out HX.out hb (by omega) hN.1 (by simpa using hN.2))
        clear hb
        have q0 : decide (x < 128) = false := by simp; omega
        have q1 : decide (194 ≤ x) = true := by simp; omega
        have q2 : decide (x ≤ 223) = false := by simp; omega
        have q3 : decide (224 ≤ x) = true := by simp; omega
        have q4 : decide (x ≤ 239) = false := by simp; omega
        have q5 : decide (240 ≤ x) = true := by simp; omega
        have q6 : decide (x ≤ 244) = true := by simp; omega
        go_wp2_with fail
        go_loop [6, 8] (fun nv hv => ∃ (h : Nat) (n' : Int), 1 ≤ h ∧ h ≤ 4 ∧ k + h ≤ n ∧ nv = .int .i64 n' ∧ hv = .int .i64 h ∧ U.Mid l k 3 h n' out) (fun _ hv => 4 - (intOf hv).toNat)
        case atStart => exact ⟨1, N0, by omega, by omega, by omega, rfl, rfl, MID.out⟩
        case round =>
          obtain ⟨h, n', h1, h2, h3, rfl, rfl, hmid⟩ := hrel
          have ht := U.mid_top hmid h1 h2 (by omega) (by omega)
          have HM := hide hmid
          clear hmid
          by_cases a1 : h ≤ 3
          · by_cases a2 : k + h < n
            · obtain ⟨ad2, u2, e2, _, hu2, hc2⟩ := (HA.out.below b0).at_ a2
              obtain rfl := Option.some.inj e2
              rw [u8s, List.getElem?_map] at hu2
              obtain ⟨y, hy, rfl⟩ := Option.map_eq_some_iff.1 hu2
              have hyr := HL.out y (List.mem_of_getElem? hy)
              have HY := hide hy
              clear hu2 hy e2
              have f1 := U.and192 y hyr.1 hyr.2
              have f2 := U.and63 y hyr.1 hyr.2
              by_cases a3 : 128 ≤ y ∧ y < 192
              · have f1' : bits .and .u8 y 192 = 128 := by omega
                have f2' : bits .and .u8 y 63 = y - 128 := by omega
                have f3 := i64_join 6 (n' * 64) (y - 128) (by omega) (by omega) (by omega) (by omega) (by omega)
                have HM2 := hide (U.mid_step HM.out h1 a1 (by omega) HY.out a3.1 a3.2)
                clear f1 f2
                go_wp2_with fail
                go_round
                case rel => exact ⟨h + 1, n' * 64 + (y - 128), by omega, by omega, by omega, rfl, by go_num, HM2.out⟩
                case measure => simp [intOf]; omega
              · have HH2 := hide (U.mid_cut HM.out a1 HY.out (by omega))
                have hc : y - y % 64 < 128 ∨ 128 < y - y % 64 := by omega
                generalize y - y % 64 = cc at f1 hc
                clear f2
                have hc1 : (cc == 128) = false := by simp; omega
                go_wp2_with (at_builtin; go_must (refine wpList_app1 rfl (.tmp 138) (.tmp 141) 49 rfl w.heap.size 21 i0 _ 4 Tryd.underlying49 hi hz0 hz1 hz2 rfl u4 _ _ rfl (hown.alloc _) _ _ _ rfl (by first | rfl | simp) rfl (by omega) (by omega) (by first | exact b0.size | (have := b0.size; simp; omega)) ?_); intro v' w1 hown1 hg1 hm1)
                go_roundw
                case rel => exact ⟨k + h, out ++ [65533], by omega, by go_num, by simp; omega, by simpa [i32s] using hown1, HH2.out, b0.grown (World.grownBy.trans (World.grownBy_alloc _ _ _) hg1) b0.size (fun g hg => (hown.lt g hg).1)⟩
                case measure => simp [intOf]; omega
            · have HD := hide (U.mid_held HM.out a1 (by rw [HN.out]; omega))
              go_wp2_with fail
              go_ret2
              refine ⟨u4, _, rfl, ?_, by rw [HD.out]; exact hown, b0⟩
              rw [HD.out]
              simp
              omega
          · obtain rfl : h = 4 := by omega
            have HH1 := hide (U.mid_done HM.out rfl)
            have cs : (n' < 65536) ∨ (1114111 < n') ∨ (65536 ≤ n' ∧ n' ≤ 1114111) := by omega
            rcases cs with d | d | d
            · have HH2 := hide (by have := HH1.out; rwa [U.wh_bad 3 n' (by simp; omega) (by omega)] at this)
              go_wp2_with (at_builtin; go_must (refine wpList_app1 rfl (.tmp 138) (.tmp 141) 49 rfl w.heap.size 21 i0 _ 4 Tryd.underlying49 hi hz0 hz1 hz2 rfl u4 _ _ rfl (hown.alloc _) _ _ _ rfl (by first | rfl | simp) rfl (by omega) (by omega) (by first | exact b0.size | (have := b0.size; simp; omega)) ?_); intro v' w1 hown1 hg1 hm1)
              go_roundw
              case rel => exact ⟨k + 4, out ++ [65533], by omega, by go_num, by simp; omega, by simpa [i32s] using hown1, HH2.out, b0.grown (World.grownBy.trans (World.grownBy_alloc _ _ _) hg1) b0.size (fun g hg => (hown.lt g hg).1)⟩
              case measure => simp [intOf]; omega
            · have HH2 := hide (by have := HH1.out; rwa [U.wh_bad 3 n' (by simp; omega) (by omega)] at this)
              go_wp2_with (at_builtin; go_must (refine wpList_app1 rfl (.tmp 138) (.tmp 141) 49 rfl w.heap.size 21 i0 _ 4 Tryd.underlying49 hi hz0 hz1 hz2 rfl u4 _ _ rfl (hown.alloc _) _ _ _ rfl (by first | rfl | simp) rfl (by omega) (by omega) (by first | exact b0.size | (have := b0.size; simp; omega)) ?_); intro v' w1 hown1 hg1 hm1)
              go_roundw
              case rel => exact ⟨k + 4, out ++ [65533], by omega, by go_num, by simp; omega, by simpa [i32s] using hown1, HH2.out, b0.grown (World.grownBy.trans (World.grownBy_alloc _ _ _) hg1) b0.size (fun g hg => (hown.lt g hg).1)⟩
              case measure => simp [intOf]; omega
            · have HH2 := hide (by have := HH1.out; rwa [U.wh_good 3 n' (by simp; omega) (by omega) (by omega) (by omega) (by omega) (by omega)] at this)
              go_wp2_with (at_builtin; go_must (refine wpList_app1 rfl (.tmp 138) (.tmp 141) 49 rfl w.heap.size 21 i0 _ 4 Tryd.underlying49 hi hz0 hz1 hz2 rfl u4 _ _ rfl (hown.alloc _) _ _ _ rfl (by first | rfl | simp) rfl (by omega) (by omega) (by first | exact b0.size | (have := b0.size; simp; omega)) ?_); intro v' w1 hown1 hg1 hm1)
              go_roundw
              case rel => exact ⟨k + 4, out ++ [n'], by omega, by go_num, by simp; omega, by simpa [i32s] using hown1, HH2.out, b0.grown (World.grownBy.trans (World.grownBy_alloc _ _ _) hg1) b0.size (fun g hg => (hown.lt g hg).1)⟩
              case measure => simp [intOf]; omega
    · obtain rfl : k = n := by omega
      have hd := U.head_end hhd (by rw [HN.out])
      have HD := hide hd
      clear hd hhd
      go_wp2
      go_ret2
      exact ⟨u4, 0, rfl, by rw [HD.out]; simp [U.z], by rw [HD.out]; exact hown, b0⟩
end Go.Proofs.YtnnjppgmadmmaaaDoor
