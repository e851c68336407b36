/- The contract of the document's own New. -/
import Derived.Test.YtcbmjdacdjcggaaDoorGridPure
import Derived.Test.YtcbmjdacdjcggaaDoorStepBox
import Derived.Deep.RegionLaw
set_option maxRecDepth 100000
namespace Go.Proofs.YtcbmjdacdjcggaaDoor
open Go.RowKit
set_option linter.unusedVariables false
/-- a row that is owned, behind what changed nothing that was there -/
theorem own_low {w w' : World} {base size n : Nat} {e : TypeId} {v : Value} {xs : List Value} (h : w.ownsRow base e size v n xs) (hb : Below w.heap.size w w') : w'.ownsRow base e size v n xs := own_kept h (Kept.of_below (L := []) hb) (by simp)
set_option maxHeartbeats 4000000 in
theorem rnew_any (R K : Nat) (p : PG.Pn) (w : World) (hR : R ≤ 40) (hK : K ≤ 60) :
    Calls Tryd.prog 45 #[.int .i64 R, .int .i64 K, pv p] w (GaveG w R K (List.replicate (R * K) (PG.blank p))) := by
  obtain ⟨i0, hi, hz0, hz1, hz2⟩ := info_parts info_cell
  have BC : ∀ (p : PG.Pn) (w' : World), Calls Tryd.prog 41 #[.agg #[.int .i64 p.1, .int .i64 p.2.1, .int .i64 p.2.2]] w' fun e w'' => e = .returned (.agg #[.int .i32 32, .int .i64 0, .int .i64 p.1, .int .i64 p.2.1, .int .i64 p.2.2]) ∧ Below w'.heap.size w' w'' := fun p w' => rblank_any p w'
  have BC := hide BC
  have hN : R * K ≤ 2400 := Nat.mul_le_mul hR hK
  have eN : (R : Int) * (K : Int) = ((R * K : Nat) : Int) := by simp
  generalize R * K = N at *
  unfold GaveG gv pv
  go_enter Tryd.func45, Tryd.ntmps45
  go_wp2_with fail
  go_loopw [14] (fun i wr => ∃ (k : Nat) (v : Value), k ≤ N ∧ i = .int .i64 k ∧ Box wr w.heap.size 23 #[.int .i64 p.1, .int .i64 p.2.1, .int .i64 p.2.2] ∧ Box wr (w.heap.size + 1) 27 #[.int .i64 0, .int .i64 0, .slice none 0 0] ∧ Box wr (w.heap.size + 1 + 1) 27 #[.int .i64 R, .int .i64 K, v] ∧
      wr.ownsRow w.heap.size 45 5 v k (ccells (List.replicate k (PG.blank p))) ∧ Below w.heap.size w wr)
    (fun i _ => N - (intOf i).toNat)
  case atStart =>
    refine ⟨0, _, Nat.zero_le _, rfl, ((Box.new w _ _).alloc _).alloc _, ?_, ?_, World.ownsRow_nil _ _ _ _, (((Below.refl _ _).alloc (Nat.le_refl _) _).alloc (by simp) _).alloc (by simp; omega) _⟩
    · have h := (Box.new (w.alloc (.cells #[.int .i64 p.1, .int .i64 p.2.1, .int .i64 p.2.2] 23)) 27 #[.int .i64 0, .int .i64 0, .slice none 0 0]).alloc (.cells #[.int .i64 R, .int .i64 K, .slice none 0 0] 27)
      rw [World.size_alloc] at h
      exact h
    · have h := Box.new ((w.alloc (.cells #[.int .i64 p.1, .int .i64 p.2.1, .int .i64 p.2.2] 23)).alloc (.cells #[.int .i64 0, .int .i64 0, .slice none 0 0] 27)) 27 #[.int .i64 R, .int .i64 K, .slice none 0 0]
      rw [World.size_alloc, World.size_alloc] at h
      exact h
  case round =>
    obtain ⟨k, v, hk, rfl, x0, x1, x2, ho, hb⟩ := hrel
    obtain ⟨Av, cv, rfl, _, _, hblk⟩ := own_form' ho
    by_cases hlt : k < N
    · obtain ⟨y0, y1, y2, _⟩ := x0.three
      obtain ⟨z0, z1, z2, _⟩ := x2.three
      have l0 := x0.lt
      have l1 := x1.lt
      have l2 := x2.lt
      have n0 := own_ne_box ho x0 (by decide)
      have n1 := own_ne_box ho x1 (by decide)
      have n2 := own_ne_box ho x2 (by decide)
      have HX0 := hide x0
      have HX1 := hide x1
      have HX2 := hide x2
      have HO := hide ho
      have HB := hide hb
      have hblk := hide hblk
      have hrep := hide (show ccells (List.replicate k (PG.blank p)) ++ [.int .i32 32, .int .i64 0, .int .i64 p.1, .int .i64 p.2.1, .int .i64 p.2.2] = ccells (List.replicate (k + 1) (PG.blank p)) by rw [List.replicate_succ' (n := k), ccells_append]; rfl)
      clear ho hb x0 x1 x2
      go_wp2_with fail
      go_region_law (first
        | (go_simp; go_at_call 41; refine (BC.out p _).mono ?_; rintro e wB ⟨rfl, bB⟩
           have sB : wr.heap.size ≤ wB.heap.size := bB.size
           have X0 := hide (HX0.out.drew.below bB l0)
           have X1 := hide (HX1.out.drew.below bB l1)
           have X2 := hide (HX2.out.drew.below bB l2)
           have O := hide (own_low (w := wr.drew) HO.out bB)
           have BB := hide (HB.out.drew.trans (bB.mono HB.out.size))
           have z2B := X2.out.three.2.2.1
           have z2o : ∀ o, (wB.alloc o).cell? ⟨w.heap.size + 1 + 1, 2, none⟩ = some (.slice Av k cv) := fun o => (World.cell?_alloc_lt wB o ⟨w.heap.size + 1 + 1, 2, none⟩ X2.out.lt).trans X2.out.three.2.2.1)
        | (refine step_appB (by rfl) (.tmp 17) (.tmp 20) 25 (by rfl) w.heap.size 45 i0 _ 5 40 Tryd.underlying25 hi hz0 hz1 hz2 zcell_size (by omega) (.slice Av k cv) k (ccells (List.replicate k (PG.blank p))) (by rfl) (O.out.alloc (.cells #[.int .i32 32, .int .i64 0, .int .i64 p.1, .int .i64 p.2.1, .int .i64 p.2.2] 45)) #[.int .i32 32, .int .i64 0, .int .i64 p.1, .int .i64 p.2.1, .int .i64 p.2.2] 45 wB.heap.size (by rfl) (Box.new wB _ _) rfl (by simp [Value.oneCell']) (by omega) (by omega) (by have := BB.out.size; simp; omega) ?_
           intro v1 w1 hown1 hg1 hm1
           (obtain ⟨Aw, cw, rfl, _⟩ := own_form' hown1)
           have Y0 := hide ((X0.out.alloc (.cells #[.int .i32 32, .int .i64 0, .int .i64 p.1, .int .i64 p.2.1, .int .i64 p.2.2] 45)).grown hg1 (fun e => n0 e.symm))
           have Y1 := hide ((X1.out.alloc (.cells #[.int .i32 32, .int .i64 0, .int .i64 p.1, .int .i64 p.2.1, .int .i64 p.2.2] 45)).grown hg1 (fun e => n1 e.symm))
           have Y2 := (X2.out.alloc (.cells #[.int .i32 32, .int .i64 0, .int .i64 p.1, .int .i64 p.2.1, .int .i64 p.2.2] 45)).grown hg1 (fun e => n2 e.symm)
           obtain ⟨q0, q1, q2, q3, q4, q5⟩ := Y2.three))
      all_goals
        have hs1 : wB.heap.size ≤ w1.heap.size := Nat.le_trans (by simp) hg1.size
        have B1 : Below w.heap.size w w1 := (BB.out.alloc BB.out.size (.cells #[.int .i32 32, .int .i64 0, .int .i64 p.1, .int .i64 p.2.1, .int .i64 p.2.2] 45)).grown hg1 (Nat.le_trans BB.out.size (by simp)) (fun g hg => (hblk.out g hg).1)
        have B2 := hide (B1.setCell (p := ⟨w.heap.size + 1 + 1, 2, none⟩) (show w.heap.size ≤ w.heap.size + 1 + 1 by omega) (.slice Aw (k + 1) cw))
        have Z0 := hide (Y0.out.far (p := ⟨w.heap.size + 1 + 1, 2, none⟩) (by show w.heap.size ≠ w.heap.size + 1 + 1; omega) (.slice Aw (k + 1) cw))
        have Z1 := hide (Y1.out.far (p := ⟨w.heap.size + 1 + 1, 2, none⟩) (by show w.heap.size + 1 ≠ w.heap.size + 1 + 1; omega) (.slice Aw (k + 1) cw))
        have Z2 := hide (show Box (w1.setCell ⟨w.heap.size + 1 + 1, 2, none⟩ (.slice Aw (k + 1) cw)) (w.heap.size + 1 + 1) 27 #[.int .i64 R, .int .i64 K, .slice Aw (k + 1) cw] by simpa using Y2.set 2 (.slice Aw (k + 1) cw))
        have m2 := own_ne_box hown1 Y2 (by decide)
        have O2 := ownsRow_setCell_other hown1 (a := ⟨w.heap.size + 1 + 1, 2, none⟩) m2 (.slice Aw (k + 1) cw)
        rw [show (#[Value.int .i32 32, .int .i64 0, .int .i64 p.1, .int .i64 p.2.1, .int .i64 p.2.2] : Array Value).toList = [.int .i32 32, .int .i64 0, .int .i64 p.1, .int .i64 p.2.1, .int .i64 p.2.2] from rfl, hrep.out] at O2
        have O2 := hide O2
        clear B1 Y2 hown1 hg1 hm1 m2 HX0 HX1 HX2 X0 X1 X2 HO O HB BB hblk
        go_wp2_with fail
        go_roundw
        case rel => exact ⟨k + 1, _, by omega, by go_num, Z0.out, Z1.out, Z2.out, O2.out, B2.out⟩
        case measure => simp [intOf]; omega
    · obtain rfl : k = N := by omega
      obtain ⟨z0, z1, z2, _⟩ := x2.three
      obtain ⟨q0, q1, q2, q3, q4, q5⟩ := x1.three
      have n1 := own_ne_box ho x1 (by decide)
      have X := x1.set3 (.int .i64 R) (.int .i64 K) (.slice Av k cv)
      have O := ownsRow_setCell_other (ownsRow_setCell_other (ownsRow_setCell_other ho (a := ⟨w.heap.size + 1, 0, none⟩) n1 (.int .i64 R)) (a := ⟨w.heap.size + 1, 1, none⟩) n1 (.int .i64 K)) (a := ⟨w.heap.size + 1, 2, none⟩) n1 (.slice Av k cv)
      have bz := below_set3 hb (show w.heap.size ≤ w.heap.size + 1 by omega) (.int .i64 R) (.int .i64 K) (.slice Av k cv)
      obtain ⟨j0, j1, j2, _⟩ := X.three
      have O := hide O
      have bz := hide bz
      clear ho BC
      go_wp2_with fail
      refine bodyPost_ret (v := .agg #[.int .i64 R, .int .i64 K, .slice Av k cv]) (by simp [results, Tryd.results45, go_sem, j0, j1, j2]) rfl ⟨_, rfl, ?_, bz.out⟩
      rw [List.length_replicate]
      exact O.out
end Go.Proofs.YtcbmjdacdjcggaaDoor
