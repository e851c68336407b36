/- PenTells: any pen, any parameters: the pen that comes. -/
import Derived.Test.YtnjkongbccblaaaDoorPenSaid
import Derived.Test.YtnjkongbccblaaaDoorArgs
import Derived.Deep.CutBlock
set_option maxRecDepth 100000
namespace Go.Proofs.YtnjkongbccblaaaDoor
open Go.RowKit
set_option linter.unusedVariables false
/-- the call's own parameters -/
def OwnL (w : World) (a0 a1 a2 : Int) (u : Value) (wx : World) : Prop := ∃ (n : Nat) (l : List Int), n ≤ 14 ∧ l.length = n ∧ wx.ownsRow w.heap.size 3 1 u n (j64s l) ∧ Hid (∀ x ∈ l, -1 ≤ x ∧ x ≤ 65535) ∧ Box wx w.heap.size 31 #[.int .i64 a0, .int .i64 a1, .int .i64 a2] ∧ Below w.heap.size w wx
def tabC : Array Value := #[.int .i64 38, .int .i64 48, .int .i64 5, .int .i64 2, .int .i64 300, .int .i64 255, .int .i64 0, .int .i64 38]
theorem tabC_at {k : Nat} (h : k < 8) : ∃ z : Int, tabC[k]? = some (.int .i64 z) ∧ -1 ≤ z ∧ z ≤ 65535 := by
  have : ∀ k, k < 8 → ∃ z : Int, tabC.toList[k]? = some (.int .i64 z) ∧ -1 ≤ z ∧ z ≤ 65535 := by
    intro k h
    match k, h with
    | 0, _ => exact ⟨38, rfl, by omega, by omega⟩
    | 1, _ => exact ⟨48, rfl, by omega, by omega⟩
    | 2, _ => exact ⟨5, rfl, by omega, by omega⟩
    | 3, _ => exact ⟨2, rfl, by omega, by omega⟩
    | 4, _ => exact ⟨300, rfl, by omega, by omega⟩
    | 5, _ => exact ⟨255, rfl, by omega, by omega⟩
    | 6, _ => exact ⟨0, rfl, by omega, by omega⟩
    | 7, _ => exact ⟨38, rfl, by omega, by omega⟩
    | k + 8, h => omega
  simpa using this k h
theorem tdiv9_bd (n : Int) (hn0 : -9223372036854775808 ≤ n) (hn1 : n ≤ 9223372036854775807) : -9223372036854775808 ≤ n.tdiv 9 ∧ n.tdiv 9 ≤ 9223372036854775807 := by
  have h1 := Int.mul_tdiv_add_tmod n 9
  have h2 := Int.tmod_lt_of_pos n (b := 9) (by omega)
  have h3 := Int.tmod_lt_of_pos (-n) (b := 9) (by omega)
  rw [Int.neg_tmod] at h3
  omega
theorem bd_snoc {l : List Int} {z : Int} (h : Hid (∀ x ∈ l, -1 ≤ x ∧ x ≤ 65535)) (h0 : -1 ≤ z) (h1 : z ≤ 65535) : Hid (∀ x ∈ l ++ [z], -1 ≤ x ∧ x ≤ 65535) := by
  intro x hx
  rcases List.mem_append.1 hx with hx | hx
  · exact h x hx
  · have := List.mem_singleton.1 hx
    omega
set_option maxHeartbeats 16000000 in
theorem penTells_t (a0 a1 a2 pf pb : Int) (pg : Nat) (Ap Ar : Option Addr) (np cp nr cr : Nat) (lp lr : List Int) (own : Bool) (w : World) (hp : PR ⟨pf, pb, pg⟩) (hA : Arg .i64 w Ap np cp lp) (hR : Arg .i64 w Ar nr cr lr)
    (hFT : FlagT w) (PRN : Hid (∀ w, FlagT w → Calls Tryd.prog 3 #[] w fun e w' => e = .returned (.bool true) ∧ Below w.heap.size w w'))
    (KPA : Hid (∀ w, Calls Tryd.prog 15 #[.agg #[.int .i64 a0, .int .i64 a1, .int .i64 a2]] w fun e w' => e = .returned (.agg #[.int .i64 pf, .int .i64 pb, .int .i64 (pg : Nat)]) ∧ Below w.heap.size w w')) :
    Calls Tryd.prog 4 #[.agg #[.int .i64 a0, .int .i64 a1, .int .i64 a2], .slice Ap np cp, .slice Ar nr cr, .bool own] w fun e w' => e = .returned (.bool true) ∧ Below w.heap.size w w' := by
  obtain ⟨i0, hi, hz0, hz1, hz2⟩ := info_parts info_int9
  have HA := hide hA
  have HR := hide hR
  have HPR := hide hp
  have HT := hide hFT
  have hcap1 := hA.cap
  have hle1 := hA.le
  have hcap2 := hR.cap
  have hle2 := hR.le
  unfold maxLen at hcap1 hcap2
  clear hA hR hp
  go_enter Tryd.func4, Tryd.ntmps4
  have hK0 := Box.new w 31 #[.int .i64 a0, .int .i64 a1, .int .i64 a2]
  have hB0 := (Below.refl w.heap.size w).alloc (Nat.le_refl _) (.cells #[.int .i64 a0, .int .i64 a1, .int .i64 a2] 31)
  go_upto_block 0 with fail
  generalize w.alloc (.cells #[.int .i64 a0, .int .i64 a1, .int .i64 a2] 31) = wa at hK0 hB0 ⊢
  have HK0 := hide hK0
  have HB0 := hide hB0
  clear hK0 hB0
  go_cut [9] (fun u wx => OwnL w a0 a1 a2 u wx)
  case first =>
    go_wp2_with fail
    go_loopw [9, 10] (fun u i wr => ∃ (k : Nat) (l : List Int), k ≤ 14 ∧ k ≤ np ∧ i = .int .i64 k ∧ Hid (l.length = k) ∧ wr.ownsRow w.heap.size 3 1 u k (j64s l) ∧ Hid (∀ x ∈ l, -1 ≤ x ∧ x ≤ 65535) ∧ Hid (Box wr w.heap.size 31 #[.int .i64 a0, .int .i64 a1, .int .i64 a2]) ∧ Below w.heap.size w wr) (fun _ i _ => 14 - (intOf i).toNat)
    case atStart => exact ⟨0, [], by omega, Nat.zero_le _, rfl, by exact rfl, World.ownsRow_nil _ _ _ _, (by intro x hx; simp at hx), HK0.out, HB0.out⟩
    case round =>
      obtain ⟨k, l, hk, hkn, rfl, hl, ho, hbd, hbx, b0⟩ := hrel
      have cs : (np ≤ k ∨ (k < np ∧ 14 ≤ k)) ∨ (k < np ∧ k < 14) := by omega
      rcases cs with hh | ⟨h, h'⟩
      · have fin : OwnL w a0 a1 a2 u9 wr := ⟨k, l, hk, hl.out, ho, hbd, hbx.out, b0⟩
        have FIN := hide fin
        clear fin ho
        rcases hh with hh | ⟨hh, hh'⟩
        · go_wp2_with fail
          go_meet
          exact FIN.out
        · go_wp2_with fail
          go_meet
          exact FIN.out
      · obtain ⟨ad, u, rfl, _, hu, hc⟩ := (HA.out.seen.below b0).at_ h
        rw [List.getElem?_map] at hu
        obtain ⟨x, hx, rfl⟩ := Option.map_eq_some_iff.1 hu
        obtain ⟨x0, x1⟩ := bounds_i64 (HA.out.wf x (List.mem_of_getElem? hx))
        obtain ⟨y, hy, hyb⟩ : ∃ y : Int, -1 + x % (110 - -1 + 1) = y ∧ -1 ≤ y ∧ y ≤ 110 := ⟨-1 + x % 112, rfl, by omega, by omega⟩
        have WI := hide (fun w' => within_is x (-1) 110 y hy w' x0 x1 (by omega) (by omega) (by omega))
        have hsz := b0.size
        obtain ⟨d0, d1⟩ := tdiv9_bd x x0 x1
        by_cases h9 : x.tmod 9 = 4
        · have h9' : (x.tmod 9 == 4) = true := by simp [h9]
          obtain ⟨q, hq, hq8⟩ : ∃ q : Nat, 0 + x.tdiv 9 % (7 - 0 + 1) = (q : Int) ∧ q < 8 := ⟨(0 + x.tdiv 9 % (7 - 0 + 1)).toNat, by omega, by omega⟩
          have W2 := hide (fun w' => within_is (x.tdiv 9) 0 7 q hq w' d0 d1 (by omega) (by omega) (by omega))
          obtain ⟨z, hz, hzb0, hzb1⟩ := tabC_at hq8
          have hcz := ((Box.new wr 3 tabC).cell q).trans hz
          have ho2 := own_alloc ho (.cells tabC 3)
          have b2 := b0.alloc hsz (.cells tabC 3)
          have hbx2 := hide (hbx.out.alloc (.cells tabC 3))
          unfold tabC at hcz ho2 b2 hbx2
          have hc2 : (wr.alloc (.cells #[.int .i64 38, .int .i64 48, .int .i64 5, .int .i64 2, .int .i64 300, .int .i64 255, .int .i64 0, .int .i64 38] 3)).cell? (ad.add k) = some (.int .i64 x) := (World.cell?_alloc_lt wr _ _ (World.block_lt_of_cell? wr _ hc)).trans hc
          clear hu hx hy hq hz h9 d0 d1 ho
          go_wp2_with fail
          refine (WI.out _).mono ?_
          rintro e w' ⟨rfl, rfl⟩
          go_wp2_with fail
          refine (W2.out _).mono ?_
          rintro e w' ⟨rfl, rfl⟩
          generalize wr.alloc (.cells #[.int .i64 38, .int .i64 48, .int .i64 5, .int .i64 2, .int .i64 300, .int .i64 255, .int .i64 0, .int .i64 38] 3) = wb at hcz ho2 b2 hbx2 hc2 ⊢
          have hsz2 := b2.size
          go_wp2_with (at_builtin; go_must (refine wpList_app1 rfl (.tmp 44) (.tmp 46) 27 rfl w.heap.size 3 i0 _ 8 Tryd.underlying27 hi hz0 hz1 hz2 rfl u9 k _ rfl ho2 _ _ _ rfl (by simp) rfl (by omega) (by omega) hsz2 ?_); intro v1 w3 hown1 hg1 hm1)
          go_roundw
          case rel =>
            have hr : ∀ g, u9.ownBlock = some g → w.heap.size ≤ g := fun g hg => (ho2.lt g hg).1
            refine ⟨k + 1, l ++ [z], by omega, by omega, by go_num, by rw [List.length_append, hl.out]; rfl, by simpa [j64s] using hown1, bd_snoc hbd hzb0 hzb1, ?_, b2.grown hg1 hsz2 hr⟩
            exact hbx2.out.grown hg1 (fun e => hbx2.out.notOwn ho2 (by decide) e)
          case measure => simp [intOf]; omega
        · have h9' : (x.tmod 9 == 4) = false := by simpa using h9
          clear hu hx hy h9 d0 d1
          go_wp2_with fail
          refine (WI.out _).mono ?_
          rintro e w' ⟨rfl, rfl⟩
          go_wp2_with (at_builtin; go_must (refine wpList_app1 rfl (.tmp 44) (.tmp 46) 27 rfl w.heap.size 3 i0 _ 8 Tryd.underlying27 hi hz0 hz1 hz2 rfl u9 k _ rfl ho _ _ _ rfl (by simp) rfl (by omega) (by omega) hsz ?_); intro v1 w3 hown1 hg1 hm1)
          go_roundw
          case rel =>
            refine ⟨k + 1, l ++ [y], by omega, by omega, by go_num, by rw [List.length_append, hl.out]; rfl, by simpa [j64s] using hown1, bd_snoc hbd hyb.1 (by omega), ?_, b0.grown hg1 hsz (fun g hg => (ho.lt g hg).1)⟩
            exact hbx.out.grown hg1 (fun e => hbx.out.notOwn ho (by decide) e)
          case measure => simp [intOf]; omega
  case rest =>
    have HO1 := hide hcut
    have HB1 : Below w.heap.size w wc := by
      obtain ⟨_, _, _, _, _, _, _, h⟩ := hcut
      exact h
    have HX1 : Hid (Box wc w.heap.size 31 #[.int .i64 a0, .int .i64 a1, .int .i64 a2]) := by
      obtain ⟨_, _, _, _, _, _, h, _⟩ := hcut
      exact h
    obtain ⟨n9, l9, _, _, ho9, _⟩ := hcut
    obtain ⟨A9, c9, rfl, _⟩ := own_form ho9
    have HB1' := hide HB1
    clear ho9 HB1
    go_upto_if 49 with fail
    go_cut [9, 12] from 48 to 67 (fun u _ wx => OwnL w a0 a1 a2 u wx)
    case first =>
      cases own with
      | true =>
        go_wp2_with fail
        go_meet
        exact HO1.out
      | false =>
        go_wp2_with fail
        try simp only [Bool.not_false]
        go_loopw [9, 12] (fun u i wr => ∃ (k : Nat) (l : List Int), k ≤ 14 ∧ k ≤ nr ∧ i = .int .i64 k ∧ Hid (l.length = k) ∧ wr.ownsRow w.heap.size 3 1 u k (j64s l) ∧ Hid (∀ x ∈ l, -1 ≤ x ∧ x ≤ 65535) ∧ Hid (Box wr w.heap.size 31 #[.int .i64 a0, .int .i64 a1, .int .i64 a2]) ∧ Below w.heap.size w wr) (fun _ i _ => 14 - (intOf i).toNat)
        case atStart => exact ⟨0, [], by omega, Nat.zero_le _, rfl, by exact rfl, World.ownsRow_nil _ _ _ _, (by intro x hx; simp at hx), HX1.out, HB1'.out⟩
        case round =>
          obtain ⟨k, l, hk, hkn, rfl, hl, ho, hbd, hbx, b0⟩ := hrel
          have cs : (nr ≤ k ∨ (k < nr ∧ 14 ≤ k)) ∨ (k < nr ∧ k < 14) := by omega
          rcases cs with hh | ⟨h, h'⟩
          · have FIN := hide (show OwnL w a0 a1 a2 u9 wr from ⟨k, l, hk, hl.out, ho, hbd, hbx.out, b0⟩)
            clear ho
            rcases hh with hh | ⟨hh, hh'⟩
            · go_wp2_with fail
              go_meet
              exact FIN.out
            · go_wp2_with fail
              go_meet
              exact FIN.out
          · obtain ⟨ad, u, rfl, _, hu, hc⟩ := (HR.out.seen.below b0).at_ h
            rw [List.getElem?_map] at hu
            obtain ⟨x, hx, rfl⟩ := Option.map_eq_some_iff.1 hu
            obtain ⟨x0, x1⟩ := bounds_i64 (HR.out.wf x (List.mem_of_getElem? hx))
            obtain ⟨y, hy, hyb⟩ : ∃ y : Int, -1 + x % (65535 - -1 + 1) = y ∧ -1 ≤ y ∧ y ≤ 65535 := ⟨-1 + x % 65537, rfl, by omega, by omega⟩
            have WI := hide (fun w' => within_is x (-1) 65535 y hy w' x0 x1 (by omega) (by omega) (by omega))
            have hsz := b0.size
            clear hu hx hy
            go_wp2_with fail
            refine (WI.out _).mono ?_
            rintro e w' ⟨rfl, rfl⟩
            go_wp2_with (at_builtin; go_must (refine wpList_app1 rfl (.tmp 60) (.tmp 66) 27 rfl w.heap.size 3 i0 _ 8 Tryd.underlying27 hi hz0 hz1 hz2 rfl u9 k _ rfl ho _ _ _ rfl (by simp) rfl (by omega) (by omega) hsz ?_); intro v1 w3 hown1 hg1 hm1)
            go_roundw
            case rel =>
              refine ⟨k + 1, l ++ [y], by omega, by omega, by go_num, by rw [List.length_append, hl.out]; rfl, by simpa [j64s] using hown1, bd_snoc hbd hyb.1 hyb.2, ?_, b0.grown hg1 hsz (fun g hg => (ho.lt g hg).1)⟩
              exact hbx.out.grown hg1 (fun e => hbx.out.notOwn ho (by decide) e)
            case measure => simp [intOf]; omega
    case rest =>
      obtain ⟨n, l, hn, hl, ho, hbd, hbx, hbw⟩ := hcut
      obtain ⟨A1, c1, rfl, hnc, _, _⟩ := own_form ho
      have S0 := hide (Seen.of_own ho)
      have HL := hide hl
      obtain ⟨z, hz⟩ : ∃ z, PS.apply ⟨pf, pb, pg⟩ l = z := ⟨_, rfl⟩
      obtain ⟨zf, zb, zg⟩ := z
      have HZ := hide hz
      have RM := hide (roomy6_any A1 n c1 l 7 _ S0.out (by omega))
      have HX2 := hide hbx
      have HW2 := hide hbw
      clear ho hl hz hbx hbw HO1 HX1 HB1' HK0 HB0 HA HR hcap1 hcap2 hle1 hle2
      go_upto_region 15 with fail
      go_wp2_with fail
      refine RM.out.mono ?_
      rintro e w2 ⟨AR, cR, rfl, hcR, hR, bR⟩
      have SR := hide hR
      have S1 := hide ((S0.out.below bR).more bR.size)
      have SF := hide (show Seen w2 w2.heap.size AR n (j64s l) by
        have := hR.take (k := n) (by omega)
        rwa [List.take_left' (by rw [j64s_len, HL.out])] at this)
      have HK := hide (HX2.out.below bR HX2.out.lt)
      have BW := hide (HW2.out.trans (bR.mono HW2.out.size))
      have AP := hide (fun (B : Nat) w' (h : Seen w' B AR n (j64s l)) hft => papply_is ⟨pf, pb, pg⟩ ⟨zf, zb, zg⟩ AR n cR B l HZ.out w' HPR.out h (by omega) (by omega) (fun x hx => by have := hbd.out x hx; omega) hft)
      have RA := hide (fun w' (h : Seen w' w'.heap.size A1 n (j64s l)) => rapply_is ⟨pf, pb, pg⟩ ⟨zf, zb, zg⟩ A1 n c1 l HZ.out w' HPR.out.1 h (by omega) hnc (fun x hx => by have := hbd.out x hx; omega))
      have IN := hide fun w' (h : Seen w' w2.heap.size AR (n + 80) (j64s l ++ List.replicate 80 (.int .i64 7))) (h' : Seen w' w2.heap.size A1 n (j64s l)) => intact6_any AR A1 w2.heap.size w2.heap.size n cR c1 l 7 w' h h' hcR (by omega)
      have ezz : ∀ w' : World, (binOp .eql 23 (.agg #[.int .i64 zf, .int .i64 zb, .int .i64 (zg : Nat)]) (.agg #[.int .i64 zf, .int .i64 zb, .int .i64 (zg : Nat)])).run Tryd.prog w' = .ok (.bool true) w' := fun w' => by rw [eql_pen10]; simp
      clear RM S0 HX2 HW2 hR bR
      go_upto_region 16 with fail
      go_cut [8] from 70 to 89 (fun u wx => u = .bool true ∧ Below w.heap.size w wx)
      case first =>
          refine wp_region_gj (n := 90) [] (fun _ => #[]) [(0, 0, 0, 0, 0), (0, 0, 0, 0, 0), (0, 0, 0, 0, 0), (0, 0, 0, 0, 0), (0, 0, 0, 0, 0), (0, 0, 0, 0, 0), (0, 0, 0, 0, 0), (0, 0, 0, 0, 0), (0, 0, 0, 0, 0), (0, 0, 0, 0, 0), (0, 0, 0, 0, 0), (0, 0, 0, 0, 0), (0, 0, 0, 0, 0), (0, 0, 0, 0, 0), (0, 0, 0, 0, 0), (0, 0, 0, 0, 0), (0, 0, 0, 0, 0), (0, 0, 0, 0, 0), (0, 0, 0, 0, 0), (0, 0, 0, 0, 0), (0, 0, 0, 0, 0)] (fun j => [(.agg #[.int .i64 a0, .int .i64 a1, .int .i64 a2]), (.agg #[.int .i64 pf, .int .i64 pb, .int .i64 (pg : Nat)]), (.slice AR (n + 80) cR), (.slice A1 n c1), (.int .i64 (n : Nat)), (.slice AR n cR), (.agg #[.int .i64 zf, .int .i64 zb, .int .i64 (zg : Nat)]), (.agg #[.int .i64 a0, .int .i64 a1, .int .i64 a2]), (.agg #[.int .i64 pf, .int .i64 pb, .int .i64 (pg : Nat)]), (.slice A1 n c1), (.agg #[.int .i64 zf, .int .i64 zb, .int .i64 (zg : Nat)]), (.bool true), (.bool true), (.slice AR (n + 80) cR), (.slice A1 n c1), (.bool true), (.bool true), (.bool true), (.bool true), (.bool true), (.bool true)].getD j undef) [] (fun _ => 0) (by kernel_rfl) (by kernel_rfl) (by kernel_rfl) rfl (by kernel_rfl) (gno4 rfl) (fun i j h => by revert h; exact gno4 (p := fun _ => _) rfl i) (AllG.nil _) (fun hGS => cases21 ⟨?_, ?_, ?_, ?_, ?_, ?_, ?_, ?_, ?_, ?_, ?_, ?_, ?_, ?_, ?_, ?_, ?_, ?_, ?_, ?_, ?_⟩) ?_
          · intro L a w' hL hsame hsz hJ hdep hcl
            have hb := hJ.kept.toBelow (Nat.le_refl _) (by simp)
            have e0 : a.eval (.tmp 4) = (.pointer (some ⟨w.heap.size, 0, none⟩)) := eval_base hsame (by kernel_rfl)
            have hx := hJ.keptBox (HK.out) (by simp)
            have q0 : w'.cell? ⟨w.heap.size, 0, none⟩ = some (.int .i64 a0) := hx.cell 0
            have q1 : w'.cell? ⟨w.heap.size, 1, none⟩ = some (.int .i64 a1) := hx.cell 1
            have q2 : w'.cell? ⟨w.heap.size, 2, none⟩ = some (.int .i64 a2) := hx.cell 2
            refine Step.val _ rfl rfl (wanted_none rfl) (.agg #[.int .i64 a0, .int .i64 a1, .int .i64 a2]) w' (fun ρ hρ => ?_) (hJ.val hGS hcl hL rfl (Below.refl _ _) _ rfl)
            clear hx
            rw [hρ] at e0
            clear hJ hsame hdep hcl hρ hsz hb
            go_simp
          · intro L a w' hL hsame hsz hJ hdep hcl
            have hb := hJ.kept.toBelow (Nat.le_refl _) (by simp)
            have e0 : a.eval (.tmp 70) = (.agg #[.int .i64 a0, .int .i64 a1, .int .i64 a2]) := eval_slot (j := 0) (by kernel_rfl) (hJ.valOf (by decide) (dep_of hdep 0 (by kernel_rfl)) rfl rfl)
            refine Step.call _ rfl rfl (wanted_none rfl) 15 #[.agg #[.int .i64 a0, .int .i64 a1, .int .i64 a2]] (fun ρ hρ => ?_) ?_
            · skip
              rw [hρ] at e0
              have ef : ρ (.func 15) = .func (.func 15) #[] #[] := (hρ _).symm
              clear hJ hsame hdep hcl hρ hsz hb
              go_simp
            · refine (KPA.out _).mono ?_
              rintro e w2 ⟨rfl, bb⟩
              exact ⟨_, rfl, hJ.val hGS hcl hL rfl bb _ rfl⟩
          · intro L a w' hL hsame hsz hJ hdep hcl
            have hb := hJ.kept.toBelow (Nat.le_refl _) (by simp)
            have e0 : a.eval (.tmp 13) = (.slice AR (n + 80) cR) := eval_base hsame (by kernel_rfl)
            refine Step.val _ rfl rfl (wanted_none rfl) (.slice AR (n + 80) cR) w' (fun ρ hρ => ?_) (hJ.val hGS hcl hL rfl (Below.refl _ _) _ rfl)
            rw [hρ] at e0
            clear hJ hsame hdep hcl hρ hsz hb
            go_simp
          · intro L a w' hL hsame hsz hJ hdep hcl
            have hb := hJ.kept.toBelow (Nat.le_refl _) (by simp)
            have e0 : a.eval (.tmp 9) = (.slice A1 n c1) := eval_base hsame (by kernel_rfl)
            refine Step.val _ rfl rfl (wanted_none rfl) (.slice A1 n c1) w' (fun ρ hρ => ?_) (hJ.val hGS hcl hL rfl (Below.refl _ _) _ rfl)
            rw [hρ] at e0
            clear hJ hsame hdep hcl hρ hsz hb
            go_simp
          · intro L a w' hL hsame hsz hJ hdep hcl
            have hb := hJ.kept.toBelow (Nat.le_refl _) (by simp)
            have e0 : a.eval (.tmp 73) = (.slice A1 n c1) := eval_slot (j := 3) (by kernel_rfl) (hJ.valOf (by decide) (dep_of hdep 3 (by kernel_rfl)) rfl rfl)
            refine Step.val _ rfl rfl (wanted_none rfl) (.int .i64 (n : Nat)) w' (fun ρ hρ => ?_) (hJ.val hGS hcl hL rfl (Below.refl _ _) _ rfl)
            rw [hρ] at e0
            clear hJ hsame hdep hcl hρ hsz hb
            go_simp
          · intro L a w' hL hsame hsz hJ hdep hcl
            have hb := hJ.kept.toBelow (Nat.le_refl _) (by simp)
            have e0 : a.eval (.tmp 72) = (.slice AR (n + 80) cR) := eval_slot (j := 2) (by kernel_rfl) (hJ.valOf (by decide) (dep_of hdep 2 (by kernel_rfl)) rfl rfl)
            have e1 : a.eval (.tmp 74) = (.int .i64 (n : Nat)) := eval_slot (j := 4) (by kernel_rfl) (hJ.valOf (by decide) (dep_of hdep 4 (by kernel_rfl)) rfl rfl)
            refine Step.val _ rfl rfl (wanted_none rfl) (.slice AR n cR) w' (fun ρ hρ => ?_) (hJ.val hGS hcl hL rfl (Below.refl _ _) _ rfl)
            rw [hρ] at e0 e1
            clear hJ hsame hdep hcl hρ hsz hb
            go_simp
            intro h
            have := hcR
            omega
          · intro L a w' hL hsame hsz hJ hdep hcl
            have hb := hJ.kept.toBelow (Nat.le_refl _) (by simp)
            have e0 : a.eval (.tmp 71) = (.agg #[.int .i64 pf, .int .i64 pb, .int .i64 (pg : Nat)]) := eval_slot (j := 1) (by kernel_rfl) (hJ.valOf (by decide) (dep_of hdep 1 (by kernel_rfl)) rfl rfl)
            have e1 : a.eval (.tmp 75) = (.slice AR n cR) := eval_slot (j := 5) (by kernel_rfl) (hJ.valOf (by decide) (dep_of hdep 5 (by kernel_rfl)) rfl rfl)
            refine Step.call _ rfl rfl (wanted_none rfl) 8 #[.agg #[.int .i64 pf, .int .i64 pb, .int .i64 (pg : Nat)], .slice AR n cR] (fun ρ hρ => ?_) ?_
            · skip
              rw [hρ] at e0 e1
              have ef : ρ (.func 8) = .func (.func 8) #[] #[] := (hρ _).symm
              clear hJ hsame hdep hcl hρ hsz hb
              go_simp
            · refine (AP.out _ _ (SF.out.below hb) (HT.out.keep (BW.out.trans (hb.mono BW.out.size)))).mono ?_
              rintro e w2 ⟨rfl, bb⟩
              exact ⟨_, rfl, hJ.val hGS hcl hL rfl bb _ rfl⟩
          · intro L a w' hL hsame hsz hJ hdep hcl
            have hb := hJ.kept.toBelow (Nat.le_refl _) (by simp)
            have e0 : a.eval (.tmp 4) = (.pointer (some ⟨w.heap.size, 0, none⟩)) := eval_base hsame (by kernel_rfl)
            have hx := hJ.keptBox (HK.out) (by simp)
            have q0 : w'.cell? ⟨w.heap.size, 0, none⟩ = some (.int .i64 a0) := hx.cell 0
            have q1 : w'.cell? ⟨w.heap.size, 1, none⟩ = some (.int .i64 a1) := hx.cell 1
            have q2 : w'.cell? ⟨w.heap.size, 2, none⟩ = some (.int .i64 a2) := hx.cell 2
            refine Step.val _ rfl rfl (wanted_none rfl) (.agg #[.int .i64 a0, .int .i64 a1, .int .i64 a2]) w' (fun ρ hρ => ?_) (hJ.val hGS hcl hL rfl (Below.refl _ _) _ rfl)
            clear hx
            rw [hρ] at e0
            clear hJ hsame hdep hcl hρ hsz hb
            go_simp
          · intro L a w' hL hsame hsz hJ hdep hcl
            have hb := hJ.kept.toBelow (Nat.le_refl _) (by simp)
            have e0 : a.eval (.tmp 77) = (.agg #[.int .i64 a0, .int .i64 a1, .int .i64 a2]) := eval_slot (j := 7) (by kernel_rfl) (hJ.valOf (by decide) (dep_of hdep 7 (by kernel_rfl)) rfl rfl)
            refine Step.call _ rfl rfl (wanted_none rfl) 15 #[.agg #[.int .i64 a0, .int .i64 a1, .int .i64 a2]] (fun ρ hρ => ?_) ?_
            · skip
              rw [hρ] at e0
              have ef : ρ (.func 15) = .func (.func 15) #[] #[] := (hρ _).symm
              clear hJ hsame hdep hcl hρ hsz hb
              go_simp
            · refine (KPA.out _).mono ?_
              rintro e w2 ⟨rfl, bb⟩
              exact ⟨_, rfl, hJ.val hGS hcl hL rfl bb _ rfl⟩
          · intro L a w' hL hsame hsz hJ hdep hcl
            have hb := hJ.kept.toBelow (Nat.le_refl _) (by simp)
            have e0 : a.eval (.tmp 9) = (.slice A1 n c1) := eval_base hsame (by kernel_rfl)
            refine Step.val _ rfl rfl (wanted_none rfl) (.slice A1 n c1) w' (fun ρ hρ => ?_) (hJ.val hGS hcl hL rfl (Below.refl _ _) _ rfl)
            rw [hρ] at e0
            clear hJ hsame hdep hcl hρ hsz hb
            go_simp
          · intro L a w' hL hsame hsz hJ hdep hcl
            have hb := hJ.kept.toBelow (Nat.le_refl _) (by simp)
            have e0 : a.eval (.tmp 78) = (.agg #[.int .i64 pf, .int .i64 pb, .int .i64 (pg : Nat)]) := eval_slot (j := 8) (by kernel_rfl) (hJ.valOf (by decide) (dep_of hdep 8 (by kernel_rfl)) rfl rfl)
            have e1 : a.eval (.tmp 79) = (.slice A1 n c1) := eval_slot (j := 9) (by kernel_rfl) (hJ.valOf (by decide) (dep_of hdep 9 (by kernel_rfl)) rfl rfl)
            refine Step.call _ rfl rfl (wanted_none rfl) 16 #[.agg #[.int .i64 pf, .int .i64 pb, .int .i64 (pg : Nat)], .slice A1 n c1] (fun ρ hρ => ?_) ?_
            · skip
              rw [hρ] at e0 e1
              have ef : ρ (.func 16) = .func (.func 16) #[] #[] := (hρ _).symm
              clear hJ hsame hdep hcl hρ hsz hb
              go_simp
            · refine (RA.out _ ((S1.out.below hb).more hb.size)).mono ?_
              rintro e w2 ⟨rfl, bb⟩
              exact ⟨_, rfl, hJ.val hGS hcl hL rfl bb _ rfl⟩
          · intro L a w' hL hsame hsz hJ hdep hcl
            have hb := hJ.kept.toBelow (Nat.le_refl _) (by simp)
            have e0 : a.eval (.tmp 76) = (.agg #[.int .i64 zf, .int .i64 zb, .int .i64 (zg : Nat)]) := eval_slot (j := 6) (by kernel_rfl) (hJ.valOf (by decide) (dep_of hdep 6 (by kernel_rfl)) rfl rfl)
            have e1 : a.eval (.tmp 80) = (.agg #[.int .i64 zf, .int .i64 zb, .int .i64 (zg : Nat)]) := eval_slot (j := 10) (by kernel_rfl) (hJ.valOf (by decide) (dep_of hdep 10 (by kernel_rfl)) rfl rfl)
            refine Step.val _ rfl rfl (wanted_none rfl) (.bool true) w' (fun ρ hρ => ?_) (hJ.val hGS hcl hL rfl (Below.refl _ _) _ rfl)
            rw [hρ] at e0 e1
            clear hJ hsame hdep hcl hρ hsz hb
            go_simp
          · intro L a w' hL hsame hsz hJ hdep hcl
            have hb := hJ.kept.toBelow (Nat.le_refl _) (by simp)
            have e0 : a.eval (.tmp 81) = (.bool true) := eval_slot (j := 11) (by kernel_rfl) (hJ.valOf (by decide) (dep_of hdep 11 (by kernel_rfl)) rfl rfl)
            refine Step.val _ rfl rfl (wanted_none rfl) (.bool true) w' (fun ρ hρ => ?_) (hJ.val hGS hcl hL rfl (Below.refl _ _) _ rfl)
            rw [hρ] at e0
            clear hJ hsame hdep hcl hρ hsz hb
            go_simp
          · intro L a w' hL hsame hsz hJ hdep hcl
            have gd : valOf _ 12 a = .bool true := hJ.valOf (by decide) (dep_of hdep 12 (by kernel_rfl)) rfl rfl
            have hb := hJ.kept.toBelow (Nat.le_refl _) (by simp)
            have e0 : a.eval (.tmp 13) = (.slice AR (n + 80) cR) := eval_base hsame (by kernel_rfl)
            refine Step.val _ rfl rfl (wanted_some (g := 12) (b := true) rfl gd) (.slice AR (n + 80) cR) w' (fun ρ hρ => ?_) (hJ.val hGS hcl hL rfl (Below.refl _ _) _ rfl)
            rw [hρ] at e0
            clear hJ hsame hdep hcl hρ hsz hb gd
            go_simp
          · intro L a w' hL hsame hsz hJ hdep hcl
            have gd : valOf _ 12 a = .bool true := hJ.valOf (by decide) (dep_of hdep 12 (by kernel_rfl)) rfl rfl
            have hb := hJ.kept.toBelow (Nat.le_refl _) (by simp)
            have e0 : a.eval (.tmp 9) = (.slice A1 n c1) := eval_base hsame (by kernel_rfl)
            refine Step.val _ rfl rfl (wanted_some (g := 12) (b := true) rfl gd) (.slice A1 n c1) w' (fun ρ hρ => ?_) (hJ.val hGS hcl hL rfl (Below.refl _ _) _ rfl)
            rw [hρ] at e0
            clear hJ hsame hdep hcl hρ hsz hb gd
            go_simp
          · intro L a w' hL hsame hsz hJ hdep hcl
            have gd : valOf _ 12 a = .bool true := hJ.valOf (by decide) (dep_of hdep 12 (by kernel_rfl)) rfl rfl
            have hb := hJ.kept.toBelow (Nat.le_refl _) (by simp)
            have e0 : a.eval (.tmp 83) = (.slice AR (n + 80) cR) := eval_slot (j := 13) (by kernel_rfl) (hJ.valOf (by decide) (dep_of hdep 13 (by kernel_rfl)) rfl rfl)
            have e1 : a.eval (.tmp 84) = (.slice A1 n c1) := eval_slot (j := 14) (by kernel_rfl) (hJ.valOf (by decide) (dep_of hdep 14 (by kernel_rfl)) rfl rfl)
            refine Step.call _ rfl rfl (wanted_some (g := 12) (b := true) rfl gd) 17 #[.slice AR (n + 80) cR, .slice A1 n c1, .int .i64 7] (fun ρ hρ => ?_) ?_
            · skip
              rw [hρ] at e0 e1
              have ec0 : ρ (.const (.int .i64 7)) = (.int .i64 7) := (hρ _).symm
              have ef : ρ (.func 17) = .func (.func 17) #[] #[] := (hρ _).symm
              clear hJ hsame hdep hcl hρ hsz hb gd
              go_simp
            · refine (IN.out _ (SR.out.below hb) (S1.out.below hb)).mono ?_
              rintro e w2 ⟨rfl, bb⟩
              exact ⟨_, rfl, hJ.val hGS hcl hL rfl bb _ rfl⟩
          · intro L a w' hL hsame hsz hJ hdep hcl
            have hb := hJ.kept.toBelow (Nat.le_refl _) (by simp)
            have e0 : a.eval (.tmp 82) = (.bool true) := eval_slot (j := 12) (by kernel_rfl) (hJ.valOf (by decide) (dep_of hdep 12 (by kernel_rfl)) rfl rfl)
            have e1 : a.eval (.tmp 85) = (.bool true) := eval_slot (j := 15) (by kernel_rfl) (hJ.valOf (by decide) (dep_of hdep 15 (by kernel_rfl)) rfl rfl)
            refine Step.val _ rfl rfl (wanted_none rfl) (.bool true) w' (fun ρ hρ => ?_) (hJ.val hGS hcl hL rfl (Below.refl _ _) _ rfl)
            rw [hρ] at e0 e1
            have ec0 : ρ (.const (.bool false)) = (.bool false) := (hρ _).symm
            clear hJ hsame hdep hcl hρ hsz hb
            go_simp
          · intro L a w' hL hsame hsz hJ hdep hcl
            have hb := hJ.kept.toBelow (Nat.le_refl _) (by simp)
            have e0 : a.eval (.tmp 86) = (.bool true) := eval_slot (j := 16) (by kernel_rfl) (hJ.valOf (by decide) (dep_of hdep 16 (by kernel_rfl)) rfl rfl)
            refine Step.val _ rfl rfl (wanted_none rfl) (.bool true) w' (fun ρ hρ => ?_) (hJ.val hGS hcl hL rfl (Below.refl _ _) _ rfl)
            rw [hρ] at e0
            clear hJ hsame hdep hcl hρ hsz hb
            go_simp
          · intro L a w' hL hsame hsz hJ hdep hcl
            have gd : valOf _ 17 a = .bool true := hJ.valOf (by decide) (dep_of hdep 17 (by kernel_rfl)) rfl rfl
            have hb := hJ.kept.toBelow (Nat.le_refl _) (by simp)
            refine Step.call _ rfl rfl (wanted_some (g := 17) (b := true) rfl gd) 3 #[] (fun ρ hρ => ?_) ?_
            · skip
              have ef : ρ (.func 3) = .func (.func 3) #[] #[] := (hρ _).symm
              clear hJ hsame hdep hcl hρ hsz hb gd
              go_simp
            · refine (PRN.out _ (HT.out.keep (BW.out.trans (hb.mono BW.out.size)))).mono ?_
              rintro e w2 ⟨rfl, bb⟩
              exact ⟨_, rfl, hJ.val hGS hcl hL rfl bb _ rfl⟩
          · intro L a w' hL hsame hsz hJ hdep hcl
            have hb := hJ.kept.toBelow (Nat.le_refl _) (by simp)
            have e0 : a.eval (.tmp 87) = (.bool true) := eval_slot (j := 17) (by kernel_rfl) (hJ.valOf (by decide) (dep_of hdep 17 (by kernel_rfl)) rfl rfl)
            have e1 : a.eval (.tmp 88) = (.bool true) := eval_slot (j := 18) (by kernel_rfl) (hJ.valOf (by decide) (dep_of hdep 18 (by kernel_rfl)) rfl rfl)
            refine Step.val _ rfl rfl (wanted_none rfl) (.bool true) w' (fun ρ hρ => ?_) (hJ.val hGS hcl hL rfl (Below.refl _ _) _ rfl)
            rw [hρ] at e0 e1
            have ec0 : ρ (.const (.bool false)) = (.bool false) := (hρ _).symm
            clear hJ hsame hdep hcl hρ hsz hb
            go_simp
          · intro L a w' hL hsame hsz hJ hdep hcl
            have hb := hJ.kept.toBelow (Nat.le_refl _) (by simp)
            have e0 : a.eval (.tmp 89) = (.bool true) := eval_slot (j := 19) (by kernel_rfl) (hJ.valOf (by decide) (dep_of hdep 19 (by kernel_rfl)) rfl rfl)
            refine Step.val _ rfl rfl (wanted_none rfl) (.bool true) w' (fun ρ hρ => ?_) (hJ.val hGS hcl hL rfl (Below.refl _ _) _ rfl)
            rw [hρ] at e0
            clear hJ hsame hdep hcl hρ hsz hb
            go_simp
          · intro u w' hF
            change Exit.then _ _ Exit.normal (Act.put (Act.put (Act.put (Act.put (Act.put (Act.put (Act.put (Act.put (Act.put (Act.put (Act.put (Act.put (Act.put (Act.put (Act.put (Act.put (Act.put (Act.put (Act.put (Act.put (Act.put (putAll _ u 0 _) (some 70) (u 0)) (some 71) (u 1)) (some 72) (u 2)) (some 73) (u 3)) (some 74) (u 4)) (some 75) (u 5)) (some 76) (u 6)) (some 77) (u 7)) (some 78) (u 8)) (some 79) (u 9)) (some 80) (u 10)) (some 81) (u 11)) (some 82) (u 12)) (some 83) (u 13)) (some 84) (u 14)) (some 85) (u 15)) (some 86) (u 16)) (some 87) (u 17)) (some 88) (u 18)) (some 89) (u 19)) (some 8) (u 20)) _
            simp only [putAll]
            have f : u 20 = .bool true := hF.fin0 (j := 20) (by decide) rfl rfl
            have hk := hF.kept.toBelow (Nat.le_refl _) (by simp)
            clear hF
            generalize u 0 = z0
            generalize u 1 = z1
            generalize u 2 = z2
            generalize u 3 = z3
            generalize u 4 = z4
            generalize u 5 = z5
            generalize u 6 = z6
            generalize u 7 = z7
            generalize u 8 = z8
            generalize u 9 = z9
            generalize u 10 = z10
            generalize u 11 = z11
            generalize u 12 = z12
            generalize u 13 = z13
            generalize u 14 = z14
            generalize u 15 = z15
            generalize u 16 = z16
            generalize u 17 = z17
            generalize u 18 = z18
            generalize u 19 = z19
            generalize u 20 = z20 at f ⊢
            go_simp
            go_step
            go_meet
            exact ⟨by first | rfl | exact f, BW.out.trans (hk.mono BW.out.size)⟩
      case rest =>
        obtain ⟨rfl, b9⟩ := hcut
        go_wp2_with fail
        go_ret
        exact ⟨rfl, b9⟩
theorem penTells_any (a0 a1 a2 : Int) (Ap : Option Addr) (np cp : Nat) (lp : List Int) (Ar : Option Addr) (nr cr : Nat) (lr : List Int) (own : Bool) (w : World) (h0 : (Lit.int .i64 a0).wf = true) (h1 : (Lit.int .i64 a1).wf = true) (h2 : (Lit.int .i64 a2).wf = true) (hA : Arg .i64 w Ap np cp lp) (hR : Arg .i64 w Ar nr cr lr) (hFT : FlagT w) :
    Calls Tryd.prog 4 #[.agg #[.int .i64 a0, .int .i64 a1, .int .i64 a2], .slice Ap np cp, .slice Ar nr cr, .bool own] w fun e w' => e = .returned (.bool true) ∧ Below w.heap.size w w' := by
  have e1 : a2 % 256 = (((a2 % 256).toNat : Nat) : Int) := by omega
  have K1 := pen_given10 h0 h1 h2
  rw [e1] at K1
  exact penTells_t a0 a1 a2 _ _ _ Ap Ar np cp nr cr lp lr own w (pr_given a0 a1 a2) hA hR hFT (hide penRuns_any) K1
end Go.Proofs.YtnjkongbccblaaaDoor
