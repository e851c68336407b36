/- TabsWalk: from stop to stop all stops below the end are met, then the end, and no further. -/
import Derived.Test.YtboegggoeemfdaaDoorTabsTells
set_option maxRecDepth 100000
namespace Go.Proofs.YtboegggoeemfdaaDoor
open Go.RowKit
set_option linter.unusedVariables false
/-- stops, none of them at 0 -/
def Stops (t : Nat) : Prop := TB.Ok t ∧ t.testBit 0 = false
theorem Stops.put {t y : Nat} (h : Stops t) (h0 : 1 ≤ y) (h1 : y < 64) : Stops (TB.put1 t y) := ⟨TB.put1_ok h.1 h1, by
  rw [TB.put1_bit, h.2, decide_eq_false (by omega)]
  rfl⟩
/-- a step from stop to stop -/
theorem walk_step {t a k : Nat} (hk : k ≤ 64) (ha : a < k) : (∃ x, TB.next t a k = x ∧ a < x ∧ x < k ∧ t.testBit x = true ∧ TB.mets t a k = x :: TB.mets t x k) ∨
    (TB.next t a k = k - 1 ∧ a + 1 < k ∧ t.testBit (k - 1) = false ∧ TB.mets t a k = [] ∧ TB.mets t (k - 1) k = []) ∨ (TB.next t a k = a ∧ a + 1 = k ∧ TB.mets t a k = []) := by
  rcases TB.next_cases t a k with ⟨x, h1, h2, h3, h4, e⟩ | ⟨h, e⟩
  · exact .inl ⟨x, e, h1, h2, h3, TB.mets_cons h1 h3 h4 h2⟩
  · by_cases c : a + 1 = k
    · exact .inr (.inr ⟨by omega, c, TB.mets_nil h⟩)
    · exact .inr (.inl ⟨e, by omega, h _ (by omega) (by omega), TB.mets_nil h, TB.mets_nil fun i _ _ => by omega⟩)
set_option maxHeartbeats 8000000 in
theorem tabsWalk_t (A0 : Option Addr) (n0 c0 : Nat) (l0 : List Int) (nn : Int) (k : Nat) (w : World) (hA : Arg .i64 w A0 n0 c0 l0) (hT : BTab w)
    (KW : Hid (∀ w, Calls Tryd.prog 14 #[.int .i64 nn, .int .i64 2, .int .i64 60] w fun e w' => e = .returned (.int .i64 k) ∧ w = w'))
    (h1 : 2 ≤ k) (h2 : k ≤ 60) :
    Calls Tryd.prog 5 #[.slice A0 n0 c0, .int .i64 nn] w fun e w' => e = .returned (.bool true) ∧ Below w.heap.size w w' := by
  obtain ⟨i0, hi, hz0, hz1, hz2⟩ := info_parts info_int9
  have HA := hide hA
  have HT := hide hT
  have hcap := hA.cap
  have hle := hA.le
  unfold maxLen at hcap
  clear hA hT
  go_enter Tryd.func5, Tryd.ntmps5
  go_wp2_with fail
  refine (KW.out _).mono ?_
  rintro e w' ⟨rfl, rfl⟩
  go_wp2_with fail
  go_loopw [6, 7] (fun p i wr => ∃ m T : Nat, m ≤ 12 ∧ m ≤ n0 ∧ i = .int .i64 m ∧ p = .int .u64 T ∧ Hid (Stops T) ∧ Below w.heap.size w wr) (fun _ i _ => 12 - (intOf i).toNat)
  case atStart => exact ⟨0, 0, by omega, Nat.zero_le _, rfl, rfl, ⟨TB.ok0, by decide⟩, Below.refl _ _⟩
  case round =>
    obtain ⟨m, T, hm, hmn, rfl, rfl, HS, b0⟩ := hrel
    have cs : (m < n0 ∧ m < 12) ∨ n0 ≤ m ∨ (m < n0 ∧ 12 ≤ m) := by omega
    have fin : ∀ Q : Prop, (n0 ≤ m ∨ (m < n0 ∧ 12 ≤ m) → Q) → (m < n0 ∧ m < 12 → Q) → Q := fun Q f g => cs.elim g f
    rcases cs with ⟨h, h'⟩ | hh
    · obtain ⟨ad, u, rfl, _, hu, hcell⟩ := (HA.out.seen.below b0).at_ h
      rw [List.getElem?_map] at hu
      obtain ⟨x, hx, rfl⟩ := Option.map_eq_some_iff.1 hu
      obtain ⟨x0, x1⟩ := bounds_i64 (HA.out.wf x (List.mem_of_getElem? hx))
      obtain ⟨y, hy, hy1, hy2⟩ : ∃ y : Nat, 1 + x % (63 - 1 + 1) = (y : Int) ∧ 1 ≤ y ∧ y < 64 := ⟨(1 + x % (63 - 1 + 1)).toNat, by omega, by omega, by omega⟩
      have WI := hide (fun w' => within_is x 1 63 _ hy w' x0 x1 (by omega) (by omega) (by omega))
      have PC := hide (fun A B w' h => put_one T y hy2 _ rfl HS.out.1 A B w' h)
      have HS' := hide (HS.out.put hy1 hy2)
      have hsz := b0.size
      generalize TB.put1 T y = T' at PC HS'
      clear hu hx hy x0 x1 fin
      go_wp2_with fail
      refine (WI.out _).mono ?_
      rintro e w' ⟨rfl, rfl⟩
      go_wp2_with fail
      refine (PC.out _ (wr.heap.size + 1) _ (Seen.fresh (t := 3) (cs := #[.int .i64 y]) rfl rfl rfl rfl)).mono ?_
      rintro e w' ⟨rfl, rfl⟩
      go_wp2_with fail
      go_roundw
      case rel => exact ⟨m + 1, T', by omega, by omega, by go_num, rfl, HS'.out, b0.alloc hsz _⟩
      case measure => simp [intOf]; omega
    · have T0 := hide (HT.out.keep b0)
      have B0 := hide b0
      clear fin HA b0 hcap hle HT
      rcases hh with hh | ⟨hh, hh'⟩
      all_goals
        generalize hw2 : wr = w2 at T0 B0 ⊢
        have NX := hide fun (a : Nat) (ha : a < k) w' h => next_is9 T a k _ rfl w' HS.out.1 h (by omega) (by omega) (by omega)
        have HF := hide fun i (hi : i < 64) w' => has_is T (i : Nat) _ (TB.has_bit hi) w' HS.out.1 (by omega) (by omega)
        have ST := hide fun (a : Nat) (ha : a < k) => walk_step (t := T) (show k ≤ 64 by omega) ha
        clear hw2
        go_wp2_with fail
        go_loopw [8, 9, 34] (fun a v i wr => ∃ (j a' : Nat) (M : List Nat), j ≤ a' ∧ a' < k ∧ i = .int .i64 j ∧ a = .int .i64 a' ∧ wr.ownsRow w2.heap.size 3 1 v M.length (nats M) ∧ Hid (M ++ TB.mets T a' k = TB.mets T 0 k) ∧ M.length ≤ a' ∧ Below w2.heap.size w2 wr) (fun _ _ i _ => 70 - (intOf i).toNat)
        case atStart => exact ⟨0, 0, [], by omega, by omega, rfl, rfl, own_none9 _ _ _, by exact rfl, by simp, Below.refl _ _⟩
        case round =>
          obtain ⟨j, a, M, hja, hak, rfl, rfl, hown, HM, hml, hbel⟩ := hrel
          have hsz := hbel.size
          have N := hide (NX.out a hak)
          have TT := hide (T0.out.keep hbel)
          rcases ST.out a hak with ⟨x, e, x1, x2, x3, x4⟩ | ⟨e, e1, e2, e3, e4⟩ | ⟨e, e1, e2⟩
          · rw [e] at N
            rw [x4] at HM
            have F := hide (HF.out x (by omega))
            rw [x3] at F
            clear e x3 x4
            have d1 : decide (k ≤ x) = false := decide_eq_false (by omega)
            have d2 : decide (x < a) = false := decide_eq_false (by omega)
            have d3 : ((x : Int) == (a : Int)) = false := by simp; omega
            go_wp2_with fail
            refine (N.out _ TT.out).mono ?_
            rintro e w' ⟨rfl, rfl⟩
            go_wp2_with fail
            refine (F.out _).mono ?_
            rintro e w' ⟨rfl, rfl⟩
            go_wp2_with (at_builtin; refine wpList_app1 rfl (.tmp 65) (.tmp 67) 25 rfl w2.heap.size 3 i0 _ 8 Tryd.underlying25 hi hz0 hz1 hz2 rfl u9 M.length _ rfl hown _ _ _ rfl (by simp) rfl (by omega) (by omega) (by omega) ?_; intro v1 w3 hown1 hg1 hm1)
            go_roundw
            case rel =>
              refine ⟨j + 1, x, M ++ [x], by omega, by omega, by go_num, by first | rfl | trivial, ?_, ?_, ?_, hbel.grown hg1 hsz (fun g hg => (hown.lt g hg).1)⟩
              · rw [List.length_append, nats, List.map_append]
                exact hown1
              · have := HM.out
                rw [← this, List.append_assoc]
                rfl
              · rw [List.length_append]
                simp
                omega
            case measure => simp [intOf]; omega
          · obtain ⟨z, hz⟩ : ∃ z, k - 1 = z := ⟨_, rfl⟩
            have z1 : z < k := by omega
            have z2 : k ≤ z + 1 := by omega
            rw [hz] at e e2 e4
            rw [e] at N
            rw [e3] at HM
            have F := hide (HF.out z (by omega))
            rw [e2] at F
            have HM' := hide (show M ++ TB.mets T z k = TB.mets T 0 k by rw [e4]; exact HM.out)
            clear e e2 e3 e4 hz
            have d1 : decide (k ≤ z) = false := decide_eq_false (by omega)
            have d2 : decide (z < a) = false := decide_eq_false (by omega)
            have d3 : ((z : Int) == (a : Int)) = false := by simp; omega
            go_wp2_with fail
            refine (N.out _ TT.out).mono ?_
            rintro e w' ⟨rfl, rfl⟩
            go_wp2_with fail
            refine (F.out _).mono ?_
            rintro e w' ⟨rfl, rfl⟩
            go_wp2_with fail
            go_roundw
            case rel => exact ⟨j + 1, z, M, by omega, by omega, by go_num, by first | rfl | trivial, hown, HM'.out, by omega, hbel⟩
            case measure => simp [intOf]; omega
          · rw [e] at N
            rw [e2, List.append_nil] at HM
            have HO := hide hown
            obtain ⟨AM, cM, rfl, _⟩ := own_form hown
            have B1 := hide (B0.out.trans (hbel.mono B0.out.size))
            have LI := hide fun w' => list_any T w' HS.out.1
            have DA := hide (TB.drop_all HS.out.1)
            have BL := hide (show ∀ y ∈ TB.list T, y < 64 from fun y hy => (TB.list_mem.1 hy).1)
            have LN := hide (show (TB.list T).length ≤ 64 from upto_len T 64)
            have MA := hide (TB.mets_all HS.out.2 (show k ≤ 64 by omega))
            clear e e2 hown T0 B0 ST NX HF
            have d1 : decide (k ≤ a) = false := decide_eq_false (by omega)
            have d4 : ((a : Int) != (k : Int) - 1) = false := by simp; omega
            go_wp2_with fail
            refine (N.out _ TT.out).mono ?_
            rintro e w' ⟨rfl, rfl⟩
            go_wp2_with fail
            generalize TB.mets T 0 k = LK at HM MA
            generalize TB.list T = ls at LI DA MA BL LN
            refine (LI.out _).mono ?_
            rintro e w3 ⟨v3, rfl, hv3, b3⟩
            have HL3 := LN
            clear LN
            generalize hll : ls.length = ll at hv3 HL3
            have HLL := hide hll
            obtain ⟨A3, c3, rfl, _⟩ := own_form hv3
            have S3 := hide (Seen.of_own hv3)
            have SM := hide ((Seen.of_own HO.out).below b3)
            have T3 := hide (TT.out.keep b3)
            have B3 := hide (B1.out.trans (b3.mono B1.out.size))
            have sz3 := b3.size
            have HL4 := HL3.out
            clear hv3 b3 hll TT B1
            go_wp2_with fail
            go_loopw [11, 74] (fun v i wx => ∃ q : Nat, q ≤ ll ∧ i = .int .i64 q ∧ wx.ownsRow w3.heap.size 3 1 v ((ls.take q).filter fun i => decide (i < k)).length (nats ((ls.take q).filter fun i => decide (i < k))) ∧ Below w3.heap.size w3 wx) (fun _ i _ => ll - (intOf i).toNat)
            case atStart => exact ⟨0, by omega, rfl, own_none9 _ _ _, Below.refl _ _⟩
            case round =>
              obtain ⟨q, hq, rfl, hown, hbl⟩ := hrel
              have hsz3 := hbl.size
              by_cases hlt : q < ll
              · obtain ⟨ad, u, rfl, _, hu, hcell⟩ := (S3.out.below hbl).at_ hlt
                unfold nats at hu
                rw [List.getElem?_map] at hu
                obtain ⟨y, hy, rfl⟩ := Option.map_eq_some_iff.1 hu
                have hy64 := BL.out y (List.mem_of_getElem? hy)
                have hts : (ls.take (q + 1)).filter (fun i => decide (i < k)) = (ls.take q).filter (fun i => decide (i < k)) ++ (if y < k then [y] else []) := by
                  rw [List.take_add_one, hy, Option.toList_some, List.filter_append]
                  congr 1
                  by_cases h : y < k <;> simp [h]
                have hfl : ((ls.take q).filter (fun i => decide (i < k))).length ≤ q := Nat.le_trans (List.length_filter_le _ _) (by rw [List.length_take]; omega)
                by_cases hyk : y < k
                · rw [if_pos hyk] at hts
                  have HS3 := hide hts
                  generalize (ls.take q).filter (fun i => decide (i < k)) = L at hown HS3 hfl
                  clear hts hu hy
                  go_wp2_with (at_builtin; refine wpList_app1 rfl (.tmp 81) (.tmp 83) 25 rfl w3.heap.size 3 i0 _ 8 Tryd.underlying25 hi hz0 hz1 hz2 rfl u11 L.length _ rfl hown _ _ _ rfl (by simp) rfl (by omega) (by omega) (by omega) ?_; intro v1 w4 hown1 hg1 hm1)
                  go_roundw
                  case rel =>
                    refine ⟨q + 1, by omega, by go_num, ?_, hbl.grown hg1 hsz3 (fun g hg => (hown.lt g hg).1)⟩
                    rw [HS3.out, List.length_append, nats, List.map_append]
                    exact hown1
                  case measure => simp [intOf]; omega
                · rw [if_neg hyk, List.append_nil] at hts
                  rw [← hts] at hown
                  have HO3 := hide hown
                  clear hown hts hu hy hfl
                  go_wp2_with fail
                  go_roundw
                  case rel => exact ⟨q + 1, by omega, by go_num, HO3.out, hbl⟩
                  case measure => simp [intOf]; omega
              · obtain rfl : q = ll := by omega
                rw [List.take_of_length_le (by rw [HLL.out]; omega), ← MA.out, ← HM.out] at hown
                have d5 : ((a : Int) == (k : Int) - 1) = true := by simp; omega
                obtain ⟨AW, cW, rfl, _⟩ := own_form hown
                have SW := hide (Seen.of_own hown)
                have SM2 := hide (SM.out.below (hbl.mono sz3))
                have T4 := hide (T3.out.keep hbl)
                have B4 := hide (B3.out.trans (hbl.mono B3.out.size))
                clear hown S3 SM T3 B3 HO hbl
                go_wp2_with fail
                refine (same64_is (M.map fun i : Nat => (i : Int)) AM AW _ _ M.length cM M.length cW _ (by have := SM2.out; rw [nats_ints] at this; exact this) (by have := SW.out; rw [nats_ints] at this; exact this) (by omega)).mono ?_
                rintro e w5 ⟨rfl, b5⟩
                have T5 := hide (T4.out.keep b5)
                have B5 := hide (B4.out.trans (b5.mono B4.out.size))
                clear b5 SM2 SW T4 B4
                go_wp2_with fail
                refine (LI.out _).mono ?_
                rintro e w6 ⟨v6, rfl, hv6, b6⟩
                rw [HLL.out] at hv6
                obtain ⟨A6, c6, rfl, _⟩ := own_form hv6
                have S6 := hide (Seen.of_own hv6)
                have T6 := hide (T5.out.keep b6)
                have B6 := hide (B5.out.trans (b6.mono B5.out.size))
                clear b6 hv6 T5 B5
                go_wp2_with fail
                refine (drop_is T A6 q c6 _ (ls.map fun i : Nat => (i : Int)) 0 DA.out _ HS.out.1 (by have := S6.out; rw [nats_ints] at this; exact this) (by omega) (fun y hy => by
                  obtain ⟨z, hz, rfl⟩ := List.mem_map.1 hy
                  have := BL.out z hz
                  omega)).mono ?_
                rintro e w' ⟨rfl, rfl⟩
                go_wp2_with fail
                refine (tabsRuns_any _ T6.out).mono ?_
                rintro e w7 ⟨rfl, b7⟩
                go_wp2_with fail
                go_ret
                exact ⟨rfl, B6.out.trans (b7.mono B6.out.size)⟩
theorem tabsWalk_any (A0 : Option Addr) (n0 c0 : Nat) (l0 : List Int) (nn : Int) (w : World) (hA : Arg .i64 w A0 n0 c0 l0) (wn : (Lit.int .i64 nn).wf = true) (hT : BTab w) :
    Calls Tryd.prog 5 #[.slice A0 n0 c0, .int .i64 nn] w fun e w' => e = .returned (.bool true) ∧ Below w.heap.size w w' := by
  obtain ⟨n0', n1⟩ := bounds_i64 wn
  obtain ⟨k, hk⟩ : ∃ k : Nat, 2 + nn % (60 - 2 + 1) = (k : Int) := ⟨(2 + nn % (60 - 2 + 1)).toNat, by omega⟩
  exact tabsWalk_t A0 n0 c0 l0 nn k w hA hT (fun w' => within_is nn 2 60 _ hk w' (by omega) (by omega) (by omega) (by omega) (by omega)) (by omega) (by omega)
end Go.Proofs.YtboegggoeemfdaaDoor
