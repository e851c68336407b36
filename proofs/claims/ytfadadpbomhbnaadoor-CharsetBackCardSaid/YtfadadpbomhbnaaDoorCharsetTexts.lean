/- CharsetTexts: a text of line drawing, made plain, is as long, and can be printed; undrawn and drawn it is the same. -/
import Derived.Test.YtfadadpbomhbnaaDoorCharsetTells
import Derived.Test.YtfadadpbomhbnaaDoorArgs
namespace Go.Proofs.YtfadadpbomhbnaaDoor
open Go.RowKit
set_option linter.unusedVariables false
/-- the rune that the statement's text has for a number -/
def signOf (x : Int) : Int := CH.drawnAt (x % 31).toNat
/-- the block of a row that has cells -/
theorem own_box {w : World} {base n : Nat} {e : TypeId} {v : Value} {xs : List Value} (h : w.ownsRow base e 1 v n xs) (hn : 0 < n) : ∃ g c cs, v = .slice (some ⟨g, 0, none⟩) n c ∧ n ≤ c ∧ base ≤ g ∧ Box w g e cs ∧ (cs.toList.take n = xs) := by
  rcases h.2 with ⟨rfl, rfl⟩ | ⟨g, cap, cur, rfl, hb, hh, h1, h2, h3, h4⟩
  · have := h.1
    simp at this
    omega
  · exact ⟨g, cap, cur, rfl, h1, hb, hh, by simpa using h4⟩
theorem box_cell0 {w : World} {g n : Nat} {e : TypeId} {cs : Array Value} {x : Value} {xs : List Value} (h : Box w g e cs) (hn : 0 < n) (ht : cs.toList.take n = x :: xs) : w.cell? ⟨g, 0, none⟩ = some x := by
  rw [h.cell 0]
  have : (cs.toList.take n)[0]? = some x := by rw [ht]; rfl
  rw [List.getElem?_take, if_pos hn] at this
  simpa using this
theorem drawn_head : i32s CH.drawn = .int .i32 9670 :: i32s (CH.drawn.drop 1) := rfl
theorem run_d96 : CH.draw 96 = 9670 := by decide
theorem run_d95 : CH.draw 95 = 32 := by decide
theorem run_dA : CH.draw 65 = 65 := by decide
theorem sign_facts (x : Int) : ∃ j : Nat, j < 31 ∧ 96 + x % 31 = 96 + (j : Int) ∧ CH.draw (96 + (j : Int)) = signOf x ∧ CH.undraw (signOf x) = 96 + (j : Int) ∧ CH.undrawn (signOf x) = true ∧ CH.plain (signOf x) = CH.plainAt j := by
  have h0 : 0 ≤ x % 31 := by omega
  have hj : (x % 31).toNat < 31 := by omega
  refine ⟨(x % 31).toNat, hj, by omega, draw_is_drawn hj, ?_⟩
  unfold signOf
  have := undraw_at hj (CH.place_drawn hj)
  exact ⟨this.1, this.2, CH.plain_drawn hj⟩
set_option maxHeartbeats 8000000 in
set_option maxRecDepth 100000 in
theorem charsetTexts_any (A1 : Option Addr) (n1 c1 : Nat) (l1 : List Int) (w : World) (hb : Arg .i64 w A1 n1 c1 l1) (hs : Signs w) :
    Calls Tryd.prog 6 #[.slice A1 n1 c1] w fun e w' => e = .returned (.bool true) ∧ Below w.heap.size w w' := by
  obtain ⟨i0, hi, hz0, hz1, hz2⟩ := info_parts info_i32
  have HS := hide hs
  have HB := hide hb
  have SD := hide (fun w' h => drawn_any w' h)
  have HL := hide CH.drawn_len
  have HD := hide drawn_head
  generalize CH.drawn = dl at SD HL HD
  clear hs hb
  go_enter Tryd.func6, Tryd.ntmps6
  go_wp2_with fail
  go_loopw [3, 4] (fun v i wr => ∃ k : Nat, k ≤ n1 ∧ k ≤ 20 ∧ i = .int .i64 k ∧ wr.ownsRow w.heap.size 21 1 v k (i32s ((l1.take k).map signOf)) ∧ Below w.heap.size w wr) (fun _ i _ => 20 - (intOf i).toNat)
  case atStart => exact ⟨0, by omega, by omega, rfl, World.ownsRow_nil _ _ _ _, Below.refl _ _⟩
  case round =>
    obtain ⟨k, hk, hk20, rfl, hown, b0⟩ := hrel
    by_cases hlt : k < n1 ∧ k < 20
    · obtain ⟨hlt, hlt20⟩ := hlt
      obtain ⟨ad, u, rfl, hadb, hu, hc⟩ := (HB.out.seen.below b0).at_ hlt
      rw [List.getElem?_map] at hu
      obtain ⟨y, hy, rfl⟩ := Option.map_eq_some_iff.1 hu
      have hyr := bounds_i64 (HB.out.wf y (List.mem_of_getElem? hy))
      have E := hide (show (l1.take (k + 1)).map signOf = (l1.take k).map signOf ++ [signOf y] by rw [List.take_add_one, hy]; simp)
      obtain ⟨j, hj, ej, dj, _, _, _⟩ := sign_facts y
      have W := hide (fun w' => within_is y 96 126 (96 + (j : Int)) ej w' hyr.1 hyr.2 (by omega) (by omega) (by omega))
      have D := hide (fun w' h => draw_is (96 + (j : Int)) _ dj w' (by omega) (by omega) h)
      have wj : IntKind.u8.wrap (96 + (j : Int)) = 96 + (j : Int) := IntWalk.u8_in _ (by omega)
      generalize signOf y = z at E D
      clear hu hy ej dj hyr
      go_wp2_with fail
      refine (W.out _).mono ?_
      rintro e w' ⟨rfl, rfl⟩
      go_wp2_with fail
      refine (D.out _ (HS.out.keep b0)).mono ?_
      rintro e w1 ⟨rfl, bb⟩
      have own1 := own_below hown bb
      have b1 := b0.trans (bb.mono b0.size)
      have sz1 := b1.size
      clear hown hc bb b0
      go_wp2_with (at_builtin; refine wpList_app1 rfl (.tmp 22) (.tmp 30) 27 rfl w.heap.size 21 i0 _ 4 Tryd.underlying27 hi hz0 hz1 hz2 rfl u3 k _ rfl own1 _ _ _ rfl rfl rfl (by omega) (by omega) sz1 ?_; intro v2 w2 own2 hg2 hm2)
      go_roundw
      case rel =>
        refine ⟨k + 1, by omega, by omega, by go_num, ?_, b1.grown hg2 b1.size (fun g hg => (own1.lt g hg).1)⟩
        rw [E.out]
        simpa [i32s] using own2
      case measure => simp [intOf]; omega
    · have hex : (k < n1 ∧ ¬ k < 20) ∨ ¬ k < n1 := by omega
      have hll := HB.out.len
      have LT := hide (show ((l1.take k).map signOf).length = k by rw [List.length_map, List.length_take]; omega)
      have IN := hide (show ∀ z ∈ (l1.take k).map signOf, ∃ y, z = signOf y from fun z hz => by
        obtain ⟨y, _, rfl⟩ := List.mem_map.1 hz
        exact ⟨y, rfl⟩)
      obtain ⟨A, c, rfl, hn, hc, _⟩ := own_form hown
      have hseen := Seen.of_own hown
      generalize (l1.take k).map signOf = zs at LT IN hseen
      clear hown hll
      rcases hex with hex | hex
      all_goals
        go_wp2_with fail
        go_loopw [5, 34] (fun x i wq => ∃ q : Nat, q ≤ k ∧ i = .int .i64 q ∧ x = .int .i64 q ∧ Below w.heap.size w wq ∧ Seen wq wq.heap.size A k (i32s zs)) (fun _ i _ => k - (intOf i).toNat)
        case atStart => exact ⟨0, by omega, rfl, rfl, b0, hseen⟩
        case round =>
          clear hseen b0
          obtain ⟨q, hq, rfl, rfl, b0, hsn⟩ := hrel
          have HSN := hide hsn
          clear hsn
          by_cases hlq : q < k
          · obtain ⟨ad, u, rfl, hadb, hu, hcell⟩ := HSN.out.at_ hlq
            rw [i32s, List.getElem?_map] at hu
            obtain ⟨z, hz, rfl⟩ := Option.map_eq_some_iff.1 hu
            obtain ⟨y, rfl⟩ := IN.out z (List.mem_of_getElem? hz)
            obtain ⟨j, hj, _, dj, uj, kj, pj⟩ := sign_facts y
            have hpb := CH.plainAt_bd hj
            generalize CH.plainAt j = p at pj hpb
            generalize signOf y = z at hcell dj uj kj pj
            have U := hide (fun w' h => undraw_is z _ _ uj kj w' h)
            have P := hide (fun w' h => plain_is z p pj w' h)
            have D := hide (fun w' h => draw_is (96 + (j : Int)) z dj w' (by omega) (by omega) h)
            have p1 : 32 ≤ p := by omega
            have p2 : p ≤ 126 := by omega
            have p3 : (p == 63) = false := by simp; omega
            clear hu hz uj kj pj dj hpb
            go_wp2_with fail
            refine (U.out _ (HS.out.keep b0)).mono ?_
            rintro e w1 ⟨rfl, bb⟩
            have b1 := b0.trans (bb.mono b0.size)
            have HS1 := hide ((HSN.out.below bb).more bb.size)
            clear bb b0 hcell HSN
            go_wp2_with fail
            refine (P.out _ (HS.out.keep b1)).mono ?_
            rintro e w2 ⟨rfl, bb⟩
            have b2 := b1.trans (bb.mono b1.size)
            have HS2 := hide ((HS1.out.below bb).more bb.size)
            clear bb b1 HS1
            go_wp2_with fail
            refine (D.out _ (HS.out.keep b2)).mono ?_
            rintro e w3 ⟨rfl, bb⟩
            have b3 := b2.trans (bb.mono b2.size)
            have HS3 := hide ((HS2.out.below bb).more bb.size)
            clear bb b2 HS2
            go_wp2_with fail
            go_roundw
            case rel => exact ⟨q + 1, by omega, by go_num, by go_num, b3, HS3.out⟩
            case measure => simp [intOf]; omega
          · obtain rfl : q = k := by omega
            go_wp2_with fail
            refine (SD.out _ (HS.out.keep b0)).mono ?_
            rintro e w1 ⟨v, rfl, hown, bb⟩
            rw [HL.out] at hown
            obtain ⟨g, cg, cs, rfl, hcg, hbg, hbx, htk⟩ := own_box hown (by omega)
            rw [HD.out] at htk
            have hcell := box_cell0 hbx (by omega) htk
            have hfr := hbx.frozen 0
            have b1 := b0.trans (bb.mono b0.size)
            have hgw : w.heap.size ≤ g := Nat.le_trans b0.size hbg
            clear bb b0 hown htk hbx
            go_wp2_with fail
            have b2 := b1.setCell (p := ⟨g, 0, none⟩) hgw (.int .i32 120)
            refine (draw_is _ _ run_d96 _ (by omega) (by omega) (HS.out.keep b2)).mono ?_
            rintro e w2 ⟨rfl, bb⟩
            have b3 := b2.trans (bb.mono b2.size)
            clear bb b2 b1 hcell hfr
            go_wp2_with fail
            refine (SD.out _ (HS.out.keep b3)).mono ?_
            rintro e w3 ⟨v, rfl, hown, bb⟩
            rw [HL.out] at hown
            obtain ⟨g', cg', cs', rfl, hcg', hbg', hbx, htk⟩ := own_box hown (by omega)
            rw [HD.out] at htk
            have hcell := box_cell0 hbx (by omega) htk
            have b4 := b3.trans (bb.mono b3.size)
            clear bb b3 hown htk hbx
            go_wp2_with fail
            refine (draw_is _ _ run_d95 _ (by omega) (by omega) (HS.out.keep b4)).mono ?_
            rintro e w4 ⟨rfl, bb⟩
            have b5 := b4.trans (bb.mono b4.size)
            clear bb b4 hcell
            go_wp2_with fail
            refine (draw_is _ _ run_dA _ (by omega) (by omega) (HS.out.keep b5)).mono ?_
            rintro e w5 ⟨rfl, bb⟩
            have b6 := b5.trans (bb.mono b5.size)
            clear bb b5
            go_wp2_with fail
            refine (charsetRuns_any _ (HS.out.keep b6)).mono ?_
            rintro e w6 ⟨rfl, bb⟩
            have b7 := b6.trans (bb.mono b6.size)
            clear bb b6
            go_wp2_with fail
            go_ret
            exact ⟨rfl, b7⟩
end Go.Proofs.YtfadadpbomhbnaaDoor
