/- PenColours: each colour by its number, in either way it can be said; parameters that mean nothing change nothing; a colour cut short ends it. -/
import Derived.Test.YtnjkongbccblaaaDoorPenSaid
import Derived.Test.YtnjkongbccblaaaDoorReg
import Derived.Test.YtnjkongbccblaaaDoorCases
import Derived.Deep.DeepCutAuto
set_option maxRecDepth 100000
namespace Go.Proofs.YtnjkongbccblaaaDoor
open Go.RowKit
set_option linter.unusedVariables false
theorem pen_fld0 (a b c : Value) (w : World) : (Instr.field 23 (.agg #[a, b, c]) 0).run Tryd.prog w = .ok a w := by kernel_rfl
theorem pen_fld1 (a b c : Value) (w : World) : (Instr.field 23 (.agg #[a, b, c]) 1).run Tryd.prog w = .ok b w := by kernel_rfl
theorem pen_fld2 (a b c : Value) (w : World) : (Instr.field 23 (.agg #[a, b, c]) 2).run Tryd.prog w = .ok c w := by kernel_rfl
theorem or0 (a : Nat) : a ||| 0 = a := Nat.or_zero a
theorem and255 {a : Nat} (h : a < 256) : a &&& 255 = a := by
  have := Nat.and_two_pow_sub_one_eq_mod a 8
  rw [show 2 ^ 8 - 1 = 255 from rfl] at this
  rw [this]
  exact Nat.mod_eq_of_lt h
theorem pc_none (fo ba : Int) {fl : Nat} (h : fl < 256) : PS.apply ⟨fo, ba, fl⟩ [6, 21, 26, 50, 108, 300] = ⟨fo, ba, fl⟩ := by
  have e : PS.apply ⟨fo, ba, fl⟩ [6, 21, 26, 50, 108, 300] = ⟨fo, ba, (fl ||| 0) &&& 255⟩ := rfl
  rw [e, or0, and255 h]
theorem pc_short1 (p : PS.Pn) : PS.apply p [38, 5] = p := rfl
theorem pc_short2 (p : PS.Pn) : PS.apply p [38, 2, 1, 2] = p := rfl
theorem pc_short3 (p : PS.Pn) : PS.apply p [38, 9, 1, 31] = p := rfl
theorem pc_big1 (fo ba : Int) (fl : Nat) : PS.apply ⟨fo, ba, fl⟩ [38, 5, 256, 4] = ⟨fo, ba, fl ||| 8⟩ := rfl
theorem pc_big2 (fo ba : Int) (fl : Nat) : PS.apply ⟨fo, ba, fl⟩ [38, 2, 1, 2, 256, 4] = ⟨fo, ba, fl ||| 8⟩ := rfl
theorem pc_dflt (p : PS.Pn) : PS.apply p [-1] = PS.plain := rfl
theorem pc_two (p : PS.Pn) (c x y z : Nat) (hc : c ≤ 255) (hx : x ≤ 255) (hy : y ≤ 255) (hz : z ≤ 255) : PS.apply p [38, 5, (c : Int), 48, 2, (x : Int), (y : Int), (z : Int)] = ⟨c, 16777216 + (x : Int) * 65536 + (y : Int) * 256 + (z : Int), p.fl⟩ := by
  unfold PS.apply
  rw [if_neg (by simp), PS.sgr_fore (by decide), PS.wide_five _ (by rw [show PS.pos (c : Int) = c by unfold PS.pos; omega]; omega)]
  show PS.sgr _ [48, 2, (x : Int), (y : Int), (z : Int)] = _
  have px : PS.pos (x : Int) = x := by unfold PS.pos; omega
  have py : PS.pos (y : Int) = y := by unfold PS.pos; omega
  have pz : PS.pos (z : Int) = z := by unfold PS.pos; omega
  have pcc : PS.pos (c : Int) = c := by unfold PS.pos; omega
  rw [PS.sgr_back (by decide), PS.wide_four, if_neg (by decide), if_pos rfl, px, py, pz, if_pos ⟨hx, hy, hz⟩, pcc]
  rfl
theorem pc_fore {n : Int} {y : Nat} (p : PS.Pn) (hn : n = (y : Int)) (h : (30 ≤ y ∧ y ≤ 37) ∨ (90 ≤ y ∧ y ≤ 97)) : PS.apply p [n] = ⟨if y ≤ 37 then (y : Int) - 30 else (y : Int) - 82, p.ba, p.fl⟩ := by
  subst hn
  have py : PS.pos (y : Int) = y := by unfold PS.pos; omega
  unfold PS.apply
  rw [if_neg (by simp), PS.sgr_one (by omega) (by omega), py]
  show PS.one p y = _
  rcases h with ⟨h1, h2⟩ | ⟨h1, h2⟩
  · rw [one_fore p h1 h2, if_pos h2]
  · rw [one_fore2 p h1 h2, if_neg (by omega)]
theorem pc_back {n : Int} {y : Nat} (p : PS.Pn) (hn : n = (y : Int)) (h : (40 ≤ y ∧ y ≤ 47) ∨ (100 ≤ y ∧ y ≤ 107)) : PS.apply p [n] = ⟨p.fo, if y ≤ 47 then (y : Int) - 40 else (y : Int) - 92, p.fl⟩ := by
  subst hn
  have py : PS.pos (y : Int) = y := by unfold PS.pos; omega
  unfold PS.apply
  rw [if_neg (by simp), PS.sgr_one (by omega) (by omega), py]
  show PS.one p y = _
  rcases h with ⟨h1, h2⟩ | ⟨h1, h2⟩
  · rw [one_back p h1 h2, if_pos h2]
  · rw [one_back2 p h1 h2, if_neg (by omega)]
theorem pc_short_fore (fo ba : Int) (fl : Nat) {c sv : Nat} (h : c < 16) (hs : (if c < 8 then 30 + c % 8 else 90 + c % 8) = sv) (hp : PR ⟨fo, ba, fl⟩) (g : Nat) (w : World) (hb : Box w g 3 #[.int .i64 (sv : Nat)]) (hFT : FlagT w) :
    Calls Tryd.prog 8 #[.agg #[.int .i64 fo, .int .i64 ba, .int .i64 (fl : Nat)], .slice (some ⟨g, 0, none⟩) 1 1] w fun e w' => e = .returned (.agg #[.int .i64 c, .int .i64 ba, .int .i64 (fl : Nat)]) ∧ Below w.heap.size w w' := by
  have hy : (30 ≤ sv ∧ sv ≤ 37) ∨ (90 ≤ sv ∧ sv ≤ 97) := by split at hs <;> omega
  have e := pc_fore (n := (sv : Int)) ⟨fo, ba, fl⟩ rfl hy
  have ec : (if sv ≤ 37 then (sv : Int) - 30 else (sv : Int) - 82) = (c : Int) := by
    by_cases h8 : c < 8
    · rw [if_pos h8] at hs
      rw [if_pos (by omega)]
      omega
    · rw [if_neg h8] at hs
      rw [if_neg (by omega)]
      omega
  rw [ec] at e
  exact papply_box ⟨fo, ba, fl⟩ ⟨c, ba, fl⟩ [(sv : Int)] 1 rfl (by decide) e hp (by intro u hu; simp at hu; omega) g w hb hFT
theorem pc_short_back (fo ba : Int) (fl : Nat) {c sv : Nat} (h : c < 16) (hs : (if c < 8 then 30 + c % 8 else 90 + c % 8) = sv) (hp : PR ⟨fo, ba, fl⟩) (g : Nat) (w : World) (hb : Box w g 3 #[.int .i64 ((sv : Nat) + 10)]) (hFT : FlagT w) :
    Calls Tryd.prog 8 #[.agg #[.int .i64 fo, .int .i64 ba, .int .i64 (fl : Nat)], .slice (some ⟨g, 0, none⟩) 1 1] w fun e w' => e = .returned (.agg #[.int .i64 fo, .int .i64 c, .int .i64 (fl : Nat)]) ∧ Below w.heap.size w w' := by
  have hy : (40 ≤ sv + 10 ∧ sv + 10 ≤ 47) ∨ (100 ≤ sv + 10 ∧ sv + 10 ≤ 107) := by split at hs <;> omega
  have e := pc_back (n := (sv : Int) + 10) (y := sv + 10) ⟨fo, ba, fl⟩ (by simp) hy
  have ec : (if sv + 10 ≤ 47 then ((sv + 10 : Nat) : Int) - 40 else ((sv + 10 : Nat) : Int) - 92) = (c : Int) := by
    by_cases h8 : c < 8
    · rw [if_pos h8] at hs
      rw [if_pos (by omega)]
      omega
    · rw [if_neg h8] at hs
      rw [if_neg (by omega)]
      omega
  rw [ec] at e
  exact papply_box ⟨fo, ba, fl⟩ ⟨fo, c, fl⟩ [(sv : Int) + 10] 1 rfl (by decide) e hp (by intro u hu; simp at hu; omega) g w hb hFT
set_option maxHeartbeats 16000000 in
theorem penColours_t (ka kb kc n1 r1 g1 b1 fo ba : Int) (fl c x y z : Nat) (w : World) (hp : PR ⟨fo, ba, fl⟩)
    (hFT : FlagT w) (PRN : Hid (∀ w, FlagT w → Calls Tryd.prog 3 #[] w fun e w' => e = .returned (.bool true) ∧ Below w.heap.size w w'))
    (KP : Hid (∀ w, Calls Tryd.prog 15 #[.agg #[.int .i64 ka, .int .i64 kb, .int .i64 kc]] w fun e w' => e = .returned (.agg #[.int .i64 fo, .int .i64 ba, .int .i64 (fl : Nat)]) ∧ Below w.heap.size w w'))
    (CW : Hid (∀ w, Calls Tryd.prog 13 #[.int .i64 n1, .int .i64 0, .int .i64 255] w fun e w' => e = .returned (.int .i64 c) ∧ w = w'))
    (XW : Hid (∀ w, Calls Tryd.prog 13 #[.int .i64 r1, .int .i64 0, .int .i64 255] w fun e w' => e = .returned (.int .i64 x) ∧ w = w'))
    (YW : Hid (∀ w, Calls Tryd.prog 13 #[.int .i64 g1, .int .i64 0, .int .i64 255] w fun e w' => e = .returned (.int .i64 y) ∧ w = w'))
    (ZW : Hid (∀ w, Calls Tryd.prog 13 #[.int .i64 b1, .int .i64 0, .int .i64 255] w fun e w' => e = .returned (.int .i64 z) ∧ w = w'))
    (hc : c ≤ 255) (hx : x ≤ 255) (hy : y ≤ 255) (hz : z ≤ 255) :
    Calls Tryd.prog 7 #[.agg #[.int .i64 ka, .int .i64 kb, .int .i64 kc], .int .i64 n1, .int .i64 r1, .int .i64 g1, .int .i64 b1] w fun e w' => e = .returned (.bool true) ∧ Below w.heap.size w w' := by
  have HOK := hide hp
  have HT := hide hFT
  have A1 := hide (papply_box ⟨fo, ba, fl⟩ _ [6, 21, 26, 50, 108, 300] 6 rfl (by decide) (pc_none fo ba hp.1) hp (by decide))
  have A2 := hide (papply_box ⟨fo, ba, fl⟩ _ [38, 5] 2 rfl (by decide) (pc_short1 _) hp (by decide))
  have A3 := hide (papply_box ⟨fo, ba, fl⟩ _ [38, 2, 1, 2] 4 rfl (by decide) (pc_short2 _) hp (by decide))
  have A4 := hide (papply_box ⟨fo, ba, fl⟩ _ [38, 9, 1, 31] 4 rfl (by decide) (pc_short3 _) hp (by decide))
  have A5 := hide (papply_box ⟨fo, ba, fl⟩ _ [38, 5, 256, 4] 4 rfl (by decide) (pc_big1 _ _ _) hp (by decide))
  have A6 := hide (papply_box ⟨fo, ba, fl⟩ _ [38, 2, 1, 2, 256, 4] 6 rfl (by decide) (pc_big2 _ _ _) hp (by decide))
  have A7 := hide (papply_box ⟨fo, ba, fl⟩ _ [-1] 1 rfl (by decide) (pc_dflt _) hp (by decide))
  have A0 := hide (papply_box ⟨fo, ba, fl⟩ _ [38, 5, (c : Int), 48, 2, (x : Int), (y : Int), (z : Int)] 8 rfl (by decide) (pc_two _ c x y z hc hx hy hz) hp (by intro u hu; simp at hu; omega))
  have ep : ∀ w' : World, (binOp .eql 23 (.agg #[.int .i64 fo, .int .i64 ba, .int .i64 (fl : Nat)]) (.agg #[.int .i64 fo, .int .i64 ba, .int .i64 (fl : Nat)])).run Tryd.prog w' = .ok (.bool true) w' := fun w' => by rw [eql_pen10]; simp
  have ep0 : ∀ w' : World, (binOp .eql 23 (.agg #[.int .i64 (-1), .int .i64 (-1), .int .i64 0]) (.agg #[.int .i64 (-1), .int .i64 (-1), .int .i64 0])).run Tryd.prog w' = .ok (.bool true) w' := fun w' => by rw [eql_pen10]; rfl
  have fd0 := pen_fld0
  have fd1 := pen_fld1
  have fd2 := pen_fld2
  go_enter Tryd.func7, Tryd.ntmps7
  have b0 := Box.new w 31 #[.int .i64 ka, .int .i64 kb, .int .i64 kc]
  obtain ⟨k0, k1, k2, _, _, _⟩ := b0.three
  go_wp2_with fail
  refine (KP.out _).mono ?_
  rintro e w1 ⟨rfl, bb⟩
  have bb1 : Below w.heap.size w w1 := ((Below.refl _ w).alloc (Nat.le_refl _) _).trans (bb.mono (by simp))
  have hP1 := Box.new w1 23 #[.int .i64 fo, .int .i64 ba, .int .i64 (fl : Nat)]
  have B1 := hide (bb1.alloc bb1.size (.cells #[.int .i64 fo, .int .i64 ba, .int .i64 (fl : Nat)] 23))
  clear bb bb1 k0 k1 k2 b0
  go_wp2_with fail
  generalize w1.heap.size = gP at hP1 ⊢
  generalize w1.alloc (.cells #[.int .i64 fo, .int .i64 ba, .int .i64 (fl : Nat)] 23) = w2 at hP1 B1 ⊢
  refine (CW.out _).mono ?_
  rintro e w' ⟨rfl, rfl⟩
  go_wp2_with fail
  refine (XW.out _).mono ?_
  rintro e w' ⟨rfl, rfl⟩
  go_wp2_with fail
  refine (YW.out _).mono ?_
  rintro e w' ⟨rfl, rfl⟩
  go_wp2_with fail
  refine (ZW.out _).mono ?_
  rintro e w' ⟨rfl, rfl⟩
  obtain ⟨p0, p1, p2, q0, q1, q2⟩ := hP1.three
  have BP2 := hide hP1
  clear hP1
  go_wp2_with fail
  refine (A0.out _ _ (Box.new _ _ _) ((HT.out.keep B1.out).alloc _)).mono ?_
  rintro e w3 ⟨rfl, bb⟩
  simp only [penV]
  have hsz := bb.size
  simp only [World.size_alloc] at hsz
  have BP3 := (BP2.out.alloc (.cells #[.int .i64 38, .int .i64 5, .int .i64 c, .int .i64 48, .int .i64 2, .int .i64 x, .int .i64 y, .int .i64 z] 3)).below bb (by have := BP2.out.lt; simp; omega)
  have B3 := (B1.out.alloc B1.out.size (.cells #[.int .i64 38, .int .i64 5, .int .i64 c, .int .i64 48, .int .i64 2, .int .i64 x, .int .i64 y, .int .i64 z] 3)).trans (bb.mono (by have := B1.out.size; simp; omega))
  have BP4 := BP3.alloc (.cells #[.int .i64 c, .int .i64 (16777216 + (x : Int) * 65536 + (y : Int) * 256 + (z : Int)), .int .i64 (fl : Nat)] 23)
  have BQ4 := Box.new w3 23 #[.int .i64 c, .int .i64 (16777216 + (x : Int) * 65536 + (y : Int) * 256 + (z : Int)), .int .i64 (fl : Nat)]
  have B4 := hide (B3.alloc B3.size (.cells #[.int .i64 c, .int .i64 (16777216 + (x : Int) * 65536 + (y : Int) * 256 + (z : Int)), .int .i64 (fl : Nat)] 23))
  obtain ⟨p0, p1, p2, q0, q1, q2⟩ := BP4.three
  obtain ⟨r0, r1, r2, _, _, _⟩ := BQ4.three
  have BP := hide BP4
  clear BP3 B3 BP4 BQ4 bb hsz BP2 B1
  obtain ⟨sv, hsv⟩ : ∃ sv : Nat, (if c < 8 then 30 + c % 8 else 90 + c % 8) = sv := ⟨_, rfl⟩
  have F1 := hide (fun (h : c < 16) => pc_short_fore fo ba fl h hsv hp)
  have F2 := hide (fun (h : c < 16) => pc_short_back fo ba fl h hsv hp)
  have HSV := hide hsv
  have sv1 : sv ≤ 97 := by
    split at hsv <;> omega
  clear hsv
  go_upto_if 63 with fail
  go_cut [17] from 59 to 66 (fun u wx => u = .int .i64 (sv : Nat) ∧ wx = w3.alloc (.cells #[.int .i64 c, .int .i64 (16777216 + (x : Int) * 65536 + (y : Int) * 256 + (z : Int)), .int .i64 (fl : Nat)] 23))
  case first =>
    by_cases h : c < 8
    · have e : (30 : Int) + (c : Int) % 8 = sv := by
        have := HSV.out
        rw [if_pos h] at this
        omega
      have E := hide e
      clear e
      go_wp2_with fail
      go_meet
      exact ⟨by rw [E.out], by first | rfl | trivial⟩
    · have e : (90 : Int) + (c : Int) % 8 = sv := by
        have := HSV.out
        rw [if_neg h] at this
        omega
      have E := hide e
      clear e
      go_wp2_with fail
      go_meet
      exact ⟨by rw [E.out], by first | rfl | trivial⟩
  case rest =>
    obtain ⟨rfl, rfl⟩ := hcut
    generalize w3.alloc (.cells #[.int .i64 c, .int .i64 (16777216 + (x : Int) * 65536 + (y : Int) * 256 + (z : Int)), .int .i64 (fl : Nat)] 23) = w4 at *
    go_upto_region 10 with fail
    go_cut [91] from 67 to 91 (fun u wx => u = .bool false ∧ Box wx gP 23 #[.int .i64 fo, .int .i64 ba, .int .i64 (fl : Nat)] ∧ Below w.heap.size w wx)
    case first =>
      by_cases h : c < 16
      · have G1 := hide (F1.out h)
        have G2 := hide (F2.out h)
        go_wp2_with fail
        refine (G1.out _ _ (Box.new _ _ _) ((HT.out.keep B4.out).alloc _)).mono ?_
        rintro e w5 ⟨rfl, b5⟩
        have bp5 := (BP.out.alloc (.cells #[.int .i64 (sv : Nat)] 3)).below b5 (by have := BP.out.lt; simp; omega)
        have bl5 := (B4.out.alloc B4.out.size (.cells #[.int .i64 (sv : Nat)] 3)).trans (b5.mono (by have := B4.out.size; simp; omega))
        obtain ⟨p0, p1, p2, q0, q1, q2⟩ := bp5.three
        go_wp2_with fail
        refine (G2.out _ _ (Box.new _ _ _) ((HT.out.keep bl5).alloc _)).mono ?_
        rintro e w6 ⟨rfl, b6⟩
        have bp6 := (bp5.alloc (.cells #[.int .i64 ((sv : Nat) + 10)] 3)).below b6 (by have := bp5.lt; simp; omega)
        have bl6 := (bl5.alloc bl5.size (.cells #[.int .i64 ((sv : Nat) + 10)] 3)).trans (b6.mono (by have := bl5.size; simp; omega))
        go_wp2_with fail
        go_meet
        exact ⟨rfl, bp6, bl6⟩
      · go_wp2_with fail
        go_meet
        exact ⟨rfl, BP.out, B4.out⟩
    case rest =>
      obtain ⟨rfl, bp, bl⟩ := hcut
      have BX := hide bp
      have BLX := hide bl
      clear bp bl BP B4 F1 F2 HSV
      go_upto_region 12 with fail
      go_cut [10] from 92 to 146 (fun u wx => u = .bool true ∧ Below w.heap.size w wx)
      case first =>
        refine wp_region_gj (n := 147) [] (fun _ => #[]) [(0, 0, 0, 0, 0), (1, 0, 0, 0, 0), (0, 0, 0, 0, 0), (0, 0, 0, 0, 0), (0, 0, 0, 0, 0), (0, 0, 0, 0, 0), (0, 0, 0, 0, 0), (1, 0, 0, 0, 0), (0, 0, 0, 0, 0), (0, 0, 0, 0, 0), (0, 0, 0, 0, 0), (0, 0, 0, 0, 0), (0, 0, 0, 0, 0), (0, 0, 0, 0, 0), (1, 0, 0, 0, 0), (0, 0, 0, 0, 0), (0, 0, 0, 0, 0), (0, 0, 0, 0, 0), (0, 0, 0, 0, 0), (0, 0, 0, 0, 0), (0, 0, 0, 0, 0), (1, 0, 0, 0, 0), (0, 0, 0, 0, 0), (0, 0, 0, 0, 0), (0, 0, 0, 0, 0), (0, 0, 0, 0, 0), (0, 0, 0, 0, 0), (0, 0, 0, 0, 0), (1, 0, 0, 0, 0), (0, 0, 0, 0, 0), (0, 0, 0, 0, 0), (0, 0, 0, 0, 0), (0, 0, 0, 0, 0), (0, 0, 0, 0, 0), (0, 0, 0, 0, 0), (0, 0, 0, 0, 0), (0, 0, 0, 0, 0), (0, 0, 0, 0, 0), (1, 0, 0, 0, 0), (0, 0, 0, 0, 0), (0, 0, 0, 0, 0), (0, 0, 0, 0, 0), (0, 0, 0, 0, 0), (0, 0, 0, 0, 0), (0, 0, 0, 0, 0), (0, 0, 0, 0, 0), (0, 0, 0, 0, 0), (1, 0, 0, 0, 0), (0, 0, 0, 0, 0), (0, 0, 0, 0, 0), (0, 0, 0, 0, 0), (0, 0, 0, 0, 0), (0, 0, 0, 0, 0), (0, 0, 0, 0, 0), (0, 0, 0, 0, 0), (0, 0, 0, 0, 0)] (fun j => [(.agg #[.int .i64 fo, .int .i64 ba, .int .i64 (fl : Nat)]), undef, (.agg #[.int .i64 fo, .int .i64 ba, .int .i64 (fl : Nat)]), (.agg #[.int .i64 fo, .int .i64 ba, .int .i64 (fl : Nat)]), (.bool true), (.bool true), (.agg #[.int .i64 fo, .int .i64 ba, .int .i64 (fl : Nat)]), undef, (.agg #[.int .i64 fo, .int .i64 ba, .int .i64 (fl : Nat)]), (.agg #[.int .i64 fo, .int .i64 ba, .int .i64 (fl : Nat)]), (.bool true), (.bool true), (.bool true), (.agg #[.int .i64 fo, .int .i64 ba, .int .i64 (fl : Nat)]), undef, (.agg #[.int .i64 fo, .int .i64 ba, .int .i64 (fl : Nat)]), (.agg #[.int .i64 fo, .int .i64 ba, .int .i64 (fl : Nat)]), (.bool true), (.bool true), (.bool true), (.agg #[.int .i64 fo, .int .i64 ba, .int .i64 (fl : Nat)]), undef, (.agg #[.int .i64 fo, .int .i64 ba, .int .i64 (fl : Nat)]), (.agg #[.int .i64 fo, .int .i64 ba, .int .i64 (fl : Nat)]), (.bool true), (.bool true), (.bool true), (.agg #[.int .i64 fo, .int .i64 ba, .int .i64 (fl : Nat)]), undef, (.agg #[.int .i64 fo, .int .i64 ba, .int .i64 ((fl ||| 8 : Nat) : Int)]), (.int .i64 ((fl ||| 8 : Nat) : Int)), (.pointer (some ⟨gP, 2, none⟩)), (.int .i64 (fl : Nat)), (.int .i64 ((fl ||| 8 : Nat) : Int)), (.bool true), (.bool true), (.bool true), (.agg #[.int .i64 fo, .int .i64 ba, .int .i64 (fl : Nat)]), undef, (.agg #[.int .i64 fo, .int .i64 ba, .int .i64 ((fl ||| 8 : Nat) : Int)]), (.int .i64 fo), (.pointer (some ⟨gP, 0, none⟩)), (.int .i64 fo), (.bool true), (.bool true), (.bool true), (.agg #[.int .i64 fo, .int .i64 ba, .int .i64 (fl : Nat)]), undef, (.agg #[.int .i64 (-1), .int .i64 (-1), .int .i64 0]), (.agg #[.int .i64 (-1), .int .i64 (-1), .int .i64 0]), (.bool true), (.bool true), (.bool true), (.bool true), (.bool true), (.bool true)].getD j undef) [none, some (NewS 3 6 #[.int .i64 6, .int .i64 21, .int .i64 26, .int .i64 50, .int .i64 108, .int .i64 300]), none, none, none, none, none, some (NewS 3 2 #[.int .i64 38, .int .i64 5]), none, none, none, none, none, none, some (NewS 3 4 #[.int .i64 38, .int .i64 2, .int .i64 1, .int .i64 2]), none, none, none, none, none, none, some (NewS 3 4 #[.int .i64 38, .int .i64 9, .int .i64 1, .int .i64 31]), none, none, none, none, none, none, some (NewS 3 4 #[.int .i64 38, .int .i64 5, .int .i64 256, .int .i64 4]), none, none, none, none, none, none, none, none, none, some (NewS 3 6 #[.int .i64 38, .int .i64 2, .int .i64 1, .int .i64 2, .int .i64 256, .int .i64 4]), none, none, none, none, none, none, none, none, some (NewS 3 1 #[.int .i64 (-1)])] (fun _ => 0) (by kernel_rfl) (by kernel_rfl) (by kernel_rfl) rfl (by kernel_rfl) (gno4 rfl) (fun i j h => by revert h; exact gno4 (p := fun _ => _) rfl i) (AllG.none_ (AllG.some_ (NewS.stays (by kernel_rfl)) (AllG.none_ (AllG.none_ (AllG.none_ (AllG.none_ (AllG.none_ (AllG.some_ (NewS.stays (by kernel_rfl)) (AllG.none_ (AllG.none_ (AllG.none_ (AllG.none_ (AllG.none_ (AllG.none_ (AllG.some_ (NewS.stays (by kernel_rfl)) (AllG.none_ (AllG.none_ (AllG.none_ (AllG.none_ (AllG.none_ (AllG.none_ (AllG.some_ (NewS.stays (by kernel_rfl)) (AllG.none_ (AllG.none_ (AllG.none_ (AllG.none_ (AllG.none_ (AllG.none_ (AllG.some_ (NewS.stays (by kernel_rfl)) (AllG.none_ (AllG.none_ (AllG.none_ (AllG.none_ (AllG.none_ (AllG.none_ (AllG.none_ (AllG.none_ (AllG.none_ (AllG.some_ (NewS.stays (by kernel_rfl)) (AllG.none_ (AllG.none_ (AllG.none_ (AllG.none_ (AllG.none_ (AllG.none_ (AllG.none_ (AllG.none_ (AllG.some_ (NewS.stays (by kernel_rfl)) (AllG.nil _))))))))))))))))))))))))))))))))))))))))))))))))) (fun hGS => cases56 ⟨?_, ?_, ?_, ?_, ?_, ?_, ?_, ?_, ?_, ?_, ?_, ?_, ?_, ?_, ?_, ?_, ?_, ?_, ?_, ?_, ?_, ?_, ?_, ?_, ?_, ?_, ?_, ?_, ?_, ?_, ?_, ?_, ?_, ?_, ?_, ?_, ?_, ?_, ?_, ?_, ?_, ?_, ?_, ?_, ?_, ?_, ?_, ?_, ?_, ?_, ?_, ?_, ?_, ?_, ?_, ?_⟩) ?_
        · intro L a w' hL hsame hsz hJ hdep hcl
          have hb := hJ.kept.toBelow (Nat.le_refl _) (by simp)
          have e0 : a.eval (.tmp 11) = (.pointer (some ⟨gP, 0, none⟩)) := eval_base hsame (by kernel_rfl)
          have hx := hJ.keptBox (BX.out) (by simp)
          have q0 : w'.cell? ⟨gP, 0, none⟩ = some (.int .i64 fo) := hx.cell 0
          have q1 : w'.cell? ⟨gP, 1, none⟩ = some (.int .i64 ba) := hx.cell 1
          have q2 : w'.cell? ⟨gP, 2, none⟩ = some (.int .i64 (fl : Nat)) := hx.cell 2
          refine Step.val _ rfl rfl (wanted_none rfl) (.agg #[.int .i64 fo, .int .i64 ba, .int .i64 (fl : Nat)]) w' (fun ρ hρ => ?_) (hJ.val hGS hcl hL rfl (Below.refl _ _) _ rfl)
          clear hx
          rw [hρ] at e0
          clear hJ hsame hdep hcl hρ hsz hb
          go_simp
        · intro L a w' hL hsame hsz hJ hdep hcl
          have hb := hJ.kept.toBelow (Nat.le_refl _) (by simp)
          refine Step.val _ rfl rfl (wanted_none rfl) (.slice (some ⟨w'.heap.size, 0, none⟩) 6 6) (w'.alloc (.cells #[.int .i64 6, .int .i64 21, .int .i64 26, .int .i64 50, .int .i64 108, .int .i64 300] 3)) (fun ρ hρ => ?_) (hJ.pred hGS hcl hL rfl ((Below.refl _ _).alloc (Nat.le_refl _) _) _ (⟨_, rfl, Box.new w' _ _⟩))
          have ec0 : ρ (.const (.int .i64 6)) = (.int .i64 6) := (hρ _).symm
          have ec1 : ρ (.const (.int .i64 21)) = (.int .i64 21) := (hρ _).symm
          have ec2 : ρ (.const (.int .i64 26)) = (.int .i64 26) := (hρ _).symm
          have ec3 : ρ (.const (.int .i64 50)) = (.int .i64 50) := (hρ _).symm
          have ec4 : ρ (.const (.int .i64 108)) = (.int .i64 108) := (hρ _).symm
          have ec5 : ρ (.const (.int .i64 300)) = (.int .i64 300) := (hρ _).symm
          clear hJ hsame hdep hcl hρ hsz hb
          go_simp
        · intro L a w' hL hsame hsz hJ hdep hcl
          have hb := hJ.kept.toBelow (Nat.le_refl _) (by simp)
          have e0 : a.eval (.tmp 92) = (.agg #[.int .i64 fo, .int .i64 ba, .int .i64 (fl : Nat)]) := eval_slot (j := 0) (by kernel_rfl) (hJ.valOf (by decide) (dep_of hdep 0 (by kernel_rfl)) rfl rfl)
          obtain ⟨g1, hv1, hs1⟩ := (show (NewS 3 6 #[.int .i64 6, .int .i64 21, .int .i64 26, .int .i64 50, .int .i64 108, .int .i64 300]) (valOf _ 1 a) w' from hJ.predOf (by decide) (dep_of hdep 1 (by kernel_rfl)) rfl)
          have e1 : a.eval (.tmp 93) = .slice (some ⟨g1, 0, none⟩) 6 6 := eval_slot (j := 1) (by kernel_rfl) hv1
          refine Step.call _ rfl rfl (wanted_none rfl) 8 #[.agg #[.int .i64 fo, .int .i64 ba, .int .i64 (fl : Nat)], .slice (some ⟨g1, 0, none⟩) 6 6] (fun ρ hρ => ?_) ?_
          · skip
            rw [hρ] at e0 e1
            have ef : ρ (.func 8) = .func (.func 8) #[] #[] := (hρ _).symm
            clear hJ hsame hdep hcl hρ hsz hb
            go_simp
          · refine (A1.out g1 _ hs1 (HT.out.keep (BLX.out.trans (hb.mono BLX.out.size)))).mono ?_
            rintro e w2 ⟨rfl, bb⟩
            exact ⟨_, rfl, hJ.val hGS hcl hL rfl bb _ rfl⟩
        · intro L a w' hL hsame hsz hJ hdep hcl
          have hb := hJ.kept.toBelow (Nat.le_refl _) (by simp)
          have e0 : a.eval (.tmp 11) = (.pointer (some ⟨gP, 0, none⟩)) := eval_base hsame (by kernel_rfl)
          have hx := hJ.keptBox (BX.out) (by simp)
          have q0 : w'.cell? ⟨gP, 0, none⟩ = some (.int .i64 fo) := hx.cell 0
          have q1 : w'.cell? ⟨gP, 1, none⟩ = some (.int .i64 ba) := hx.cell 1
          have q2 : w'.cell? ⟨gP, 2, none⟩ = some (.int .i64 (fl : Nat)) := hx.cell 2
          refine Step.val _ rfl rfl (wanted_none rfl) (.agg #[.int .i64 fo, .int .i64 ba, .int .i64 (fl : Nat)]) w' (fun ρ hρ => ?_) (hJ.val hGS hcl hL rfl (Below.refl _ _) _ rfl)
          clear hx
          rw [hρ] at e0
          clear hJ hsame hdep hcl hρ hsz hb
          go_simp
        · intro L a w' hL hsame hsz hJ hdep hcl
          have hb := hJ.kept.toBelow (Nat.le_refl _) (by simp)
          have e0 : a.eval (.tmp 94) = (.agg #[.int .i64 fo, .int .i64 ba, .int .i64 (fl : Nat)]) := eval_slot (j := 2) (by kernel_rfl) (hJ.valOf (by decide) (dep_of hdep 2 (by kernel_rfl)) rfl rfl)
          have e1 : a.eval (.tmp 95) = (.agg #[.int .i64 fo, .int .i64 ba, .int .i64 (fl : Nat)]) := eval_slot (j := 3) (by kernel_rfl) (hJ.valOf (by decide) (dep_of hdep 3 (by kernel_rfl)) rfl rfl)
          refine Step.val _ rfl rfl (wanted_none rfl) (.bool true) w' (fun ρ hρ => ?_) (hJ.val hGS hcl hL rfl (Below.refl _ _) _ rfl)
          rw [hρ] at e0 e1
          clear hJ hsame hdep hcl hρ hsz hb
          go_simp
        · intro L a w' hL hsame hsz hJ hdep hcl
          have hb := hJ.kept.toBelow (Nat.le_refl _) (by simp)
          have e0 : a.eval (.tmp 96) = (.bool true) := eval_slot (j := 4) (by kernel_rfl) (hJ.valOf (by decide) (dep_of hdep 4 (by kernel_rfl)) rfl rfl)
          refine Step.val _ rfl rfl (wanted_none rfl) (.bool true) w' (fun ρ hρ => ?_) (hJ.val hGS hcl hL rfl (Below.refl _ _) _ rfl)
          rw [hρ] at e0
          clear hJ hsame hdep hcl hρ hsz hb
          go_simp
        · intro L a w' hL hsame hsz hJ hdep hcl
          have gd : valOf _ 5 a = .bool true := hJ.valOf (by decide) (dep_of hdep 5 (by kernel_rfl)) rfl rfl
          have hb := hJ.kept.toBelow (Nat.le_refl _) (by simp)
          have e0 : a.eval (.tmp 11) = (.pointer (some ⟨gP, 0, none⟩)) := eval_base hsame (by kernel_rfl)
          have hx := hJ.keptBox (BX.out) (by simp)
          have q0 : w'.cell? ⟨gP, 0, none⟩ = some (.int .i64 fo) := hx.cell 0
          have q1 : w'.cell? ⟨gP, 1, none⟩ = some (.int .i64 ba) := hx.cell 1
          have q2 : w'.cell? ⟨gP, 2, none⟩ = some (.int .i64 (fl : Nat)) := hx.cell 2
          refine Step.val _ rfl rfl (wanted_some (g := 5) (b := true) rfl gd) (.agg #[.int .i64 fo, .int .i64 ba, .int .i64 (fl : Nat)]) w' (fun ρ hρ => ?_) (hJ.val hGS hcl hL rfl (Below.refl _ _) _ rfl)
          clear hx
          rw [hρ] at e0
          clear hJ hsame hdep hcl hρ hsz hb gd
          go_simp
        · intro L a w' hL hsame hsz hJ hdep hcl
          have gd : valOf _ 5 a = .bool true := hJ.valOf (by decide) (dep_of hdep 5 (by kernel_rfl)) rfl rfl
          have hb := hJ.kept.toBelow (Nat.le_refl _) (by simp)
          refine Step.val _ rfl rfl (wanted_some (g := 5) (b := true) rfl gd) (.slice (some ⟨w'.heap.size, 0, none⟩) 2 2) (w'.alloc (.cells #[.int .i64 38, .int .i64 5] 3)) (fun ρ hρ => ?_) (hJ.pred hGS hcl hL rfl ((Below.refl _ _).alloc (Nat.le_refl _) _) _ (⟨_, rfl, Box.new w' _ _⟩))
          have ec0 : ρ (.const (.int .i64 38)) = (.int .i64 38) := (hρ _).symm
          have ec1 : ρ (.const (.int .i64 5)) = (.int .i64 5) := (hρ _).symm
          clear hJ hsame hdep hcl hρ hsz hb gd
          go_simp
        · intro L a w' hL hsame hsz hJ hdep hcl
          have gd : valOf _ 5 a = .bool true := hJ.valOf (by decide) (dep_of hdep 5 (by kernel_rfl)) rfl rfl
          have hb := hJ.kept.toBelow (Nat.le_refl _) (by simp)
          have e0 : a.eval (.tmp 98) = (.agg #[.int .i64 fo, .int .i64 ba, .int .i64 (fl : Nat)]) := eval_slot (j := 6) (by kernel_rfl) (hJ.valOf (by decide) (dep_of hdep 6 (by kernel_rfl)) rfl rfl)
          obtain ⟨g7, hv7, hs7⟩ := (show (NewS 3 2 #[.int .i64 38, .int .i64 5]) (valOf _ 7 a) w' from hJ.predOf (by decide) (dep_of hdep 7 (by kernel_rfl)) rfl)
          have e1 : a.eval (.tmp 99) = .slice (some ⟨g7, 0, none⟩) 2 2 := eval_slot (j := 7) (by kernel_rfl) hv7
          refine Step.call _ rfl rfl (wanted_some (g := 5) (b := true) rfl gd) 8 #[.agg #[.int .i64 fo, .int .i64 ba, .int .i64 (fl : Nat)], .slice (some ⟨g7, 0, none⟩) 2 2] (fun ρ hρ => ?_) ?_
          · skip
            rw [hρ] at e0 e1
            have ef : ρ (.func 8) = .func (.func 8) #[] #[] := (hρ _).symm
            clear hJ hsame hdep hcl hρ hsz hb gd
            go_simp
          · refine (A2.out g7 _ hs7 (HT.out.keep (BLX.out.trans (hb.mono BLX.out.size)))).mono ?_
            rintro e w2 ⟨rfl, bb⟩
            exact ⟨_, rfl, hJ.val hGS hcl hL rfl bb _ rfl⟩
        · intro L a w' hL hsame hsz hJ hdep hcl
          have gd : valOf _ 5 a = .bool true := hJ.valOf (by decide) (dep_of hdep 5 (by kernel_rfl)) rfl rfl
          have hb := hJ.kept.toBelow (Nat.le_refl _) (by simp)
          have e0 : a.eval (.tmp 11) = (.pointer (some ⟨gP, 0, none⟩)) := eval_base hsame (by kernel_rfl)
          have hx := hJ.keptBox (BX.out) (by simp)
          have q0 : w'.cell? ⟨gP, 0, none⟩ = some (.int .i64 fo) := hx.cell 0
          have q1 : w'.cell? ⟨gP, 1, none⟩ = some (.int .i64 ba) := hx.cell 1
          have q2 : w'.cell? ⟨gP, 2, none⟩ = some (.int .i64 (fl : Nat)) := hx.cell 2
          refine Step.val _ rfl rfl (wanted_some (g := 5) (b := true) rfl gd) (.agg #[.int .i64 fo, .int .i64 ba, .int .i64 (fl : Nat)]) w' (fun ρ hρ => ?_) (hJ.val hGS hcl hL rfl (Below.refl _ _) _ rfl)
          clear hx
          rw [hρ] at e0
          clear hJ hsame hdep hcl hρ hsz hb gd
          go_simp
        · intro L a w' hL hsame hsz hJ hdep hcl
          have gd : valOf _ 5 a = .bool true := hJ.valOf (by decide) (dep_of hdep 5 (by kernel_rfl)) rfl rfl
          have hb := hJ.kept.toBelow (Nat.le_refl _) (by simp)
          have e0 : a.eval (.tmp 100) = (.agg #[.int .i64 fo, .int .i64 ba, .int .i64 (fl : Nat)]) := eval_slot (j := 8) (by kernel_rfl) (hJ.valOf (by decide) (dep_of hdep 8 (by kernel_rfl)) rfl rfl)
          have e1 : a.eval (.tmp 101) = (.agg #[.int .i64 fo, .int .i64 ba, .int .i64 (fl : Nat)]) := eval_slot (j := 9) (by kernel_rfl) (hJ.valOf (by decide) (dep_of hdep 9 (by kernel_rfl)) rfl rfl)
          refine Step.val _ rfl rfl (wanted_some (g := 5) (b := true) rfl gd) (.bool true) w' (fun ρ hρ => ?_) (hJ.val hGS hcl hL rfl (Below.refl _ _) _ rfl)
          rw [hρ] at e0 e1
          clear hJ hsame hdep hcl hρ hsz hb gd
          go_simp
        · intro L a w' hL hsame hsz hJ hdep hcl
          have hb := hJ.kept.toBelow (Nat.le_refl _) (by simp)
          have e0 : a.eval (.tmp 97) = (.bool true) := eval_slot (j := 5) (by kernel_rfl) (hJ.valOf (by decide) (dep_of hdep 5 (by kernel_rfl)) rfl rfl)
          have e1 : a.eval (.tmp 102) = (.bool true) := eval_slot (j := 10) (by kernel_rfl) (hJ.valOf (by decide) (dep_of hdep 10 (by kernel_rfl)) rfl rfl)
          refine Step.val _ rfl rfl (wanted_none rfl) (.bool true) w' (fun ρ hρ => ?_) (hJ.val hGS hcl hL rfl (Below.refl _ _) _ rfl)
          rw [hρ] at e0 e1
          have ec0 : ρ (.const (.bool false)) = (.bool false) := (hρ _).symm
          clear hJ hsame hdep hcl hρ hsz hb
          go_simp
        · intro L a w' hL hsame hsz hJ hdep hcl
          have hb := hJ.kept.toBelow (Nat.le_refl _) (by simp)
          have e0 : a.eval (.tmp 103) = (.bool true) := eval_slot (j := 11) (by kernel_rfl) (hJ.valOf (by decide) (dep_of hdep 11 (by kernel_rfl)) rfl rfl)
          refine Step.val _ rfl rfl (wanted_none rfl) (.bool true) w' (fun ρ hρ => ?_) (hJ.val hGS hcl hL rfl (Below.refl _ _) _ rfl)
          rw [hρ] at e0
          clear hJ hsame hdep hcl hρ hsz hb
          go_simp
        · intro L a w' hL hsame hsz hJ hdep hcl
          have gd : valOf _ 12 a = .bool true := hJ.valOf (by decide) (dep_of hdep 12 (by kernel_rfl)) rfl rfl
          have hb := hJ.kept.toBelow (Nat.le_refl _) (by simp)
          have e0 : a.eval (.tmp 11) = (.pointer (some ⟨gP, 0, none⟩)) := eval_base hsame (by kernel_rfl)
          have hx := hJ.keptBox (BX.out) (by simp)
          have q0 : w'.cell? ⟨gP, 0, none⟩ = some (.int .i64 fo) := hx.cell 0
          have q1 : w'.cell? ⟨gP, 1, none⟩ = some (.int .i64 ba) := hx.cell 1
          have q2 : w'.cell? ⟨gP, 2, none⟩ = some (.int .i64 (fl : Nat)) := hx.cell 2
          refine Step.val _ rfl rfl (wanted_some (g := 12) (b := true) rfl gd) (.agg #[.int .i64 fo, .int .i64 ba, .int .i64 (fl : Nat)]) w' (fun ρ hρ => ?_) (hJ.val hGS hcl hL rfl (Below.refl _ _) _ rfl)
          clear hx
          rw [hρ] at e0
          clear hJ hsame hdep hcl hρ hsz hb gd
          go_simp
        · intro L a w' hL hsame hsz hJ hdep hcl
          have gd : valOf _ 12 a = .bool true := hJ.valOf (by decide) (dep_of hdep 12 (by kernel_rfl)) rfl rfl
          have hb := hJ.kept.toBelow (Nat.le_refl _) (by simp)
          refine Step.val _ rfl rfl (wanted_some (g := 12) (b := true) rfl gd) (.slice (some ⟨w'.heap.size, 0, none⟩) 4 4) (w'.alloc (.cells #[.int .i64 38, .int .i64 2, .int .i64 1, .int .i64 2] 3)) (fun ρ hρ => ?_) (hJ.pred hGS hcl hL rfl ((Below.refl _ _).alloc (Nat.le_refl _) _) _ (⟨_, rfl, Box.new w' _ _⟩))
          have ec0 : ρ (.const (.int .i64 38)) = (.int .i64 38) := (hρ _).symm
          have ec1 : ρ (.const (.int .i64 2)) = (.int .i64 2) := (hρ _).symm
          have ec2 : ρ (.const (.int .i64 1)) = (.int .i64 1) := (hρ _).symm
          clear hJ hsame hdep hcl hρ hsz hb gd
          go_simp
        · intro L a w' hL hsame hsz hJ hdep hcl
          have gd : valOf _ 12 a = .bool true := hJ.valOf (by decide) (dep_of hdep 12 (by kernel_rfl)) rfl rfl
          have hb := hJ.kept.toBelow (Nat.le_refl _) (by simp)
          have e0 : a.eval (.tmp 105) = (.agg #[.int .i64 fo, .int .i64 ba, .int .i64 (fl : Nat)]) := eval_slot (j := 13) (by kernel_rfl) (hJ.valOf (by decide) (dep_of hdep 13 (by kernel_rfl)) rfl rfl)
          obtain ⟨g14, hv14, hs14⟩ := (show (NewS 3 4 #[.int .i64 38, .int .i64 2, .int .i64 1, .int .i64 2]) (valOf _ 14 a) w' from hJ.predOf (by decide) (dep_of hdep 14 (by kernel_rfl)) rfl)
          have e1 : a.eval (.tmp 106) = .slice (some ⟨g14, 0, none⟩) 4 4 := eval_slot (j := 14) (by kernel_rfl) hv14
          refine Step.call _ rfl rfl (wanted_some (g := 12) (b := true) rfl gd) 8 #[.agg #[.int .i64 fo, .int .i64 ba, .int .i64 (fl : Nat)], .slice (some ⟨g14, 0, none⟩) 4 4] (fun ρ hρ => ?_) ?_
          · skip
            rw [hρ] at e0 e1
            have ef : ρ (.func 8) = .func (.func 8) #[] #[] := (hρ _).symm
            clear hJ hsame hdep hcl hρ hsz hb gd
            go_simp
          · refine (A3.out g14 _ hs14 (HT.out.keep (BLX.out.trans (hb.mono BLX.out.size)))).mono ?_
            rintro e w2 ⟨rfl, bb⟩
            exact ⟨_, rfl, hJ.val hGS hcl hL rfl bb _ rfl⟩
        · intro L a w' hL hsame hsz hJ hdep hcl
          have gd : valOf _ 12 a = .bool true := hJ.valOf (by decide) (dep_of hdep 12 (by kernel_rfl)) rfl rfl
          have hb := hJ.kept.toBelow (Nat.le_refl _) (by simp)
          have e0 : a.eval (.tmp 11) = (.pointer (some ⟨gP, 0, none⟩)) := eval_base hsame (by kernel_rfl)
          have hx := hJ.keptBox (BX.out) (by simp)
          have q0 : w'.cell? ⟨gP, 0, none⟩ = some (.int .i64 fo) := hx.cell 0
          have q1 : w'.cell? ⟨gP, 1, none⟩ = some (.int .i64 ba) := hx.cell 1
          have q2 : w'.cell? ⟨gP, 2, none⟩ = some (.int .i64 (fl : Nat)) := hx.cell 2
          refine Step.val _ rfl rfl (wanted_some (g := 12) (b := true) rfl gd) (.agg #[.int .i64 fo, .int .i64 ba, .int .i64 (fl : Nat)]) w' (fun ρ hρ => ?_) (hJ.val hGS hcl hL rfl (Below.refl _ _) _ rfl)
          clear hx
          rw [hρ] at e0
          clear hJ hsame hdep hcl hρ hsz hb gd
          go_simp
        · intro L a w' hL hsame hsz hJ hdep hcl
          have gd : valOf _ 12 a = .bool true := hJ.valOf (by decide) (dep_of hdep 12 (by kernel_rfl)) rfl rfl
          have hb := hJ.kept.toBelow (Nat.le_refl _) (by simp)
          have e0 : a.eval (.tmp 107) = (.agg #[.int .i64 fo, .int .i64 ba, .int .i64 (fl : Nat)]) := eval_slot (j := 15) (by kernel_rfl) (hJ.valOf (by decide) (dep_of hdep 15 (by kernel_rfl)) rfl rfl)
          have e1 : a.eval (.tmp 108) = (.agg #[.int .i64 fo, .int .i64 ba, .int .i64 (fl : Nat)]) := eval_slot (j := 16) (by kernel_rfl) (hJ.valOf (by decide) (dep_of hdep 16 (by kernel_rfl)) rfl rfl)
          refine Step.val _ rfl rfl (wanted_some (g := 12) (b := true) rfl gd) (.bool true) w' (fun ρ hρ => ?_) (hJ.val hGS hcl hL rfl (Below.refl _ _) _ rfl)
          rw [hρ] at e0 e1
          clear hJ hsame hdep hcl hρ hsz hb gd
          go_simp
        · intro L a w' hL hsame hsz hJ hdep hcl
          have hb := hJ.kept.toBelow (Nat.le_refl _) (by simp)
          have e0 : a.eval (.tmp 104) = (.bool true) := eval_slot (j := 12) (by kernel_rfl) (hJ.valOf (by decide) (dep_of hdep 12 (by kernel_rfl)) rfl rfl)
          have e1 : a.eval (.tmp 109) = (.bool true) := eval_slot (j := 17) (by kernel_rfl) (hJ.valOf (by decide) (dep_of hdep 17 (by kernel_rfl)) rfl rfl)
          refine Step.val _ rfl rfl (wanted_none rfl) (.bool true) w' (fun ρ hρ => ?_) (hJ.val hGS hcl hL rfl (Below.refl _ _) _ rfl)
          rw [hρ] at e0 e1
          have ec0 : ρ (.const (.bool false)) = (.bool false) := (hρ _).symm
          clear hJ hsame hdep hcl hρ hsz hb
          go_simp
        · intro L a w' hL hsame hsz hJ hdep hcl
          have hb := hJ.kept.toBelow (Nat.le_refl _) (by simp)
          have e0 : a.eval (.tmp 110) = (.bool true) := eval_slot (j := 18) (by kernel_rfl) (hJ.valOf (by decide) (dep_of hdep 18 (by kernel_rfl)) rfl rfl)
          refine Step.val _ rfl rfl (wanted_none rfl) (.bool true) w' (fun ρ hρ => ?_) (hJ.val hGS hcl hL rfl (Below.refl _ _) _ rfl)
          rw [hρ] at e0
          clear hJ hsame hdep hcl hρ hsz hb
          go_simp
        · intro L a w' hL hsame hsz hJ hdep hcl
          have gd : valOf _ 19 a = .bool true := hJ.valOf (by decide) (dep_of hdep 19 (by kernel_rfl)) rfl rfl
          have hb := hJ.kept.toBelow (Nat.le_refl _) (by simp)
          have e0 : a.eval (.tmp 11) = (.pointer (some ⟨gP, 0, none⟩)) := eval_base hsame (by kernel_rfl)
          have hx := hJ.keptBox (BX.out) (by simp)
          have q0 : w'.cell? ⟨gP, 0, none⟩ = some (.int .i64 fo) := hx.cell 0
          have q1 : w'.cell? ⟨gP, 1, none⟩ = some (.int .i64 ba) := hx.cell 1
          have q2 : w'.cell? ⟨gP, 2, none⟩ = some (.int .i64 (fl : Nat)) := hx.cell 2
          refine Step.val _ rfl rfl (wanted_some (g := 19) (b := true) rfl gd) (.agg #[.int .i64 fo, .int .i64 ba, .int .i64 (fl : Nat)]) w' (fun ρ hρ => ?_) (hJ.val hGS hcl hL rfl (Below.refl _ _) _ rfl)
          clear hx
          rw [hρ] at e0
          clear hJ hsame hdep hcl hρ hsz hb gd
          go_simp
        · intro L a w' hL hsame hsz hJ hdep hcl
          have gd : valOf _ 19 a = .bool true := hJ.valOf (by decide) (dep_of hdep 19 (by kernel_rfl)) rfl rfl
          have hb := hJ.kept.toBelow (Nat.le_refl _) (by simp)
          refine Step.val _ rfl rfl (wanted_some (g := 19) (b := true) rfl gd) (.slice (some ⟨w'.heap.size, 0, none⟩) 4 4) (w'.alloc (.cells #[.int .i64 38, .int .i64 9, .int .i64 1, .int .i64 31] 3)) (fun ρ hρ => ?_) (hJ.pred hGS hcl hL rfl ((Below.refl _ _).alloc (Nat.le_refl _) _) _ (⟨_, rfl, Box.new w' _ _⟩))
          have ec0 : ρ (.const (.int .i64 38)) = (.int .i64 38) := (hρ _).symm
          have ec1 : ρ (.const (.int .i64 9)) = (.int .i64 9) := (hρ _).symm
          have ec2 : ρ (.const (.int .i64 1)) = (.int .i64 1) := (hρ _).symm
          have ec3 : ρ (.const (.int .i64 31)) = (.int .i64 31) := (hρ _).symm
          clear hJ hsame hdep hcl hρ hsz hb gd
          go_simp
        · intro L a w' hL hsame hsz hJ hdep hcl
          have gd : valOf _ 19 a = .bool true := hJ.valOf (by decide) (dep_of hdep 19 (by kernel_rfl)) rfl rfl
          have hb := hJ.kept.toBelow (Nat.le_refl _) (by simp)
          have e0 : a.eval (.tmp 112) = (.agg #[.int .i64 fo, .int .i64 ba, .int .i64 (fl : Nat)]) := eval_slot (j := 20) (by kernel_rfl) (hJ.valOf (by decide) (dep_of hdep 20 (by kernel_rfl)) rfl rfl)
          obtain ⟨g21, hv21, hs21⟩ := (show (NewS 3 4 #[.int .i64 38, .int .i64 9, .int .i64 1, .int .i64 31]) (valOf _ 21 a) w' from hJ.predOf (by decide) (dep_of hdep 21 (by kernel_rfl)) rfl)
          have e1 : a.eval (.tmp 113) = .slice (some ⟨g21, 0, none⟩) 4 4 := eval_slot (j := 21) (by kernel_rfl) hv21
          refine Step.call _ rfl rfl (wanted_some (g := 19) (b := true) rfl gd) 8 #[.agg #[.int .i64 fo, .int .i64 ba, .int .i64 (fl : Nat)], .slice (some ⟨g21, 0, none⟩) 4 4] (fun ρ hρ => ?_) ?_
          · skip
            rw [hρ] at e0 e1
            have ef : ρ (.func 8) = .func (.func 8) #[] #[] := (hρ _).symm
            clear hJ hsame hdep hcl hρ hsz hb gd
            go_simp
          · refine (A4.out g21 _ hs21 (HT.out.keep (BLX.out.trans (hb.mono BLX.out.size)))).mono ?_
            rintro e w2 ⟨rfl, bb⟩
            exact ⟨_, rfl, hJ.val hGS hcl hL rfl bb _ rfl⟩
        · intro L a w' hL hsame hsz hJ hdep hcl
          have gd : valOf _ 19 a = .bool true := hJ.valOf (by decide) (dep_of hdep 19 (by kernel_rfl)) rfl rfl
          have hb := hJ.kept.toBelow (Nat.le_refl _) (by simp)
          have e0 : a.eval (.tmp 11) = (.pointer (some ⟨gP, 0, none⟩)) := eval_base hsame (by kernel_rfl)
          have hx := hJ.keptBox (BX.out) (by simp)
          have q0 : w'.cell? ⟨gP, 0, none⟩ = some (.int .i64 fo) := hx.cell 0
          have q1 : w'.cell? ⟨gP, 1, none⟩ = some (.int .i64 ba) := hx.cell 1
          have q2 : w'.cell? ⟨gP, 2, none⟩ = some (.int .i64 (fl : Nat)) := hx.cell 2
          refine Step.val _ rfl rfl (wanted_some (g := 19) (b := true) rfl gd) (.agg #[.int .i64 fo, .int .i64 ba, .int .i64 (fl : Nat)]) w' (fun ρ hρ => ?_) (hJ.val hGS hcl hL rfl (Below.refl _ _) _ rfl)
          clear hx
          rw [hρ] at e0
          clear hJ hsame hdep hcl hρ hsz hb gd
          go_simp
        · intro L a w' hL hsame hsz hJ hdep hcl
          have gd : valOf _ 19 a = .bool true := hJ.valOf (by decide) (dep_of hdep 19 (by kernel_rfl)) rfl rfl
          have hb := hJ.kept.toBelow (Nat.le_refl _) (by simp)
          have e0 : a.eval (.tmp 114) = (.agg #[.int .i64 fo, .int .i64 ba, .int .i64 (fl : Nat)]) := eval_slot (j := 22) (by kernel_rfl) (hJ.valOf (by decide) (dep_of hdep 22 (by kernel_rfl)) rfl rfl)
          have e1 : a.eval (.tmp 115) = (.agg #[.int .i64 fo, .int .i64 ba, .int .i64 (fl : Nat)]) := eval_slot (j := 23) (by kernel_rfl) (hJ.valOf (by decide) (dep_of hdep 23 (by kernel_rfl)) rfl rfl)
          refine Step.val _ rfl rfl (wanted_some (g := 19) (b := true) rfl gd) (.bool true) w' (fun ρ hρ => ?_) (hJ.val hGS hcl hL rfl (Below.refl _ _) _ rfl)
          rw [hρ] at e0 e1
          clear hJ hsame hdep hcl hρ hsz hb gd
          go_simp
        · intro L a w' hL hsame hsz hJ hdep hcl
          have hb := hJ.kept.toBelow (Nat.le_refl _) (by simp)
          have e0 : a.eval (.tmp 111) = (.bool true) := eval_slot (j := 19) (by kernel_rfl) (hJ.valOf (by decide) (dep_of hdep 19 (by kernel_rfl)) rfl rfl)
          have e1 : a.eval (.tmp 116) = (.bool true) := eval_slot (j := 24) (by kernel_rfl) (hJ.valOf (by decide) (dep_of hdep 24 (by kernel_rfl)) rfl rfl)
          refine Step.val _ rfl rfl (wanted_none rfl) (.bool true) w' (fun ρ hρ => ?_) (hJ.val hGS hcl hL rfl (Below.refl _ _) _ rfl)
          rw [hρ] at e0 e1
          have ec0 : ρ (.const (.bool false)) = (.bool false) := (hρ _).symm
          clear hJ hsame hdep hcl hρ hsz hb
          go_simp
        · intro L a w' hL hsame hsz hJ hdep hcl
          have hb := hJ.kept.toBelow (Nat.le_refl _) (by simp)
          have e0 : a.eval (.tmp 117) = (.bool true) := eval_slot (j := 25) (by kernel_rfl) (hJ.valOf (by decide) (dep_of hdep 25 (by kernel_rfl)) rfl rfl)
          refine Step.val _ rfl rfl (wanted_none rfl) (.bool true) w' (fun ρ hρ => ?_) (hJ.val hGS hcl hL rfl (Below.refl _ _) _ rfl)
          rw [hρ] at e0
          clear hJ hsame hdep hcl hρ hsz hb
          go_simp
        · intro L a w' hL hsame hsz hJ hdep hcl
          have gd : valOf _ 26 a = .bool true := hJ.valOf (by decide) (dep_of hdep 26 (by kernel_rfl)) rfl rfl
          have hb := hJ.kept.toBelow (Nat.le_refl _) (by simp)
          have e0 : a.eval (.tmp 11) = (.pointer (some ⟨gP, 0, none⟩)) := eval_base hsame (by kernel_rfl)
          have hx := hJ.keptBox (BX.out) (by simp)
          have q0 : w'.cell? ⟨gP, 0, none⟩ = some (.int .i64 fo) := hx.cell 0
          have q1 : w'.cell? ⟨gP, 1, none⟩ = some (.int .i64 ba) := hx.cell 1
          have q2 : w'.cell? ⟨gP, 2, none⟩ = some (.int .i64 (fl : Nat)) := hx.cell 2
          refine Step.val _ rfl rfl (wanted_some (g := 26) (b := true) rfl gd) (.agg #[.int .i64 fo, .int .i64 ba, .int .i64 (fl : Nat)]) w' (fun ρ hρ => ?_) (hJ.val hGS hcl hL rfl (Below.refl _ _) _ rfl)
          clear hx
          rw [hρ] at e0
          clear hJ hsame hdep hcl hρ hsz hb gd
          go_simp
        · intro L a w' hL hsame hsz hJ hdep hcl
          have gd : valOf _ 26 a = .bool true := hJ.valOf (by decide) (dep_of hdep 26 (by kernel_rfl)) rfl rfl
          have hb := hJ.kept.toBelow (Nat.le_refl _) (by simp)
          refine Step.val _ rfl rfl (wanted_some (g := 26) (b := true) rfl gd) (.slice (some ⟨w'.heap.size, 0, none⟩) 4 4) (w'.alloc (.cells #[.int .i64 38, .int .i64 5, .int .i64 256, .int .i64 4] 3)) (fun ρ hρ => ?_) (hJ.pred hGS hcl hL rfl ((Below.refl _ _).alloc (Nat.le_refl _) _) _ (⟨_, rfl, Box.new w' _ _⟩))
          have ec0 : ρ (.const (.int .i64 38)) = (.int .i64 38) := (hρ _).symm
          have ec1 : ρ (.const (.int .i64 5)) = (.int .i64 5) := (hρ _).symm
          have ec2 : ρ (.const (.int .i64 256)) = (.int .i64 256) := (hρ _).symm
          have ec3 : ρ (.const (.int .i64 4)) = (.int .i64 4) := (hρ _).symm
          clear hJ hsame hdep hcl hρ hsz hb gd
          go_simp
        · intro L a w' hL hsame hsz hJ hdep hcl
          have gd : valOf _ 26 a = .bool true := hJ.valOf (by decide) (dep_of hdep 26 (by kernel_rfl)) rfl rfl
          have hb := hJ.kept.toBelow (Nat.le_refl _) (by simp)
          have e0 : a.eval (.tmp 119) = (.agg #[.int .i64 fo, .int .i64 ba, .int .i64 (fl : Nat)]) := eval_slot (j := 27) (by kernel_rfl) (hJ.valOf (by decide) (dep_of hdep 27 (by kernel_rfl)) rfl rfl)
          obtain ⟨g28, hv28, hs28⟩ := (show (NewS 3 4 #[.int .i64 38, .int .i64 5, .int .i64 256, .int .i64 4]) (valOf _ 28 a) w' from hJ.predOf (by decide) (dep_of hdep 28 (by kernel_rfl)) rfl)
          have e1 : a.eval (.tmp 120) = .slice (some ⟨g28, 0, none⟩) 4 4 := eval_slot (j := 28) (by kernel_rfl) hv28
          refine Step.call _ rfl rfl (wanted_some (g := 26) (b := true) rfl gd) 8 #[.agg #[.int .i64 fo, .int .i64 ba, .int .i64 (fl : Nat)], .slice (some ⟨g28, 0, none⟩) 4 4] (fun ρ hρ => ?_) ?_
          · skip
            rw [hρ] at e0 e1
            have ef : ρ (.func 8) = .func (.func 8) #[] #[] := (hρ _).symm
            clear hJ hsame hdep hcl hρ hsz hb gd
            go_simp
          · refine (A5.out g28 _ hs28 (HT.out.keep (BLX.out.trans (hb.mono BLX.out.size)))).mono ?_
            rintro e w2 ⟨rfl, bb⟩
            exact ⟨_, rfl, hJ.val hGS hcl hL rfl bb _ rfl⟩
        · intro L a w' hL hsame hsz hJ hdep hcl
          have gd : valOf _ 26 a = .bool true := hJ.valOf (by decide) (dep_of hdep 26 (by kernel_rfl)) rfl rfl
          have hb := hJ.kept.toBelow (Nat.le_refl _) (by simp)
          have e0 : a.eval (.tmp 121) = (.agg #[.int .i64 fo, .int .i64 ba, .int .i64 ((fl ||| 8 : Nat) : Int)]) := eval_slot (j := 29) (by kernel_rfl) (hJ.valOf (by decide) (dep_of hdep 29 (by kernel_rfl)) rfl rfl)
          refine Step.val _ rfl rfl (wanted_some (g := 26) (b := true) rfl gd) (.int .i64 ((fl ||| 8 : Nat) : Int)) w' (fun ρ hρ => ?_) (hJ.val hGS hcl hL rfl (Below.refl _ _) _ rfl)
          rw [hρ] at e0
          clear hJ hsame hdep hcl hρ hsz hb gd
          go_simp
        · intro L a w' hL hsame hsz hJ hdep hcl
          have gd : valOf _ 26 a = .bool true := hJ.valOf (by decide) (dep_of hdep 26 (by kernel_rfl)) rfl rfl
          have hb := hJ.kept.toBelow (Nat.le_refl _) (by simp)
          have e0 : a.eval (.tmp 11) = (.pointer (some ⟨gP, 0, none⟩)) := eval_base hsame (by kernel_rfl)
          refine Step.val _ rfl rfl (wanted_some (g := 26) (b := true) rfl gd) (.pointer (some ⟨gP, 2, none⟩)) w' (fun ρ hρ => ?_) (hJ.val hGS hcl hL rfl (Below.refl _ _) _ rfl)
          rw [hρ] at e0
          clear hJ hsame hdep hcl hρ hsz hb gd
          go_simp
        · intro L a w' hL hsame hsz hJ hdep hcl
          have gd : valOf _ 26 a = .bool true := hJ.valOf (by decide) (dep_of hdep 26 (by kernel_rfl)) rfl rfl
          have hb := hJ.kept.toBelow (Nat.le_refl _) (by simp)
          have e0 : a.eval (.tmp 123) = (.pointer (some ⟨gP, 2, none⟩)) := eval_slot (j := 31) (by kernel_rfl) (hJ.valOf (by decide) (dep_of hdep 31 (by kernel_rfl)) rfl rfl)
          have hx := hJ.keptBox (BX.out) (by simp)
          have q0 : w'.cell? ⟨gP, 2, none⟩ = some (.int .i64 (fl : Nat)) := hx.cell 2
          refine Step.val _ rfl rfl (wanted_some (g := 26) (b := true) rfl gd) (.int .i64 (fl : Nat)) w' (fun ρ hρ => ?_) (hJ.val hGS hcl hL rfl (Below.refl _ _) _ rfl)
          clear hx
          rw [hρ] at e0
          clear hJ hsame hdep hcl hρ hsz hb gd
          go_simp
        · intro L a w' hL hsame hsz hJ hdep hcl
          have gd : valOf _ 26 a = .bool true := hJ.valOf (by decide) (dep_of hdep 26 (by kernel_rfl)) rfl rfl
          have hb := hJ.kept.toBelow (Nat.le_refl _) (by simp)
          have e0 : a.eval (.tmp 124) = (.int .i64 (fl : Nat)) := eval_slot (j := 32) (by kernel_rfl) (hJ.valOf (by decide) (dep_of hdep 32 (by kernel_rfl)) rfl rfl)
          refine Step.val _ rfl rfl (wanted_some (g := 26) (b := true) rfl gd) (.int .i64 ((fl ||| 8 : Nat) : Int)) w' (fun ρ hρ => ?_) (hJ.val hGS hcl hL rfl (Below.refl _ _) _ rfl)
          rw [hρ] at e0
          have ec0 : ρ (.const (.int .i64 8)) = (.int .i64 8) := (hρ _).symm
          clear hJ hsame hdep hcl hρ hsz hb gd
          go_simp
          exact i64_or_small (y := 8) HOK.out.1 (by decide)
        · intro L a w' hL hsame hsz hJ hdep hcl
          have gd : valOf _ 26 a = .bool true := hJ.valOf (by decide) (dep_of hdep 26 (by kernel_rfl)) rfl rfl
          have hb := hJ.kept.toBelow (Nat.le_refl _) (by simp)
          have e0 : a.eval (.tmp 122) = (.int .i64 ((fl ||| 8 : Nat) : Int)) := eval_slot (j := 30) (by kernel_rfl) (hJ.valOf (by decide) (dep_of hdep 30 (by kernel_rfl)) rfl rfl)
          have e1 : a.eval (.tmp 125) = (.int .i64 ((fl ||| 8 : Nat) : Int)) := eval_slot (j := 33) (by kernel_rfl) (hJ.valOf (by decide) (dep_of hdep 33 (by kernel_rfl)) rfl rfl)
          refine Step.val _ rfl rfl (wanted_some (g := 26) (b := true) rfl gd) (.bool true) w' (fun ρ hρ => ?_) (hJ.val hGS hcl hL rfl (Below.refl _ _) _ rfl)
          rw [hρ] at e0 e1
          clear hJ hsame hdep hcl hρ hsz hb gd
          go_simp
        · intro L a w' hL hsame hsz hJ hdep hcl
          have hb := hJ.kept.toBelow (Nat.le_refl _) (by simp)
          have e0 : a.eval (.tmp 118) = (.bool true) := eval_slot (j := 26) (by kernel_rfl) (hJ.valOf (by decide) (dep_of hdep 26 (by kernel_rfl)) rfl rfl)
          have e1 : a.eval (.tmp 126) = (.bool true) := eval_slot (j := 34) (by kernel_rfl) (hJ.valOf (by decide) (dep_of hdep 34 (by kernel_rfl)) rfl rfl)
          refine Step.val _ rfl rfl (wanted_none rfl) (.bool true) w' (fun ρ hρ => ?_) (hJ.val hGS hcl hL rfl (Below.refl _ _) _ rfl)
          rw [hρ] at e0 e1
          have ec0 : ρ (.const (.bool false)) = (.bool false) := (hρ _).symm
          clear hJ hsame hdep hcl hρ hsz hb
          go_simp
        · intro L a w' hL hsame hsz hJ hdep hcl
          have hb := hJ.kept.toBelow (Nat.le_refl _) (by simp)
          have e0 : a.eval (.tmp 127) = (.bool true) := eval_slot (j := 35) (by kernel_rfl) (hJ.valOf (by decide) (dep_of hdep 35 (by kernel_rfl)) rfl rfl)
          refine Step.val _ rfl rfl (wanted_none rfl) (.bool true) w' (fun ρ hρ => ?_) (hJ.val hGS hcl hL rfl (Below.refl _ _) _ rfl)
          rw [hρ] at e0
          clear hJ hsame hdep hcl hρ hsz hb
          go_simp
        · intro L a w' hL hsame hsz hJ hdep hcl
          have gd : valOf _ 36 a = .bool true := hJ.valOf (by decide) (dep_of hdep 36 (by kernel_rfl)) rfl rfl
          have hb := hJ.kept.toBelow (Nat.le_refl _) (by simp)
          have e0 : a.eval (.tmp 11) = (.pointer (some ⟨gP, 0, none⟩)) := eval_base hsame (by kernel_rfl)
          have hx := hJ.keptBox (BX.out) (by simp)
          have q0 : w'.cell? ⟨gP, 0, none⟩ = some (.int .i64 fo) := hx.cell 0
          have q1 : w'.cell? ⟨gP, 1, none⟩ = some (.int .i64 ba) := hx.cell 1
          have q2 : w'.cell? ⟨gP, 2, none⟩ = some (.int .i64 (fl : Nat)) := hx.cell 2
          refine Step.val _ rfl rfl (wanted_some (g := 36) (b := true) rfl gd) (.agg #[.int .i64 fo, .int .i64 ba, .int .i64 (fl : Nat)]) w' (fun ρ hρ => ?_) (hJ.val hGS hcl hL rfl (Below.refl _ _) _ rfl)
          clear hx
          rw [hρ] at e0
          clear hJ hsame hdep hcl hρ hsz hb gd
          go_simp
        · intro L a w' hL hsame hsz hJ hdep hcl
          have gd : valOf _ 36 a = .bool true := hJ.valOf (by decide) (dep_of hdep 36 (by kernel_rfl)) rfl rfl
          have hb := hJ.kept.toBelow (Nat.le_refl _) (by simp)
          refine Step.val _ rfl rfl (wanted_some (g := 36) (b := true) rfl gd) (.slice (some ⟨w'.heap.size, 0, none⟩) 6 6) (w'.alloc (.cells #[.int .i64 38, .int .i64 2, .int .i64 1, .int .i64 2, .int .i64 256, .int .i64 4] 3)) (fun ρ hρ => ?_) (hJ.pred hGS hcl hL rfl ((Below.refl _ _).alloc (Nat.le_refl _) _) _ (⟨_, rfl, Box.new w' _ _⟩))
          have ec0 : ρ (.const (.int .i64 38)) = (.int .i64 38) := (hρ _).symm
          have ec1 : ρ (.const (.int .i64 2)) = (.int .i64 2) := (hρ _).symm
          have ec2 : ρ (.const (.int .i64 1)) = (.int .i64 1) := (hρ _).symm
          have ec3 : ρ (.const (.int .i64 256)) = (.int .i64 256) := (hρ _).symm
          have ec4 : ρ (.const (.int .i64 4)) = (.int .i64 4) := (hρ _).symm
          clear hJ hsame hdep hcl hρ hsz hb gd
          go_simp
        · intro L a w' hL hsame hsz hJ hdep hcl
          have gd : valOf _ 36 a = .bool true := hJ.valOf (by decide) (dep_of hdep 36 (by kernel_rfl)) rfl rfl
          have hb := hJ.kept.toBelow (Nat.le_refl _) (by simp)
          have e0 : a.eval (.tmp 129) = (.agg #[.int .i64 fo, .int .i64 ba, .int .i64 (fl : Nat)]) := eval_slot (j := 37) (by kernel_rfl) (hJ.valOf (by decide) (dep_of hdep 37 (by kernel_rfl)) rfl rfl)
          obtain ⟨g38, hv38, hs38⟩ := (show (NewS 3 6 #[.int .i64 38, .int .i64 2, .int .i64 1, .int .i64 2, .int .i64 256, .int .i64 4]) (valOf _ 38 a) w' from hJ.predOf (by decide) (dep_of hdep 38 (by kernel_rfl)) rfl)
          have e1 : a.eval (.tmp 130) = .slice (some ⟨g38, 0, none⟩) 6 6 := eval_slot (j := 38) (by kernel_rfl) hv38
          refine Step.call _ rfl rfl (wanted_some (g := 36) (b := true) rfl gd) 8 #[.agg #[.int .i64 fo, .int .i64 ba, .int .i64 (fl : Nat)], .slice (some ⟨g38, 0, none⟩) 6 6] (fun ρ hρ => ?_) ?_
          · skip
            rw [hρ] at e0 e1
            have ef : ρ (.func 8) = .func (.func 8) #[] #[] := (hρ _).symm
            clear hJ hsame hdep hcl hρ hsz hb gd
            go_simp
          · refine (A6.out g38 _ hs38 (HT.out.keep (BLX.out.trans (hb.mono BLX.out.size)))).mono ?_
            rintro e w2 ⟨rfl, bb⟩
            exact ⟨_, rfl, hJ.val hGS hcl hL rfl bb _ rfl⟩
        · intro L a w' hL hsame hsz hJ hdep hcl
          have gd : valOf _ 36 a = .bool true := hJ.valOf (by decide) (dep_of hdep 36 (by kernel_rfl)) rfl rfl
          have hb := hJ.kept.toBelow (Nat.le_refl _) (by simp)
          have e0 : a.eval (.tmp 131) = (.agg #[.int .i64 fo, .int .i64 ba, .int .i64 ((fl ||| 8 : Nat) : Int)]) := eval_slot (j := 39) (by kernel_rfl) (hJ.valOf (by decide) (dep_of hdep 39 (by kernel_rfl)) rfl rfl)
          refine Step.val _ rfl rfl (wanted_some (g := 36) (b := true) rfl gd) (.int .i64 fo) w' (fun ρ hρ => ?_) (hJ.val hGS hcl hL rfl (Below.refl _ _) _ rfl)
          rw [hρ] at e0
          clear hJ hsame hdep hcl hρ hsz hb gd
          go_simp
        · intro L a w' hL hsame hsz hJ hdep hcl
          have gd : valOf _ 36 a = .bool true := hJ.valOf (by decide) (dep_of hdep 36 (by kernel_rfl)) rfl rfl
          have hb := hJ.kept.toBelow (Nat.le_refl _) (by simp)
          have e0 : a.eval (.tmp 11) = (.pointer (some ⟨gP, 0, none⟩)) := eval_base hsame (by kernel_rfl)
          refine Step.val _ rfl rfl (wanted_some (g := 36) (b := true) rfl gd) (.pointer (some ⟨gP, 0, none⟩)) w' (fun ρ hρ => ?_) (hJ.val hGS hcl hL rfl (Below.refl _ _) _ rfl)
          rw [hρ] at e0
          clear hJ hsame hdep hcl hρ hsz hb gd
          go_simp
        · intro L a w' hL hsame hsz hJ hdep hcl
          have gd : valOf _ 36 a = .bool true := hJ.valOf (by decide) (dep_of hdep 36 (by kernel_rfl)) rfl rfl
          have hb := hJ.kept.toBelow (Nat.le_refl _) (by simp)
          have e0 : a.eval (.tmp 133) = (.pointer (some ⟨gP, 0, none⟩)) := eval_slot (j := 41) (by kernel_rfl) (hJ.valOf (by decide) (dep_of hdep 41 (by kernel_rfl)) rfl rfl)
          have hx := hJ.keptBox (BX.out) (by simp)
          have q0 : w'.cell? ⟨gP, 0, none⟩ = some (.int .i64 fo) := hx.cell 0
          refine Step.val _ rfl rfl (wanted_some (g := 36) (b := true) rfl gd) (.int .i64 fo) w' (fun ρ hρ => ?_) (hJ.val hGS hcl hL rfl (Below.refl _ _) _ rfl)
          clear hx
          rw [hρ] at e0
          clear hJ hsame hdep hcl hρ hsz hb gd
          go_simp
        · intro L a w' hL hsame hsz hJ hdep hcl
          have gd : valOf _ 36 a = .bool true := hJ.valOf (by decide) (dep_of hdep 36 (by kernel_rfl)) rfl rfl
          have hb := hJ.kept.toBelow (Nat.le_refl _) (by simp)
          have e0 : a.eval (.tmp 132) = (.int .i64 fo) := eval_slot (j := 40) (by kernel_rfl) (hJ.valOf (by decide) (dep_of hdep 40 (by kernel_rfl)) rfl rfl)
          have e1 : a.eval (.tmp 134) = (.int .i64 fo) := eval_slot (j := 42) (by kernel_rfl) (hJ.valOf (by decide) (dep_of hdep 42 (by kernel_rfl)) rfl rfl)
          refine Step.val _ rfl rfl (wanted_some (g := 36) (b := true) rfl gd) (.bool true) w' (fun ρ hρ => ?_) (hJ.val hGS hcl hL rfl (Below.refl _ _) _ rfl)
          rw [hρ] at e0 e1
          clear hJ hsame hdep hcl hρ hsz hb gd
          go_simp
        · intro L a w' hL hsame hsz hJ hdep hcl
          have hb := hJ.kept.toBelow (Nat.le_refl _) (by simp)
          have e0 : a.eval (.tmp 128) = (.bool true) := eval_slot (j := 36) (by kernel_rfl) (hJ.valOf (by decide) (dep_of hdep 36 (by kernel_rfl)) rfl rfl)
          have e1 : a.eval (.tmp 135) = (.bool true) := eval_slot (j := 43) (by kernel_rfl) (hJ.valOf (by decide) (dep_of hdep 43 (by kernel_rfl)) rfl rfl)
          refine Step.val _ rfl rfl (wanted_none rfl) (.bool true) w' (fun ρ hρ => ?_) (hJ.val hGS hcl hL rfl (Below.refl _ _) _ rfl)
          rw [hρ] at e0 e1
          have ec0 : ρ (.const (.bool false)) = (.bool false) := (hρ _).symm
          clear hJ hsame hdep hcl hρ hsz hb
          go_simp
        · intro L a w' hL hsame hsz hJ hdep hcl
          have hb := hJ.kept.toBelow (Nat.le_refl _) (by simp)
          have e0 : a.eval (.tmp 136) = (.bool true) := eval_slot (j := 44) (by kernel_rfl) (hJ.valOf (by decide) (dep_of hdep 44 (by kernel_rfl)) rfl rfl)
          refine Step.val _ rfl rfl (wanted_none rfl) (.bool true) w' (fun ρ hρ => ?_) (hJ.val hGS hcl hL rfl (Below.refl _ _) _ rfl)
          rw [hρ] at e0
          clear hJ hsame hdep hcl hρ hsz hb
          go_simp
        · intro L a w' hL hsame hsz hJ hdep hcl
          have gd : valOf _ 45 a = .bool true := hJ.valOf (by decide) (dep_of hdep 45 (by kernel_rfl)) rfl rfl
          have hb := hJ.kept.toBelow (Nat.le_refl _) (by simp)
          have e0 : a.eval (.tmp 11) = (.pointer (some ⟨gP, 0, none⟩)) := eval_base hsame (by kernel_rfl)
          have hx := hJ.keptBox (BX.out) (by simp)
          have q0 : w'.cell? ⟨gP, 0, none⟩ = some (.int .i64 fo) := hx.cell 0
          have q1 : w'.cell? ⟨gP, 1, none⟩ = some (.int .i64 ba) := hx.cell 1
          have q2 : w'.cell? ⟨gP, 2, none⟩ = some (.int .i64 (fl : Nat)) := hx.cell 2
          refine Step.val _ rfl rfl (wanted_some (g := 45) (b := true) rfl gd) (.agg #[.int .i64 fo, .int .i64 ba, .int .i64 (fl : Nat)]) w' (fun ρ hρ => ?_) (hJ.val hGS hcl hL rfl (Below.refl _ _) _ rfl)
          clear hx
          rw [hρ] at e0
          clear hJ hsame hdep hcl hρ hsz hb gd
          go_simp
        · intro L a w' hL hsame hsz hJ hdep hcl
          have gd : valOf _ 45 a = .bool true := hJ.valOf (by decide) (dep_of hdep 45 (by kernel_rfl)) rfl rfl
          have hb := hJ.kept.toBelow (Nat.le_refl _) (by simp)
          refine Step.val _ rfl rfl (wanted_some (g := 45) (b := true) rfl gd) (.slice (some ⟨w'.heap.size, 0, none⟩) 1 1) (w'.alloc (.cells #[.int .i64 (-1)] 3)) (fun ρ hρ => ?_) (hJ.pred hGS hcl hL rfl ((Below.refl _ _).alloc (Nat.le_refl _) _) _ (⟨_, rfl, Box.new w' _ _⟩))
          have ec0 : ρ (.const (.int .i64 (-1))) = (.int .i64 (-1)) := (hρ _).symm
          clear hJ hsame hdep hcl hρ hsz hb gd
          go_simp
        · intro L a w' hL hsame hsz hJ hdep hcl
          have gd : valOf _ 45 a = .bool true := hJ.valOf (by decide) (dep_of hdep 45 (by kernel_rfl)) rfl rfl
          have hb := hJ.kept.toBelow (Nat.le_refl _) (by simp)
          have e0 : a.eval (.tmp 138) = (.agg #[.int .i64 fo, .int .i64 ba, .int .i64 (fl : Nat)]) := eval_slot (j := 46) (by kernel_rfl) (hJ.valOf (by decide) (dep_of hdep 46 (by kernel_rfl)) rfl rfl)
          obtain ⟨g47, hv47, hs47⟩ := (show (NewS 3 1 #[.int .i64 (-1)]) (valOf _ 47 a) w' from hJ.predOf (by decide) (dep_of hdep 47 (by kernel_rfl)) rfl)
          have e1 : a.eval (.tmp 139) = .slice (some ⟨g47, 0, none⟩) 1 1 := eval_slot (j := 47) (by kernel_rfl) hv47
          refine Step.call _ rfl rfl (wanted_some (g := 45) (b := true) rfl gd) 8 #[.agg #[.int .i64 fo, .int .i64 ba, .int .i64 (fl : Nat)], .slice (some ⟨g47, 0, none⟩) 1 1] (fun ρ hρ => ?_) ?_
          · skip
            rw [hρ] at e0 e1
            have ef : ρ (.func 8) = .func (.func 8) #[] #[] := (hρ _).symm
            clear hJ hsame hdep hcl hρ hsz hb gd
            go_simp
          · refine (A7.out g47 _ hs47 (HT.out.keep (BLX.out.trans (hb.mono BLX.out.size)))).mono ?_
            rintro e w2 ⟨rfl, bb⟩
            exact ⟨_, rfl, hJ.val hGS hcl hL rfl bb _ rfl⟩
        · intro L a w' hL hsame hsz hJ hdep hcl
          have gd : valOf _ 45 a = .bool true := hJ.valOf (by decide) (dep_of hdep 45 (by kernel_rfl)) rfl rfl
          have hb := hJ.kept.toBelow (Nat.le_refl _) (by simp)
          refine Step.call _ rfl rfl (wanted_some (g := 45) (b := true) rfl gd) 9 #[] (fun ρ hρ => ?_) ?_
          · skip
            have ef : ρ (.func 9) = .func (.func 9) #[] #[] := (hρ _).symm
            clear hJ hsame hdep hcl hρ hsz hb gd
            go_simp
          · refine (rplain10 _).mono ?_
            rintro e w2 ⟨rfl, bb⟩
            exact ⟨_, rfl, hJ.val hGS hcl hL rfl bb _ rfl⟩
        · intro L a w' hL hsame hsz hJ hdep hcl
          have gd : valOf _ 45 a = .bool true := hJ.valOf (by decide) (dep_of hdep 45 (by kernel_rfl)) rfl rfl
          have hb := hJ.kept.toBelow (Nat.le_refl _) (by simp)
          have e0 : a.eval (.tmp 140) = (.agg #[.int .i64 (-1), .int .i64 (-1), .int .i64 0]) := eval_slot (j := 48) (by kernel_rfl) (hJ.valOf (by decide) (dep_of hdep 48 (by kernel_rfl)) rfl rfl)
          have e1 : a.eval (.tmp 141) = (.agg #[.int .i64 (-1), .int .i64 (-1), .int .i64 0]) := eval_slot (j := 49) (by kernel_rfl) (hJ.valOf (by decide) (dep_of hdep 49 (by kernel_rfl)) rfl rfl)
          refine Step.val _ rfl rfl (wanted_some (g := 45) (b := true) rfl gd) (.bool true) w' (fun ρ hρ => ?_) (hJ.val hGS hcl hL rfl (Below.refl _ _) _ rfl)
          rw [hρ] at e0 e1
          clear hJ hsame hdep hcl hρ hsz hb gd
          go_simp
        · intro L a w' hL hsame hsz hJ hdep hcl
          have hb := hJ.kept.toBelow (Nat.le_refl _) (by simp)
          have e0 : a.eval (.tmp 137) = (.bool true) := eval_slot (j := 45) (by kernel_rfl) (hJ.valOf (by decide) (dep_of hdep 45 (by kernel_rfl)) rfl rfl)
          have e1 : a.eval (.tmp 142) = (.bool true) := eval_slot (j := 50) (by kernel_rfl) (hJ.valOf (by decide) (dep_of hdep 50 (by kernel_rfl)) rfl rfl)
          refine Step.val _ rfl rfl (wanted_none rfl) (.bool true) w' (fun ρ hρ => ?_) (hJ.val hGS hcl hL rfl (Below.refl _ _) _ rfl)
          rw [hρ] at e0 e1
          have ec0 : ρ (.const (.bool false)) = (.bool false) := (hρ _).symm
          clear hJ hsame hdep hcl hρ hsz hb
          go_simp
        · intro L a w' hL hsame hsz hJ hdep hcl
          have hb := hJ.kept.toBelow (Nat.le_refl _) (by simp)
          have e0 : a.eval (.tmp 143) = (.bool true) := eval_slot (j := 51) (by kernel_rfl) (hJ.valOf (by decide) (dep_of hdep 51 (by kernel_rfl)) rfl rfl)
          refine Step.val _ rfl rfl (wanted_none rfl) (.bool true) w' (fun ρ hρ => ?_) (hJ.val hGS hcl hL rfl (Below.refl _ _) _ rfl)
          rw [hρ] at e0
          clear hJ hsame hdep hcl hρ hsz hb
          go_simp
        · intro L a w' hL hsame hsz hJ hdep hcl
          have gd : valOf _ 52 a = .bool true := hJ.valOf (by decide) (dep_of hdep 52 (by kernel_rfl)) rfl rfl
          have hb := hJ.kept.toBelow (Nat.le_refl _) (by simp)
          refine Step.call _ rfl rfl (wanted_some (g := 52) (b := true) rfl gd) 3 #[] (fun ρ hρ => ?_) ?_
          · skip
            have ef : ρ (.func 3) = .func (.func 3) #[] #[] := (hρ _).symm
            clear hJ hsame hdep hcl hρ hsz hb gd
            go_simp
          · refine (PRN.out _ (HT.out.keep (BLX.out.trans (hb.mono BLX.out.size)))).mono ?_
            rintro e w2 ⟨rfl, bb⟩
            exact ⟨_, rfl, hJ.val hGS hcl hL rfl bb _ rfl⟩
        · intro L a w' hL hsame hsz hJ hdep hcl
          have hb := hJ.kept.toBelow (Nat.le_refl _) (by simp)
          have e0 : a.eval (.tmp 144) = (.bool true) := eval_slot (j := 52) (by kernel_rfl) (hJ.valOf (by decide) (dep_of hdep 52 (by kernel_rfl)) rfl rfl)
          have e1 : a.eval (.tmp 145) = (.bool true) := eval_slot (j := 53) (by kernel_rfl) (hJ.valOf (by decide) (dep_of hdep 53 (by kernel_rfl)) rfl rfl)
          refine Step.val _ rfl rfl (wanted_none rfl) (.bool true) w' (fun ρ hρ => ?_) (hJ.val hGS hcl hL rfl (Below.refl _ _) _ rfl)
          rw [hρ] at e0 e1
          have ec0 : ρ (.const (.bool false)) = (.bool false) := (hρ _).symm
          clear hJ hsame hdep hcl hρ hsz hb
          go_simp
        · intro L a w' hL hsame hsz hJ hdep hcl
          have hb := hJ.kept.toBelow (Nat.le_refl _) (by simp)
          have e0 : a.eval (.tmp 146) = (.bool true) := eval_slot (j := 54) (by kernel_rfl) (hJ.valOf (by decide) (dep_of hdep 54 (by kernel_rfl)) rfl rfl)
          refine Step.val _ rfl rfl (wanted_none rfl) (.bool true) w' (fun ρ hρ => ?_) (hJ.val hGS hcl hL rfl (Below.refl _ _) _ rfl)
          rw [hρ] at e0
          clear hJ hsame hdep hcl hρ hsz hb
          go_simp
        · intro u w' hF
          change Exit.then _ _ Exit.normal (Act.put (Act.put (Act.put (Act.put (Act.put (Act.put (Act.put (Act.put (Act.put (Act.put (Act.put (Act.put (Act.put (Act.put (Act.put (Act.put (Act.put (Act.put (Act.put (Act.put (Act.put (Act.put (Act.put (Act.put (Act.put (Act.put (Act.put (Act.put (Act.put (Act.put (Act.put (Act.put (Act.put (Act.put (Act.put (Act.put (Act.put (Act.put (Act.put (Act.put (Act.put (Act.put (Act.put (Act.put (Act.put (Act.put (Act.put (Act.put (Act.put (Act.put (Act.put (Act.put (Act.put (Act.put (Act.put (Act.put (putAll _ u 0 _) (some 92) (u 0)) (some 93) (u 1)) (some 94) (u 2)) (some 95) (u 3)) (some 96) (u 4)) (some 97) (u 5)) (some 98) (u 6)) (some 99) (u 7)) (some 100) (u 8)) (some 101) (u 9)) (some 102) (u 10)) (some 103) (u 11)) (some 104) (u 12)) (some 105) (u 13)) (some 106) (u 14)) (some 107) (u 15)) (some 108) (u 16)) (some 109) (u 17)) (some 110) (u 18)) (some 111) (u 19)) (some 112) (u 20)) (some 113) (u 21)) (some 114) (u 22)) (some 115) (u 23)) (some 116) (u 24)) (some 117) (u 25)) (some 118) (u 26)) (some 119) (u 27)) (some 120) (u 28)) (some 121) (u 29)) (some 122) (u 30)) (some 123) (u 31)) (some 124) (u 32)) (some 125) (u 33)) (some 126) (u 34)) (some 127) (u 35)) (some 128) (u 36)) (some 129) (u 37)) (some 130) (u 38)) (some 131) (u 39)) (some 132) (u 40)) (some 133) (u 41)) (some 134) (u 42)) (some 135) (u 43)) (some 136) (u 44)) (some 137) (u 45)) (some 138) (u 46)) (some 139) (u 47)) (some 140) (u 48)) (some 141) (u 49)) (some 142) (u 50)) (some 143) (u 51)) (some 144) (u 52)) (some 145) (u 53)) (some 146) (u 54)) (some 10) (u 55)) _
          simp only [putAll]
          have f : u 55 = .bool true := hF.fin0 (j := 55) (by decide) rfl rfl
          have hk := hF.kept.toBelow (Nat.le_refl _) (by simp)
          clear hF
          generalize u 55 = z55 at f ⊢
          generalize u 0 = z0
          generalize u 1 = z1
          generalize u 2 = z2
          generalize u 3 = z3
          generalize u 4 = z4
          generalize u 5 = z5
          generalize u 6 = z6
          generalize u 7 = z7
          generalize u 8 = z8
          generalize u 9 = z9
          generalize u 10 = z10
          generalize u 11 = z11
          generalize u 12 = z12
          generalize u 13 = z13
          generalize u 14 = z14
          generalize u 15 = z15
          generalize u 16 = z16
          generalize u 17 = z17
          generalize u 18 = z18
          generalize u 19 = z19
          generalize u 20 = z20
          generalize u 21 = z21
          generalize u 22 = z22
          generalize u 23 = z23
          generalize u 24 = z24
          generalize u 25 = z25
          generalize u 26 = z26
          generalize u 27 = z27
          generalize u 28 = z28
          generalize u 29 = z29
          generalize u 30 = z30
          generalize u 31 = z31
          generalize u 32 = z32
          generalize u 33 = z33
          generalize u 34 = z34
          generalize u 35 = z35
          generalize u 36 = z36
          generalize u 37 = z37
          generalize u 38 = z38
          generalize u 39 = z39
          generalize u 40 = z40
          generalize u 41 = z41
          generalize u 42 = z42
          generalize u 43 = z43
          generalize u 44 = z44
          generalize u 45 = z45
          generalize u 46 = z46
          generalize u 47 = z47
          generalize u 48 = z48
          generalize u 49 = z49
          generalize u 50 = z50
          generalize u 51 = z51
          generalize u 52 = z52
          generalize u 53 = z53
          generalize u 54 = z54
          go_simp
          go_step
          go_meet
          exact ⟨by first | rfl | exact f, BLX.out.trans (hk.mono BLX.out.size)⟩
      case rest =>
        obtain ⟨rfl, b9⟩ := hcut
        go_wp2_with fail
        go_ret
        exact ⟨rfl, b9⟩
theorem penColours_any (a0 a1 a2 n r g b : Int) (w : World) (h0 : (Lit.int .i64 a0).wf = true) (h1 : (Lit.int .i64 a1).wf = true) (h2 : (Lit.int .i64 a2).wf = true) (hn : (Lit.int .i64 n).wf = true) (hr : (Lit.int .i64 r).wf = true) (hg : (Lit.int .i64 g).wf = true) (hb : (Lit.int .i64 b).wf = true) (hFT : FlagT w) :
    Calls Tryd.prog 7 #[.agg #[.int .i64 a0, .int .i64 a1, .int .i64 a2], .int .i64 n, .int .i64 r, .int .i64 g, .int .i64 b] w fun e w' => e = .returned (.bool true) ∧ Below w.heap.size w w' := by
  have e1 : a2 % 256 = (((a2 % 256).toNat : Nat) : Int) := by omega
  have K1 := pen_given10 h0 h1 h2
  rw [e1] at K1
  obtain ⟨n0, n1⟩ := bounds_i64 hn
  obtain ⟨r0, r1⟩ := bounds_i64 hr
  obtain ⟨g0, g1⟩ := bounds_i64 hg
  obtain ⟨b0, b1⟩ := bounds_i64 hb
  obtain ⟨c, hc⟩ : ∃ k : Nat, 0 + n % (255 - 0 + 1) = (k : Int) := ⟨(0 + n % (255 - 0 + 1)).toNat, by omega⟩
  obtain ⟨x, hx⟩ : ∃ k : Nat, 0 + r % (255 - 0 + 1) = (k : Int) := ⟨(0 + r % (255 - 0 + 1)).toNat, by omega⟩
  obtain ⟨y, hy⟩ : ∃ k : Nat, 0 + g % (255 - 0 + 1) = (k : Int) := ⟨(0 + g % (255 - 0 + 1)).toNat, by omega⟩
  obtain ⟨z, hz⟩ : ∃ k : Nat, 0 + b % (255 - 0 + 1) = (k : Int) := ⟨(0 + b % (255 - 0 + 1)).toNat, by omega⟩
  exact penColours_t a0 a1 a2 n r g b _ _ _ c x y z w (pr_given a0 a1 a2) hFT (hide penRuns_any) K1 (fun w' => within_is n 0 255 _ hc w' n0 n1 (by omega) (by omega) (by omega)) (fun w' => within_is r 0 255 _ hx w' r0 r1 (by omega) (by omega) (by omega)) (fun w' => within_is g 0 255 _ hy w' g0 g1 (by omega) (by omega) (by omega)) (fun w' => within_is b 0 255 _ hz w' b0 b1 (by omega) (by omega) (by omega)) (by omega) (by omega) (by omega) (by omega)
end Go.Proofs.YtnjkongbccblaaaDoor
