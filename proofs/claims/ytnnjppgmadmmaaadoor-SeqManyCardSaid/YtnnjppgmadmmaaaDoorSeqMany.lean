/- SeqMany: what Csi and Set make is right; what is printed of it. -/
import Derived.Test.YtnnjppgmadmmaaaDoorSeqArgs
import Derived.Test.YtnnjppgmadmmaaaDoorInReg
import Derived.Test.YtnnjppgmadmmaaaDoorStrCut
import Derived.Deep.RegionHeldLaw
set_option maxRecDepth 100000
namespace Go.Proofs.YtnnjppgmadmmaaaDoor
open Go.RowKit
set_option linter.unusedVariables false
def manyNum (x : Int) : Int := 0 + x % 65536
def manyNums (l : List Int) (k : Nat) : List Int := (l.take k).map manyNum
theorem manyNums_snoc {l : List Int} {k : Nat} {x : Int} (hx : l[k]? = some x) : manyNums l (k + 1) = manyNums l k ++ [manyNum x] := by
  unfold manyNums
  rw [List.take_add_one, hx]
  simp
theorem manyNums_bd (l : List Int) (k : Nat) : ∀ x ∈ manyNums l k, 0 ≤ x ∧ x ≤ 65535 := by
  intro x hx
  obtain ⟨y, _, rfl⟩ := List.mem_map.1 hx
  unfold manyNum
  omega
/-- the call's own parameters -/
def OwnMany (w : World) (l : List Int) (t : Value) (wr : World) : Prop := ∃ k : Nat, k ≤ 16 ∧ k ≤ l.length ∧ wr.ownsRow w.heap.size 3 1 t k (i64s (manyNums l k)) ∧ Below w.heap.size w wr
theorem csi_none {l : List Int} (h : ∀ x ∈ l, 0 ≤ x ∧ x ≤ 65535) : csiParams l = l := by
  unfold csiParams
  rw [if_neg]
  rintro rfl
  have := h (-1) (by simp)
  omega
theorem printed_app (a b : List PA.Ev) : printed (a ++ b) = printed a ++ printed b := List.filter_append ..
theorem bad_csi {f : Int} {ps : List Int} : PA.rightB ⟨4, 0, 0, 0, f, ps ++ [65536], []⟩ = false := by
  rw [rb4, show decide (okParams (ps ++ [65536])) = false from decide_eq_false (fun h => by have := h.2.1 65536 (by simp); omega)]
  simp
/-- the two texts -/
def TwoTexts (a b : List Int) (W : World) (u v : Value) (wx : World) : Prop := u = .string (strOfNums a) ∧ v = .string (strOfNums b) ∧ InReg W wx
set_option maxHeartbeats 8000000 in
theorem seqMany_any (A0 : Option Addr) (n0 c0 : Nat) (l0 : List Int) (f0 : Int) (on : Bool) (w : World) (hA : Arg .i64 w A0 n0 c0 l0) (w1 : (Lit.int .u8 f0).wf = true) (ht : Tens w) :
    Calls Tryd.prog 7 #[.slice A0 n0 c0, .int .u8 f0, .bool on] w fun e w' => e = .returned (.bool true) ∧ Below w.heap.size w w' := by
  obtain ⟨i0, hi, hz0, hz1, hz2⟩ := info_parts info_i64
  have b5 := bounds_u8 w1
  have HA := hide hA
  have HT := hide ht
  have hcap := hA.cap
  have hle := hA.le
  unfold maxLen at hcap
  clear hA ht w1
  go_enter Tryd.func7, Tryd.ntmps7
  go_upto_block 0 with fail
  go_cut [7] (fun u wx => OwnMany w l0 u wx)
  case first =>
    go_wp2_with fail
    go_loopw [7, 8] (fun u i wr => ∃ k : Nat, k ≤ 16 ∧ k ≤ n0 ∧ i = .int .i64 k ∧ wr.ownsRow w.heap.size 3 1 u k (i64s (manyNums l0 k)) ∧ Below w.heap.size w wr) (fun _ i _ => 16 - (intOf i).toNat)
    case atStart => exact ⟨0, by omega, Nat.zero_le _, rfl, World.ownsRow_nil _ _ _ _, Below.refl _ _⟩
    case round =>
      obtain ⟨k, hk, hkn, rfl, ho, b0⟩ := hrel
      have cs : n0 ≤ k ∨ (k < n0 ∧ 16 ≤ k) ∨ (k < n0 ∧ k < 16) := by omega
      rcases cs with h | ⟨h, h'⟩ | ⟨h, h'⟩
      · go_wp2_with fail
        go_meet
        exact ⟨k, hk, by rw [HA.out.len]; exact hkn, ho, b0⟩
      · go_wp2_with fail
        go_meet
        exact ⟨k, hk, by rw [HA.out.len]; exact hkn, ho, b0⟩
      · obtain ⟨ad, u, rfl, _, hu, hc⟩ := (HA.out.seen.below b0).at_ h
        rw [List.getElem?_map] at hu
        obtain ⟨x, hx, rfl⟩ := Option.map_eq_some_iff.1 hu
        have hxr := bounds_i64 (HA.out.wf x (List.mem_of_getElem? hx))
        obtain ⟨y, hy, hyb⟩ : ∃ y : Int, 0 + x % (65535 - 0 + 1) = y ∧ 0 ≤ y ∧ y ≤ 65535 := ⟨0 + x % 65536, rfl, by omega, by omega⟩
        have WI := hide (fun w' => within_is x 0 65535 y hy w' hxr.1 hxr.2 (by omega) (by omega) (by omega))
        have HS := hide (show manyNums l0 (k + 1) = manyNums l0 k ++ [y] by rw [manyNums_snoc hx, ← hy]; rfl)
        clear hu hx hy
        go_wp2_with (first
          | (go_at_call 23; go_must (refine (WI.out _).mono ?_); rintro e w' ⟨rfl, rfl⟩)
          | (at_builtin; go_must (refine wpList_app1 rfl (.tmp 26) (.tmp 32) 22 rfl w.heap.size 3 i0 _ 8 Tryd.underlying22 hi hz0 hz1 hz2 rfl u7 _ _ rfl ho _ _ _ rfl rfl rfl (by omega) (by omega) b0.size ?_); intro v' w1 hown1 hg1 hm1))
        go_roundw
        case rel => exact ⟨k + 1, by omega, by omega, by go_num, by rw [HS.out]; simpa [i64s] using hown1, b0.grown hg1 b0.size (fun g hg => (ho.lt g hg).1)⟩
        case measure => simp [intOf]; omega
  case rest =>
    obtain ⟨k, hk16, hkl, ho, B0⟩ := hcut
    obtain ⟨A1, c1, rfl, _⟩ := own_form ho
    have hbd := manyNums_bd l0 k
    have hlen : (manyNums l0 k).length = k := by simp [manyNums]; omega
    have hs := Seen.of_own ho
    generalize manyNums l0 k = ps at *
    have hr : f0.tmod 63 = f0 % 63 := Int.tmod_eq_emod_of_nonneg b5.1
    obtain ⟨r, hr', hr0, hr1⟩ : ∃ r : Int, f0 % 63 = r ∧ 0 ≤ r ∧ r < 63 := ⟨_, rfl, by omega, by omega⟩
    rw [hr'] at hr
    have CS := hide (csi_is (f := 64 + r) (A := A1) (n := k) (c := c1) (l := ps) (w := wc) ps k (csi_none hbd) hlen hs (by omega))
    obtain ⟨fl, hfl, hflb⟩ : ∃ fl : Int, (if on = true then (104 : Int) else 108) = fl ∧ 64 ≤ fl ∧ fl ≤ 126 := ⟨_, rfl, by split <;> omega, by split <;> omega⟩
    have ST := hide (fun (w' : World) (h : Seen w' w'.heap.size A1 k (i64s ps)) => set_is (p := 63) (on := on) (A := A1) (n := k) (c := c1) (l := ps) (w := w') fl k hfl hlen h (by omega))
    have HLN := hide hlen
    have HBD := hide hbd
    have HFL := hide hfl
    clear hlen hbd hr' hfl
    go_wp2_with fail
    refine CS.out.mono ?_
    rintro e w1 ⟨A2, c2, rfl, _, p2, bb⟩
    have S1 := hide ((hs.below bb).more bb.size)
    have B1 := hide (B0.trans (bb.mono B0.size))
    have P1 := hide p2
    clear hs bb p2 ho CS B0
    go_wp2_with fail
    refine (ST.out w1 S1.out).mono ?_
    rintro e w2 ⟨A3, c3, rfl, _, p3, bb⟩
    have S2 := hide ((S1.out.below bb).more bb.size)
    have B2 := hide (B1.out.trans (bb.mono B1.out.size))
    have P2 := hide ((P1.out.below bb).more bb.size)
    have Q2 := hide p3
    clear bb p3 ST S1 P1 B1 hr
    go_upto_region 8 with fail
    have bE := (Box.new w2 24 #[.int .i64 4, .int .i32 0, .int .u8 0, .int .u8 0, .int .u8 (64 + r), .slice A2 k c2, .string ⟨#[]⟩]).alloc (.cells #[.int .i64 4, .int .i32 0, .int .u8 63, .int .u8 0, .int .u8 fl, .slice A3 k c3, .string ⟨#[]⟩] 24)
    have bS := Box.fresh (w := w2.alloc (.cells #[.int .i64 4, .int .i32 0, .int .u8 0, .int .u8 0, .int .u8 (64 + r), .slice A2 k c2, .string ⟨#[]⟩] 24)) (t := 24) (cs := #[.int .i64 4, .int .i32 0, .int .u8 63, .int .u8 0, .int .u8 fl, .slice A3 k c3, .string ⟨#[]⟩]) (g := w2.heap.size + 1) (by simp)
    have bb : Below w2.heap.size w2 ((w2.alloc (.cells #[.int .i64 4, .int .i32 0, .int .u8 0, .int .u8 0, .int .u8 (64 + r), .slice A2 k c2, .string ⟨#[]⟩] 24)).alloc (.cells #[.int .i64 4, .int .i32 0, .int .u8 63, .int .u8 0, .int .u8 fl, .slice A3 k c3, .string ⟨#[]⟩] 24)) := ((Below.refl _ _).alloc (Nat.le_refl _) _).alloc (by simp) _
    generalize (w2.alloc (.cells #[.int .i64 4, .int .i32 0, .int .u8 0, .int .u8 0, .int .u8 (64 + r), .slice A2 k c2, .string ⟨#[]⟩] 24)).alloc (.cells #[.int .i64 4, .int .i32 0, .int .u8 63, .int .u8 0, .int .u8 fl, .slice A3 k c3, .string ⟨#[]⟩] 24) = w3 at bE bS bb ⊢
    have S3 := hide ((S2.out.below bb).more bb.size)
    have B3 := hide (B2.out.trans (bb.mono B2.out.size))
    have P3 := hide ((P2.out.below bb).more bb.size)
    have Q3 := hide ((Q2.out.below bb).more bb.size)
    have BE := hide bE
    have BS := hide bS
    generalize w2.heap.size + 1 = gS at BS ⊢
    generalize w2.heap.size = gE at BE ⊢
    clear bb bE bS S2 B2 P2 Q2
    have hrE : PA.Right ⟨4, 0, 0, 0, 64 + r, ps, []⟩ := .inr (.inr (.inr (.inl ⟨0, 0, 64 + r, ps, rfl, .inl rfl, .inl rfl, by omega, by omega, by have := HLN.out; omega, fun x hx => by have := HBD.out x hx; omega, fun e => by have := HBD.out (-1) (by rw [e]; simp); omega⟩)))
    have hrS : PA.Right ⟨4, 0, 63, 0, fl, ps, []⟩ := .inr (.inr (.inr (.inl ⟨63, 0, fl, ps, rfl, .inr (by omega), .inl rfl, by omega, by omega, by have := HLN.out; omega, fun x hx => by have := HBD.out x hx; omega, fun e => by have := HBD.out (-1) (by rw [e]; simp); omega⟩)))
    obtain ⟨bsE, mE, hbE, hmE⟩ : ∃ bs m, PA.bytesOf ⟨4, 0, 0, 0, 64 + r, ps, []⟩ = bs ∧ bs.length = m := ⟨_, _, rfl, rfl⟩
    obtain ⟨bsS, mS, hbS, hmS⟩ : ∃ bs m, PA.bytesOf ⟨4, 0, 63, 0, fl, ps, []⟩ = bs ∧ bs.length = m := ⟨_, _, rfl, rfl⟩
    have pE : PA.bytesAll (printed [⟨4, 0, 0, 0, 64 + r, ps, []⟩]) = bsE := by rw [← hbE]; unfold printed; rw [List.filter_cons_of_pos (PA.right_rightB hrE)]; simp [PA.bytesAll]
    have pS : PA.bytesAll (printed [⟨4, 0, 63, 0, fl, ps, []⟩]) = bsS := by rw [← hbS]; unfold printed; rw [List.filter_cons_of_pos (PA.right_rightB hrS)]; simp [PA.bytesAll]
    have PE := hide (fun (g : Nat) (w' : World) (ix : InReg w3 w') (bx : Box w' g 24 #[.int .i64 4, .int .i32 0, .int .u8 0, .int .u8 0, .int .u8 (64 + r), .slice A2 k c2, .string ⟨#[]⟩]) => print_is (n := 1) (c := 1) [⟨4, 0, 0, 0, 64 + r, ps, []⟩] bsE mE pE hmE rfl (seenE_block (n := 1) (M := [(⟨4, 0, 0, 0, 64 + r, ps, []⟩, .slice A2 k c2)]) bx rfl rfl (one_par HLN.out ((P3.out.below ix).more ix.size) (by omega))) (one_fits ⟨by simp; omega, by simp⟩) (by omega) (HT.out.keep (B3.out.trans (Below.mono ix B3.out.size))))
    have PS := hide (fun (g : Nat) (w' : World) (ix : InReg w3 w') (bx : Box w' g 24 #[.int .i64 4, .int .i32 0, .int .u8 63, .int .u8 0, .int .u8 fl, .slice A3 k c3, .string ⟨#[]⟩]) => print_is (n := 1) (c := 1) [⟨4, 0, 63, 0, fl, ps, []⟩] bsS mS pS hmS rfl (seenE_block (n := 1) (M := [(⟨4, 0, 63, 0, fl, ps, []⟩, .slice A3 k c3)]) bx rfl rfl (one_par HLN.out ((Q3.out.below ix).more ix.size) (by omega))) (one_fits ⟨by simp; omega, by simp⟩) (by omega) (HT.out.keep (B3.out.trans (Below.mono ix B3.out.size))))
    have HRE := hide (And.intro hrE (And.intro hbE (And.intro hmE pE)))
    have HRS := hide (And.intro hrS (And.intro hbS (And.intro hmS pS)))
    clear hrE hrS hbE hbS hmE hmS pE pS
    go_cut [12, 13] (fun u v wx => TwoTexts bsE bsS w3 u v wx)
    case first =>
      have RE0 : ∀ w', InReg w3 w' → w'.cell? ⟨gE, 0, none⟩ = some (.int .i64 4) := fun w' h => (h.cell BE.out.lt).trans (BE.out.cell 0)
      have RE1 : ∀ w', InReg w3 w' → w'.cell? ⟨gE, 1, none⟩ = some (.int .i32 0) := fun w' h => (h.cell BE.out.lt).trans (BE.out.cell 1)
      have RE2 : ∀ w', InReg w3 w' → w'.cell? ⟨gE, 2, none⟩ = some (.int .u8 0) := fun w' h => (h.cell BE.out.lt).trans (BE.out.cell 2)
      have RE3 : ∀ w', InReg w3 w' → w'.cell? ⟨gE, 3, none⟩ = some (.int .u8 0) := fun w' h => (h.cell BE.out.lt).trans (BE.out.cell 3)
      have RE4 : ∀ w', InReg w3 w' → w'.cell? ⟨gE, 4, none⟩ = some (.int .u8 (64 + r)) := fun w' h => (h.cell BE.out.lt).trans (BE.out.cell 4)
      have RE5 : ∀ w', InReg w3 w' → w'.cell? ⟨gE, 5, none⟩ = some (.slice A2 k c2) := fun w' h => (h.cell BE.out.lt).trans (BE.out.cell 5)
      have RE6 : ∀ w', InReg w3 w' → w'.cell? ⟨gE, 6, none⟩ = some (.string ⟨#[]⟩) := fun w' h => (h.cell BE.out.lt).trans (BE.out.cell 6)
      have RS0 : ∀ w', InReg w3 w' → w'.cell? ⟨gS, 0, none⟩ = some (.int .i64 4) := fun w' h => (h.cell BS.out.lt).trans (BS.out.cell 0)
      have RS1 : ∀ w', InReg w3 w' → w'.cell? ⟨gS, 1, none⟩ = some (.int .i32 0) := fun w' h => (h.cell BS.out.lt).trans (BS.out.cell 1)
      have RS2 : ∀ w', InReg w3 w' → w'.cell? ⟨gS, 2, none⟩ = some (.int .u8 63) := fun w' h => (h.cell BS.out.lt).trans (BS.out.cell 2)
      have RS3 : ∀ w', InReg w3 w' → w'.cell? ⟨gS, 3, none⟩ = some (.int .u8 0) := fun w' h => (h.cell BS.out.lt).trans (BS.out.cell 3)
      have RS4 : ∀ w', InReg w3 w' → w'.cell? ⟨gS, 4, none⟩ = some (.int .u8 fl) := fun w' h => (h.cell BS.out.lt).trans (BS.out.cell 4)
      have RS5 : ∀ w', InReg w3 w' → w'.cell? ⟨gS, 5, none⟩ = some (.slice A3 k c3) := fun w' h => (h.cell BS.out.lt).trans (BS.out.cell 5)
      have RS6 : ∀ w', InReg w3 w' → w'.cell? ⟨gS, 6, none⟩ = some (.string ⟨#[]⟩) := fun w' h => (h.cell BS.out.lt).trans (BS.out.cell 6)
      have hd : InReg w3 w3.drew := (InReg.refl _).drew
      have hX := Lib.hid hd
      have hA1 : InReg w3 ((w3.alloc (.cells #[.int .i64 4, .int .i32 0, .int .u8 0, .int .u8 0, .int .u8 (64 + r), .slice A2 k c2, .string ⟨#[]⟩] 24)).drew) := ((InReg.refl _).alloc _).drew
      have hA2 : InReg w3 ((w3.alloc (.cells #[.int .i64 4, .int .i32 0, .int .u8 63, .int .u8 0, .int .u8 fl, .slice A3 k c3, .string ⟨#[]⟩] 24)).drew) := ((InReg.refl _).alloc _).drew
      have hA3 : InReg w3 (((w3.alloc (.cells #[.int .i64 4, .int .i32 0, .int .u8 0, .int .u8 0, .int .u8 (64 + r), .slice A2 k c2, .string ⟨#[]⟩] 24)).alloc (.cells #[.int .i64 4, .int .i32 0, .int .u8 63, .int .u8 0, .int .u8 fl, .slice A3 k c3, .string ⟨#[]⟩] 24)).drew) := (((InReg.refl _).alloc _).alloc _).drew
      have hA4 : InReg w3 (((w3.alloc (.cells #[.int .i64 4, .int .i32 0, .int .u8 63, .int .u8 0, .int .u8 fl, .slice A3 k c3, .string ⟨#[]⟩] 24)).alloc (.cells #[.int .i64 4, .int .i32 0, .int .u8 0, .int .u8 0, .int .u8 (64 + r), .slice A2 k c2, .string ⟨#[]⟩] 24)).drew) := (((InReg.refl _).alloc _).alloc _).drew
      have hA5 := hd
      go_region_held_law (fun w' => InReg w3 w')
        (first | with_reducible exact hd | with_reducible exact hA1 | with_reducible exact hA2 | with_reducible exact hA3 | with_reducible exact hA4 | with_reducible exact hA5 | with_reducible exact hX.out)
        (first
          | (go_at_call 10; refine (PE.out _ _ (by assumption) ?_).mono ?_; (first | exact (Box.new w3 24 #[.int .i64 4, .int .i32 0, .int .u8 0, .int .u8 0, .int .u8 (64 + r), .slice A2 k c2, .string ⟨#[]⟩]).drew | exact ((Box.new w3 24 #[.int .i64 4, .int .i32 0, .int .u8 0, .int .u8 0, .int .u8 (64 + r), .slice A2 k c2, .string ⟨#[]⟩]).alloc _).drew | exact (Box.fresh (w := w3.alloc (.cells #[.int .i64 4, .int .i32 0, .int .u8 63, .int .u8 0, .int .u8 fl, .slice A3 k c3, .string ⟨#[]⟩] 24)) (by simp)).drew); rintro e wb ⟨Ab, cb, rfl, _, hpb, bb⟩; have hX := Lib.hid (InReg.call (show InReg w3 _ from by assumption) bb); have hA5 := hX.out.alloc (.cells #[.int .i64 4, .int .i32 0, .int .u8 63, .int .u8 0, .int .u8 fl, .slice A3 k c3, .string ⟨#[]⟩] 24); have cvE0 := conv_seen (c := cb) hpb; have cvE1 := fun o => conv_seen (c := cb) (hpb.alloc (Nat.le_refl _) o); have HPB := Lib.hid hpb; (try (have bfS := (Box.fresh (w := w3.alloc (.cells #[.int .i64 4, .int .i32 0, .int .u8 0, .int .u8 0, .int .u8 (64 + r), .slice A2 k c2, .string ⟨#[]⟩] 24)) (t := 24) (cs := #[.int .i64 4, .int .i32 0, .int .u8 63, .int .u8 0, .int .u8 fl, .slice A3 k c3, .string ⟨#[]⟩]) (g := w3.heap.size + 1) (by simp)).drew.below bb (by simp))); (try (have bfT := ((Box.new w3 24 #[.int .i64 4, .int .i32 0, .int .u8 63, .int .u8 0, .int .u8 fl, .slice A3 k c3, .string ⟨#[]⟩]).alloc (.cells #[.int .i64 4, .int .i32 0, .int .u8 0, .int .u8 0, .int .u8 (64 + r), .slice A2 k c2, .string ⟨#[]⟩] 24)).drew.below bb (by simp; omega))))
          | (go_at_call 10; refine (PS.out _ _ (by assumption) ?_).mono ?_; (first | exact bfS | exact bfT | exact Box.new wb 24 #[.int .i64 4, .int .i32 0, .int .u8 63, .int .u8 0, .int .u8 fl, .slice A3 k c3, .string ⟨#[]⟩]); rintro e wd ⟨Ad, cd, rfl, _, hpd, bd⟩; have hX := Lib.hid (InReg.call (show InReg w3 _ from by assumption) bd); have cvS0 := conv_seen (c := cd) hpd; (try (have cvE2 := conv_seen (c := cb) (HPB.out.below bd))); (try (have cvE3 := conv_seen (c := cb) ((HPB.out.alloc (Nat.le_refl _) (.cells #[.int .i64 4, .int .i32 0, .int .u8 63, .int .u8 0, .int .u8 fl, .slice A3 k c3, .string ⟨#[]⟩] 24)).below (bd.mono (by simp)))))))
      all_goals
        go_wp2_with fail
        go_meet
        exact ⟨rfl, rfl, hX.out⟩
    case rest =>
      obtain ⟨rfl, rfl, ix⟩ := hcut
      have S4 := hide ((S3.out.below ix).more ix.size)
      have B4 := hide (B3.out.trans (Below.mono ix B3.out.size))
      have P4 := hide ((P3.out.below ix).more ix.size)
      have Q4 := hide ((Q3.out.below ix).more ix.size)
      have BE4 := hide (BE.out.below ix BE.out.lt)
      have BS4 := hide (BS.out.below ix BS.out.lt)
      have RE := hide (fun (w' : World) (h : Seen w' w'.heap.size A2 k (i64s ps)) => right_any 4 0 0 0 (64 + r) A2 k c2 ps [] w' h (by omega) (by omega) (by simp))
      have RS := hide (fun (w' : World) (h : Seen w' w'.heap.size A3 k (i64s ps)) => right_any 4 0 63 0 fl A3 k c3 ps [] w' h (by omega) (by omega) (by simp))
      rw [PA.right_rightB HRE.out.1] at RE
      rw [PA.right_rightB HRS.out.1] at RS
      obtain ⟨sE, hsE⟩ : ∃ s, strOfNums bsE = s := ⟨_, rfl⟩
      obtain ⟨sS, hsS⟩ : ∃ s, strOfNums bsS = s := ⟨_, rfl⟩
      rw [hsE, hsS]
      have HSE := hide hsE
      have HSS := hide hsS
      obtain ⟨k0, k1, k2, k3, k4, k5, k6⟩ := Box.seven BE4.out
      clear hsE hsS ix S3 B3 P3 Q3 BE BS
      go_wp2_with fail
      refine (RE.out _ P4.out).mono ?_
      rintro e w4 ⟨rfl, bb⟩
      have S5 := hide ((S4.out.below bb).more bb.size)
      have B5 := hide (B4.out.trans (bb.mono B4.out.size))
      have P5 := hide ((P4.out.below bb).more bb.size)
      have Q5 := hide ((Q4.out.below bb).more bb.size)
      have BE5 := hide (BE4.out.below bb BE4.out.lt)
      have BS5 := hide (BS4.out.below bb BS4.out.lt)
      obtain ⟨j0, j1, j2, j3, j4, j5, j6⟩ := Box.seven BS5.out
      clear bb k0 k1 k2 k3 k4 k5 k6 S4 B4 P4 Q4 BE4 BS4
      go_wp2_with fail
      refine (RS.out _ Q5.out).mono ?_
      rintro e w5 ⟨rfl, bb⟩
      have S6 := hide ((S5.out.below bb).more bb.size)
      have B6 := hide (B5.out.trans (bb.mono B5.out.size))
      have P6 := hide ((P5.out.below bb).more bb.size)
      have Q6 := hide ((Q5.out.below bb).more bb.size)
      have BE6 := hide (BE5.out.below bb BE5.out.lt)
      have BS6 := hide (BS5.out.below bb BS5.out.lt)
      clear bb j0 j1 j2 j3 j4 j5 j6 S5 B5 P5 Q5 BE5 BS5
      have zE : sE.size = mE := by rw [← HSE.out, strOfNums_size, HRE.out.2.2.1]
      have zS : sS.size = mS := by rw [← HSS.out, strOfNums_size, HRS.out.2.2.1]
      have fE : bsE = 27 :: 91 :: PA.joined ps ++ [64 + r] := by rw [← HRE.out.2.1]; show 27 :: 91 :: [] ++ PA.joined ps ++ [] ++ [64 + r] = _; simp
      have fS : bsS = 27 :: 91 :: 63 :: PA.joined ps ++ [fl] := by rw [← HRS.out.2.1]; show 27 :: 91 :: [63] ++ PA.joined ps ++ [] ++ [fl] = _; simp
      have jl := joined_len ps
      have hpk := HLN.out
      obtain ⟨nE, rfl, nE2, nE9⟩ : ∃ n, mE = n + 1 ∧ 2 ≤ n ∧ n ≤ 4200 := ⟨mE - 1, by have : mE = bsE.length := HRE.out.2.2.1.symm; rw [fE] at this; simp at this; omega, by have : mE = bsE.length := HRE.out.2.2.1.symm; rw [fE] at this; simp at this; omega, by have : mE = bsE.length := HRE.out.2.2.1.symm; rw [fE] at this; simp at this; omega⟩
      obtain ⟨nS, rfl, nS3, nS9⟩ : ∃ n, mS = n + 1 ∧ 3 ≤ n ∧ n ≤ 4200 := ⟨mS - 1, by have : mS = bsS.length := HRS.out.2.2.1.symm; rw [fS] at this; simp at this; omega, by have : mS = bsS.length := HRS.out.2.2.1.symm; rw [fS] at this; simp at this; omega, by have : mS = bsS.length := HRS.out.2.2.1.symm; rw [fS] at this; simp at this; omega⟩
      have xE : (sE.extract 0 2).toList = [27, 91] := by rw [← HSE.out, str_head, fE]; rfl
      have xS : (sS.extract 0 3).toList = [27, 91, 63] := by rw [← HSS.out, str_head, fS]; rfl
      have aE : ∀ h : nE < sE.size, ((sE[nE]'h).toNat : Int) = 64 + r := by
        rw [← HSE.out]
        intro h
        refine str_at bsE nE (64 + r) ?_ (by omega) (by omega) h
        have : nE = (27 :: 91 :: PA.joined ps).length := by have := HRE.out.2.2.1; rw [fE] at this; simp at this ⊢; omega
        rw [fE, this]
        exact List.getElem?_concat_length
      have aS : ∀ h : nS < sS.size, ((sS[nS]'h).toNat : Int) = fl := by
        rw [← HSS.out]
        intro h
        refine str_at bsS nS fl ?_ (by omega) (by omega) h
        have : nS = (27 :: 91 :: 63 :: PA.joined ps).length := by have := HRS.out.2.2.1; rw [fS] at this; simp at this ⊢; omega
        rw [fS, this]
        exact List.getElem?_concat_length
      have dl : ((fl == 104) : Bool) = on := by rw [← HFL.out]; cases on <;> simp
      have FE := hide fE
      have FS := hide fS
      clear fE fS jl hpk
      go_upto_if 99 with fail
      clear xE xS aE aS dl zE zS RE RS
      obtain ⟨k0, k1, k2, k3, k4, k5, k6⟩ := Box.seven BE6.out
      obtain ⟨j0, j1, j2, j3, j4, j5, j6⟩ := Box.seven BS6.out
      have p2 : PA.bytesAll (printed [⟨4, 0, 0, 0, 64 + r, ps, []⟩, ⟨4, 0, 63, 0, fl, ps, []⟩]) = bsE ++ bsS := by
        rw [← HRE.out.2.2.2, ← HRS.out.2.2.2, ← bytesAll_app, ← printed_app]
        rfl
      have P2 := hide p2
      clear p2
      go_wp2_with fail
      refine (print_is (n := 2) (c := 2) [⟨4, 0, 0, 0, 64 + r, ps, []⟩, ⟨4, 0, 63, 0, fl, ps, []⟩] (bsE ++ bsS) _ P2.out rfl rfl (seenE_block (n := 2) (M := [(⟨4, 0, 0, 0, 64 + r, ps, []⟩, .slice A2 k c2), (⟨4, 0, 63, 0, fl, ps, []⟩, .slice A3 k c3)]) (Box.fresh rfl) rfl rfl (fun p hp => by
        rcases List.mem_cons.1 hp with rfl | hp
        · exact one_par (n := k) (c := c2) HLN.out ((P6.out.alloc (Nat.le_refl _) _).more (by simp)) (by omega) _ (List.mem_singleton.2 rfl)
        · exact one_par (n := k) (c := c3) HLN.out ((Q6.out.alloc (Nat.le_refl _) _).more (by simp)) (by omega) _ hp)) (fun p hp => by
        rcases List.mem_cons.1 hp with rfl | hp
        · exact ⟨by simp; omega, by simp⟩
        · rw [List.mem_singleton.1 hp]; exact ⟨by simp; omega, by simp⟩) (by omega) (HT.out.keep (B6.out.alloc B6.out.size _))).mono ?_
      rintro e w6 ⟨A6, c6, rfl, _, h6, bb0⟩
      have cv6 := conv_seen (c := c6) h6
      have hab : (strOfNums (bsE ++ bsS)).toList = (sE ++ sS).toList := by rw [← HSE.out, ← HSS.out, str_app]
      generalize (bsE ++ bsS).length = nB at cv6 h6 ⊢
      generalize strOfNums (bsE ++ bsS) = sB at cv6 hab
      have bb : Below w5.heap.size w5 w6 := ((Below.refl _ w5).alloc (Nat.le_refl _) _).trans (bb0.mono (by simp))
      have S7 := hide ((S6.out.below bb).more bb.size)
      have B7 := hide (B6.out.trans (bb.mono B6.out.size))
      have P7 := hide ((P6.out.below bb).more bb.size)
      have BE7 := hide (BE6.out.below bb BE6.out.lt)
      clear bb bb0 h6 S6 B6 P6 Q6 BE6 BS6 k0 k1 k2 k3 k4 k5 k6 j0 j1 j2 j3 j4 j5 j6
      have HAB := hide hab
      clear hab
      go_wp2_with (at_builtin; first
        | (refine wpList_appN rfl (.tmp 106) (.tmp 107) 22 rfl w6.heap.size 3 i0 _ 8 Tryd.underlying22 hi hz0 hz1 hz2 rfl (.slice (some ⟨w6.heap.size, 0, none⟩) 0 0) 0 [] rfl (own_lit0 3 rfl (Nat.le_refl _)) w6.heap.size A1 k c1 (i64s ps) rfl (S7.out.alloc (Nat.le_refl _) _) (i64s_one ps) (by omega) (by omega) (by simp) ?_; intro v7 w7 hown7 hg7 hm7)
        | (refine wpList_app1 rfl (.tmp 108) (.tmp 109) 22 rfl w6.heap.size 3 i0 _ 8 Tryd.underlying22 hi hz0 hz1 hz2 rfl v7 _ _ rfl hown7 _ _ _ rfl rfl rfl (by omega) (by omega) (by have := hg7.size; simp at this; omega) ?_; intro v8 w8 hown8 hg8 hm8))
      have b67 : Below w6.heap.size w6 w7 := ((Below.refl w6.heap.size w6).alloc (Nat.le_refl _) _).trans (below_of_grown hg7 (by simp) (fun g hg => by simp [Value.ownBlock] at hg; omega))
      have b68 : Below w6.heap.size w6 w8 := b67.trans (below_of_grown hg8 b67.size (fun g hg => (hown7.lt g hg).1))
      have hown9 : w8.ownsRow w6.heap.size 3 1 v8 (k + 1) (i64s (ps ++ [65536])) := by
        have := hown8
        simp only [Nat.zero_add, List.nil_append] at this
        simpa [i64s] using this
      obtain ⟨A8, c8, rfl, _⟩ := own_form hown9
      have s8 := Seen.of_own hown9
      have B8 := hide (B7.out.trans (b68.mono B7.out.size))
      have P8 := hide ((P7.out.below b68).more b68.size)
      have BE8 := hide (BE7.out.below b68 BE7.out.lt)
      clear b67 b68 hown7 hown8 hown9 hg7 hg8 hm7 hm8 S7 B7 P7 BE7
      have hlb : (ps ++ [65536]).length = k + 1 := by simp [HLN.out]
      have HLB := hide hlb
      have hcb : csiParams (ps ++ [65536]) = ps ++ [65536] := by
        unfold csiParams
        rw [if_neg]
        intro e
        have := congrArg List.getLast? e
        simp at this
      refine (csi_is (f := 64 + r) (A := A8) (n := k + 1) (c := c8) (l := ps ++ [65536]) (ps ++ [65536]) (k + 1) hcb hlb s8 (by omega)).mono ?_
      rintro e w9 ⟨A9, c9, rfl, _, p9, bb⟩
      have B9 := hide (B8.out.trans (bb.mono B8.out.size))
      have P9 := hide ((P8.out.below bb).more bb.size)
      have BE9 := hide (BE8.out.below bb BE8.out.lt)
      have Q9 := hide p9
      clear bb p9 s8 B8 P8 BE8 hcb hlb
      go_upto_region 13 with fail
      have by9 := Box.new w9 24 #[.int .i64 4, .int .i32 0, .int .u8 0, .int .u8 0, .int .u8 (64 + r), .slice A9 (k + 1) c9, .string ⟨#[]⟩]
      have bb : Below w9.heap.size w9 (w9.alloc (.cells #[.int .i64 4, .int .i32 0, .int .u8 0, .int .u8 0, .int .u8 (64 + r), .slice A9 (k + 1) c9, .string ⟨#[]⟩] 24)) := (Below.refl _ _).alloc (Nat.le_refl _) _
      generalize w9.alloc (.cells #[.int .i64 4, .int .i32 0, .int .u8 0, .int .u8 0, .int .u8 (64 + r), .slice A9 (k + 1) c9, .string ⟨#[]⟩] 24) = w10 at by9 bb ⊢
      have B10 := hide (B9.out.trans (bb.mono B9.out.size))
      have P10 := hide ((P9.out.below bb).more bb.size)
      have Q10 := hide ((Q9.out.below bb).more bb.size)
      have BE10 := hide (BE9.out.below bb BE9.out.lt)
      have BY10 := hide by9
      generalize w9.heap.size = gB at BY10 ⊢
      obtain ⟨k0, k1, k2, k3, k4, k5, k6⟩ := Box.seven BY10.out
      have hab := HAB.out
      have zE : sE.size = nE + 1 := by rw [← HSE.out, strOfNums_size, HRE.out.2.2.1]
      have zS : sS.size = nS + 1 := by rw [← HSS.out, strOfNums_size, HRS.out.2.2.1]
      clear bb by9 B9 P9 Q9 BE9
      go_wp2_with fail
      refine (right_any 4 0 0 0 (64 + r) A9 (k + 1) c9 (ps ++ [65536]) [] w10 Q10.out (by omega) (by omega) (by simp)).mono ?_
      rw [bad_csi]
      rintro e w11 ⟨rfl, bb⟩
      have B11 := hide (B10.out.trans (bb.mono B10.out.size))
      have P11 := hide ((P10.out.below bb).more bb.size)
      have Q11 := hide ((Q10.out.below bb).more bb.size)
      have BE11 := hide (BE10.out.below bb BE10.out.lt)
      obtain ⟨k0, k1, k2, k3, k4, k5, k6⟩ := Box.seven (BY10.out.below bb BY10.out.lt)
      clear bb B10 P10 Q10 BE10 BY10 hab zE zS
      go_wp2_with fail
      refine (print_is (n := 1) (c := 1) [⟨4, 0, 0, 0, 64 + r, ps ++ [65536], []⟩] [] 0 (by unfold printed; rw [List.filter_cons_of_neg (by rw [bad_csi]; simp)]; rfl) rfl rfl (seenE_block (n := 1) (M := [(⟨4, 0, 0, 0, 64 + r, ps ++ [65536], []⟩, .slice A9 (k + 1) c9)]) (Box.fresh rfl) rfl rfl (one_par HLB.out ((Q11.out.alloc (Nat.le_refl _) _).more (by simp)) (by omega))) (one_fits ⟨by simp; omega, by simp⟩) (by omega) (HT.out.keep (B11.out.alloc B11.out.size _))).mono ?_
      rintro e w12 ⟨A12, c12, rfl, _, _, bb0⟩
      have bb : Below w11.heap.size w11 w12 := ((Below.refl _ w11).alloc (Nat.le_refl _) _).trans (bb0.mono (by simp))
      have B12 := hide (B11.out.trans (bb.mono B11.out.size))
      have P12 := hide ((P11.out.below bb).more bb.size)
      have BE12 := hide (BE11.out.below bb BE11.out.lt)
      clear bb bb0 B11 P11 Q11 BE11 k0 k1 k2 k3 k4 k5 k6
      go_wp2_with fail
      refine (print_is (A := none) (n := 0) (c := 0) (M := []) [] [] 0 rfl rfl rfl ⟨rfl, fun k p hp => by simp at hp⟩ (fun p hp => by cases hp) (by omega) (HT.out.keep B12.out)).mono ?_
      rintro e w13 ⟨A13, c13, rfl, _, _, bb⟩
      have B13 := hide (B12.out.trans (bb.mono B12.out.size))
      have P13 := hide ((P12.out.below bb).more bb.size)
      obtain ⟨k0, k1, k2, k3, k4, k5, k6⟩ := Box.seven (BE12.out.below bb BE12.out.lt)
      clear bb B12 P12 BE12
      go_wp2_with fail
      refine (arg_any 4 0 0 0 (64 + r) A2 k c2 ps ⟨#[]⟩ 99 5 0 9 w13 P13.out).mono ?_
      rw [show argOf ps 99 5 0 9 = 5 from by
        have : paramOf ps 99 = -1 := by unfold paramOf; rw [if_pos (.inr (by have := HLN.out; omega))]
        rw [argOf_eq, this]
        rfl]
      rintro e w14 ⟨rfl, bb⟩
      have B14 := hide (B13.out.trans (bb.mono B13.out.size))
      clear bb B13 P13 k0 k1 k2 k3 k4 k5 k6
      go_wp2_with fail
      refine (seqRuns_any w14 (HT.out.keep B14.out)).mono ?_
      rintro e w15 ⟨rfl, bb⟩
      have B15 := hide (B14.out.trans (bb.mono B14.out.size))
      clear bb
      go_wp2_with fail
      go_ret
      exact ⟨rfl, B15.out⟩
end Go.Proofs.YtnnjppgmadmmaaaDoor
