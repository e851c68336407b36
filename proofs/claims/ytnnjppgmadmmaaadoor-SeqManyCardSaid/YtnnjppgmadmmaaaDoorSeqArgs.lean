/- SeqArgs: a parameter that is there, left out, nought, beyond its bounds. -/
import Derived.Test.YtnnjppgmadmmaaaDoorSeqRuns
import Derived.Test.YtnnjppgmadmmaaaDoorSeqTst
import Derived.Test.YtnnjppgmadmmaaaDoorArgs
import Derived.Test.YtnnjppgmadmmaaaDoorBook
import Derived.Test.YtnnjppgmadmmaaaDoorEqual
import Derived.Deep.DeepCutAuto
import Derived.Deep.CutBlock
set_option maxRecDepth 100000
namespace Go.Proofs.YtnnjppgmadmmaaaDoor
open Go.RowKit
set_option linter.unusedVariables false
def argNum (x : Int) : Int := -1 + x % 92
def argNums (l : List Int) (k : Nat) : List Int := (l.take k).map argNum
theorem argNums_snoc {l : List Int} {k : Nat} {x : Int} (hx : l[k]? = some x) : argNums l (k + 1) = argNums l k ++ [argNum x] := by
  unfold argNums
  rw [List.take_add_one, hx]
  simp
theorem argNums_bd (l : List Int) (k : Nat) : ∀ x ∈ argNums l k, -1 ≤ x ∧ x ≤ 90 := by
  intro x hx
  obtain ⟨y, _, rfl⟩ := List.mem_map.1 hx
  unfold argNum
  omega
/-- the test: is it a parameter that says something? -/
def Says (ps : List Int) (at_ lo : Int) : Prop := paramOf ps at_ ≠ -1 ∧ ¬ (paramOf ps at_ = 0 ∧ 0 < lo)
theorem argOf_eq (ps : List Int) (at_ no lo h : Int) : argOf ps at_ no lo h = min (max (if paramOf ps at_ = -1 ∨ (paramOf ps at_ = 0 ∧ 0 < lo) then no else paramOf ps at_) lo) h := rfl
theorem arg_says {ps : List Int} {at_ no lo h : Int} {b : Bool} (hb : b = true ↔ Says ps at_ lo) : argOf ps at_ no lo h = min (max (if b = true then paramOf ps at_ else no) lo) h := by
  rw [argOf_eq]
  unfold Says at hb
  by_cases h1 : paramOf ps at_ = -1 ∨ (paramOf ps at_ = 0 ∧ 0 < lo)
  · rw [if_pos h1, if_neg]
    rw [hb]
    rintro ⟨a, c⟩
    rcases h1 with h1 | h1
    · exact a h1
    · exact c h1
  · rw [if_neg h1, if_pos]
    rw [hb]
    exact ⟨fun e => h1 (.inl e), fun e => h1 (.inr e)⟩
theorem arg_csi {ps : List Int} {at_ no lo h : Int} : argOf (csiParams ps) at_ no lo h = argOf ps at_ no lo h := by
  have e : paramOf (csiParams ps) at_ = paramOf ps at_ := by
    unfold csiParams
    split
    · rename_i e
      rw [e]
      unfold paramOf
      by_cases z : at_ < 0
      · rw [if_pos (.inl z), if_pos (.inl z)]
      · by_cases z1 : 1 ≤ at_
        · rw [if_pos (.inr (by simp; omega)), if_pos (.inr (by simpa using z1))]
        · obtain rfl : at_ = 0 := by omega
          rfl
    · rfl
  rw [argOf_eq, argOf_eq, e]
def Num (x : Int) (W : World) (u : Value) (wx : World) : Prop := u = .int .i64 x ∧ W = wx
def Nums (l : List Int) (W : World) (u : Value) (wx : World) : Prop := ∃ A m c, u = .slice A m c ∧ m ≤ 16 ∧ Seen wx wx.heap.size A m (i64s l) ∧ W = wx
/-- the call's own parameters -/
def OwnArgs (w : World) (l : List Int) (t : Value) (wr : World) : Prop := ∃ k : Nat, k ≤ 16 ∧ k ≤ l.length ∧ wr.ownsRow w.heap.size 3 1 t k (i64s (argNums l k)) ∧ Below w.heap.size w wr
set_option maxHeartbeats 8000000 in
theorem seqArgs_any (A0 : Option Addr) (n0 c0 : Nat) (l0 : List Int) (at0 none0 lo0 hi0 f0 : Int) (w : World) (hA : Arg .i64 w A0 n0 c0 l0) (w1 : (Lit.int .i64 at0).wf = true) (w2 : (Lit.int .i64 none0).wf = true) (w3 : (Lit.int .i64 lo0).wf = true) (w4 : (Lit.int .i64 hi0).wf = true) (w5 : (Lit.int .u8 f0).wf = true) (ht : Tens w) :
    Calls Tryd.prog 6 #[.slice A0 n0 c0, .int .i64 at0, .int .i64 none0, .int .i64 lo0, .int .i64 hi0, .int .u8 f0] w fun e w' => e = .returned (.bool true) ∧ Below w.heap.size w w' := by
  obtain ⟨i0, hi, hz0, hz1, hz2⟩ := info_parts info_i64
  have b1 := bounds_i64 w1
  have b2 := bounds_i64 w2
  have b3 := bounds_i64 w3
  have b4 := bounds_i64 w4
  have b5 := bounds_u8 w5
  have HA := hide hA
  have HT := hide ht
  have hcap := hA.cap
  have hle := hA.le
  unfold maxLen at hcap
  clear hA ht w1 w2 w3 w4 w5
  go_enter Tryd.func6, Tryd.ntmps6
  go_upto_block 0 with fail
  go_cut [13] (fun u wx => OwnArgs w l0 u wx)
  case first =>
    go_wp2_with fail
    go_loopw [13, 14] (fun u i wr => ∃ k : Nat, k ≤ 16 ∧ k ≤ n0 ∧ i = .int .i64 k ∧ wr.ownsRow w.heap.size 3 1 u k (i64s (argNums l0 k)) ∧ Below w.heap.size w wr) (fun _ i _ => 16 - (intOf i).toNat)
    case atStart => exact ⟨0, by omega, Nat.zero_le _, rfl, World.ownsRow_nil _ _ _ _, Below.refl _ _⟩
    case round =>
      obtain ⟨k, hk, hkn, rfl, ho, b0⟩ := hrel
      have cs : n0 ≤ k ∨ (k < n0 ∧ 16 ≤ k) ∨ (k < n0 ∧ k < 16) := by omega
      rcases cs with h | ⟨h, h'⟩ | ⟨h, h'⟩
      · go_wp2_with fail
        go_meet
        exact ⟨k, hk, by rw [HA.out.len]; exact hkn, ho, b0⟩
      · go_wp2_with fail
        go_meet
        exact ⟨k, hk, by rw [HA.out.len]; exact hkn, ho, b0⟩
      · obtain ⟨ad, u, rfl, _, hu, hc⟩ := (HA.out.seen.below b0).at_ h
        rw [List.getElem?_map] at hu
        obtain ⟨x, hx, rfl⟩ := Option.map_eq_some_iff.1 hu
        have hxr := bounds_i64 (HA.out.wf x (List.mem_of_getElem? hx))
        obtain ⟨y, hy, hyb⟩ : ∃ y : Int, -1 + x % (90 - -1 + 1) = y ∧ -1 ≤ y ∧ y ≤ 90 := ⟨-1 + x % 92, rfl, by omega, by omega⟩
        have WI := hide (fun w' => within_is x (-1) 90 y hy w' hxr.1 hxr.2 (by omega) (by omega) (by omega))
        have HS := hide (show argNums l0 (k + 1) = argNums l0 k ++ [y] by rw [argNums_snoc hx, ← hy]; rfl)
        clear hu hx hy
        go_wp2_with (first
          | (go_at_call 23; go_must (refine (WI.out _).mono ?_); rintro e w' ⟨rfl, rfl⟩)
          | (at_builtin; go_must (refine wpList_app1 rfl (.tmp 34) (.tmp 40) 22 rfl w.heap.size 3 i0 _ 8 Tryd.underlying22 hi hz0 hz1 hz2 rfl u13 _ _ rfl ho _ _ _ rfl rfl rfl (by omega) (by omega) b0.size ?_); intro v' w1 hown1 hg1 hm1))
        go_roundw
        case rel => exact ⟨k + 1, by omega, by omega, by go_num, by rw [HS.out]; simpa [i64s] using hown1, b0.grown hg1 b0.size (fun g hg => (ho.lt g hg).1)⟩
        case measure => simp [intOf]; omega
  case rest =>
    obtain ⟨k, hk16, hkl, ho, B0⟩ := hcut
    obtain ⟨A1, c1, rfl, _⟩ := own_form ho
    have hbd := argNums_bd l0 k
    have hlen : (argNums l0 k).length = k := by simp [argNums]; omega
    have hs := Seen.of_own ho
    generalize argNums l0 k = ps at *
    have hr : f0.tmod 63 = f0 % 63 := Int.tmod_eq_emod_of_nonneg b5.1
    obtain ⟨r, hr', hr0, hr1⟩ : ∃ r : Int, f0 % 63 = r ∧ 0 ≤ r ∧ r < 63 := ⟨_, rfl, by omega, by omega⟩
    rw [hr'] at hr
    have hw8 : IntKind.u8.wrap (64 + r) = 64 + r := IntWalk.u8_in _ (by omega)
    obtain ⟨lo, hlo, hlo0, hlo1⟩ : ∃ v : Int, 0 + lo0 % (2 - 0 + 1) = v ∧ 0 ≤ v ∧ v ≤ 2 := ⟨_, rfl, by omega, by omega⟩
    obtain ⟨h, hh, hh0, hh1⟩ : ∃ v : Int, lo + hi0 % (80 - lo + 1) = v ∧ lo ≤ v ∧ v ≤ 80 := ⟨_, rfl, by have := Int.emod_nonneg hi0 (show (80 - lo + 1) ≠ 0 by omega); omega, by have := Int.emod_lt_of_pos hi0 (show 0 < (80 - lo + 1) by omega); omega⟩
    obtain ⟨no, hno, hno0, hno1⟩ : ∃ v : Int, 0 + none0 % (90 - 0 + 1) = v ∧ 0 ≤ v ∧ v ≤ 90 := ⟨_, rfl, by omega, by omega⟩
    obtain ⟨at_, hat, hat0, hat1⟩ : ∃ v : Int, -1 + at0 % (17 - -1 + 1) = v ∧ -1 ≤ v ∧ v ≤ 17 := ⟨-1 + at0 % 19, rfl, by omega, by omega⟩
    have W1 := hide (fun w' => within_is lo0 0 2 lo hlo w' b3.1 b3.2 (by omega) (by omega) (by omega))
    have W2 := hide (fun w' => within_is hi0 lo 80 h hh w' b4.1 b4.2 (by omega) (by omega) (by omega))
    have W3 := hide (fun w' => within_is none0 0 90 no hno w' b2.1 b2.2 (by omega) (by omega) (by omega))
    have W4 := hide (fun w' => within_is at0 (-1) 17 at_ hat w' b1.1 b1.2 (by omega) (by omega) (by omega))
    clear hlo hh hno hat hr' b1 b2 b3 b4
    obtain ⟨qs, m, hqs, hqm, hml⟩ : ∃ qs m, csiParams ps = qs ∧ qs.length = m ∧ m ≤ 16 := ⟨_, _, rfl, rfl, by unfold csiParams; split <;> (try simp) <;> omega⟩
    have CS := hide (csi_is (f := 64 + r) (A := A1) (n := k) (c := c1) (l := ps) (w := wc) qs m hqs hqm hs (by omega))
    have HQ := hide (And.intro hqs hqm)
    have HLN := hide hlen
    have HBD := hide hbd
    clear hqs hqm hlen hbd
    go_wp2_with fail
    refine CS.out.mono ?_
    rintro e w1 ⟨A2, c2, rfl, _, p2, bb⟩
    have S1 := hide ((hs.below bb).more bb.size)
    have B1 := hide (B0.trans (bb.mono B0.size))
    have P1 := hide p2
    clear hs bb p2 ho CS B0
    go_upto_region 12 with (first
      | (go_at_call_of 23 (Value.int IntKind.i64 lo0); go_must (refine (W1.out _).mono ?_); rintro e w' ⟨rfl, rfl⟩)
      | (go_at_call_of 23 (Value.int IntKind.i64 hi0); go_must (refine (W2.out _).mono ?_); rintro e w' ⟨rfl, rfl⟩)
      | (go_at_call_of 23 (Value.int IntKind.i64 none0); go_must (refine (W3.out _).mono ?_); rintro e w' ⟨rfl, rfl⟩)
      | (go_at_call_of 23 (Value.int IntKind.i64 at0); go_must (refine (W4.out _).mono ?_); rintro e w' ⟨rfl, rfl⟩))
    have bx := Box.new w1 24 #[.int .i64 4, .int .i32 0, .int .u8 0, .int .u8 0, .int .u8 (64 + r), .slice A2 m c2, .string ⟨#[]⟩]
    have S2 := hide ((S1.out.alloc (Nat.le_refl _) (.cells #[.int .i64 4, .int .i32 0, .int .u8 0, .int .u8 0, .int .u8 (64 + r), .slice A2 m c2, .string ⟨#[]⟩] 24)).more (B' := (w1.alloc (.cells #[.int .i64 4, .int .i32 0, .int .u8 0, .int .u8 0, .int .u8 (64 + r), .slice A2 m c2, .string ⟨#[]⟩] 24)).heap.size) (by simp))
    have P2 := hide ((P1.out.alloc (Nat.le_refl _) (.cells #[.int .i64 4, .int .i32 0, .int .u8 0, .int .u8 0, .int .u8 (64 + r), .slice A2 m c2, .string ⟨#[]⟩] 24)).more (B' := (w1.alloc (.cells #[.int .i64 4, .int .i32 0, .int .u8 0, .int .u8 0, .int .u8 (64 + r), .slice A2 m c2, .string ⟨#[]⟩] 24)).heap.size) (by simp))
    have B2 := hide (B1.out.alloc B1.out.size (.cells #[.int .i64 4, .int .i32 0, .int .u8 0, .int .u8 0, .int .u8 (64 + r), .slice A2 m c2, .string ⟨#[]⟩] 24))
    clear B1 P1 S1 hr hw8
    generalize w1.alloc (.cells #[.int .i64 4, .int .i32 0, .int .u8 0, .int .u8 0, .int .u8 (64 + r), .slice A2 m c2, .string ⟨#[]⟩] 24) = W at bx S2 P2 B2 ⊢
    generalize w1.heap.size = gE at bx ⊢
    have BX := hide bx
    clear bx
    go_upto_region 13 with fail
    go_cut [85] (fun u wx => Tst (Says ps at_ lo) W u wx)
    case first =>
      have cs : at_ < 0 ∨ (0 ≤ at_ ∧ (k : Int) ≤ at_) ∨ (0 ≤ at_ ∧ at_ < k) := by omega
      rcases cs with a | a | a
      · have HE := hide (show ¬ Says ps at_ lo from fun hh => hh.1 (by unfold paramOf; rw [if_pos (.inl a)]))
        go_wp2_with fail
        go_meet
        exact ⟨false, rfl, hide (by simp [HE.out]), rfl⟩
      · have HE := hide (show ¬ Says ps at_ lo from fun hh => hh.1 (by unfold paramOf; rw [if_pos (.inr (by have := HLN.out; omega))]))
        go_wp2_with fail
        go_meet
        exact ⟨false, rfl, hide (by simp [HE.out]), rfl⟩
      · obtain ⟨mm, rfl⟩ := Int.eq_ofNat_of_zero_le a.1
        have hmm : mm < k := by omega
        obtain ⟨ad, u, rfl, _, hu, hc⟩ := S2.out.at_ hmm
        rw [i64s, List.getElem?_map] at hu
        obtain ⟨x, hx, rfl⟩ := Option.map_eq_some_iff.1 hu
        have HP := hide (show paramOf ps (mm : Int) = x by unfold paramOf; rw [if_neg (by have := HLN.out; omega), List.getD_eq_getElem?_getD, Int.toNat_natCast, hx]; rfl)
        have hbt : ((mm : Int)).toNat = mm := by simp
        clear hu hx
        by_cases hx1 : x = -1
        · have d1 : (x != -1) = false := by simp [hx1]
          have HE := hide (show ¬ Says ps (mm : Int) lo from fun hh => hh.1 (by rw [HP.out]; exact hx1))
          clear hx1
          go_wp2_with fail
          go_meet
          exact ⟨false, rfl, hide (by simp [HE.out]), rfl⟩
        · have d1 : (x != -1) = true := by simpa using hx1
          by_cases hx0 : x = 0
          · have d2 : (x != 0) = false := by simp [hx0]
            by_cases hlo2 : lo < 1
            · have HE := hide (show Says ps (mm : Int) lo from ⟨by rw [HP.out]; exact hx1, fun hh => by have := hh.2; omega⟩)
              clear hx1 hx0
              go_wp2_with fail
              go_meet
              exact ⟨true, rfl, hide (by simp [HE.out]), rfl⟩
            · have HE := hide (show ¬ Says ps (mm : Int) lo from fun hh => hh.2 ⟨by rw [HP.out]; exact hx0, by omega⟩)
              clear hx1 hx0
              go_wp2_with fail
              go_meet
              exact ⟨false, rfl, hide (by simp [HE.out]), rfl⟩
          · have d2 : (x != 0) = true := by simpa using hx0
            have HE := hide (show Says ps (mm : Int) lo from ⟨by rw [HP.out]; exact hx1, fun hh => hx0 (by rw [HP.out] at hh; exact hh.1)⟩)
            clear hx1 hx0
            go_wp2_with fail
            go_meet
            exact ⟨true, rfl, hide (by simp [HE.out]), rfl⟩
    case rest =>
      obtain ⟨b, rfl, HB, rfl⟩ := hcut
      obtain ⟨q, hq⟩ : ∃ q, paramOf ps at_ = q := ⟨_, rfl⟩
      have HA2 := hide (show argOf ps at_ no lo h = min (max (if b = true then q else no) lo) h by rw [← hq]; exact arg_says HB.out)
      have HQ2 := hide hq
      clear hq
      go_upto_if 85 with fail
      go_cut [21] (fun u wx => Num (if b = true then q else no) W u wx)
      case first =>
        rcases b with _ | _
        · go_wp2_with fail
          go_meet
          exact ⟨rfl, rfl⟩
        · have hsy := HB.out.1 rfl
          have ha : 0 ≤ at_ ∧ at_ < k := by
            have h1 := hsy.1
            unfold paramOf at h1
            rw [HLN.out] at h1
            by_cases hh : at_ < 0 ∨ (k : Int) ≤ at_
            · rw [if_pos hh] at h1; exact absurd rfl h1
            · omega
          clear hsy
          obtain ⟨mm, rfl⟩ := Int.eq_ofNat_of_zero_le ha.1
          have hmm : mm < k := by omega
          obtain ⟨ad, u, rfl, _, hu, hc⟩ := S2.out.at_ hmm
          rw [i64s, List.getElem?_map] at hu
          obtain ⟨x, hx, rfl⟩ := Option.map_eq_some_iff.1 hu
          have HP := hide (show x = q by rw [← HQ2.out]; unfold paramOf; rw [if_neg (by have := HLN.out; omega), List.getD_eq_getElem?_getD, Int.toNat_natCast, hx]; rfl)
          have hbt : ((mm : Int)).toNat = mm := by simp
          clear hu hx
          go_wp2_with fail
          go_meet
          exact ⟨by rw [if_pos (by trivial), HP.out], rfl⟩
      case rest =>
        obtain ⟨rfl, rfl⟩ := hcut
        obtain ⟨g, hg⟩ : ∃ g, (if b = true then q else no) = g := ⟨_, rfl⟩
        rw [hg]
        have HA3 := hide (show argOf ps at_ no lo h = min (max g lo) h by rw [HA2.out, hg])
        clear hg HA2
        go_upto_region 15 with fail
        go_cut [21] (fun u wx => Num (argOf ps at_ no lo h) W u wx)
        case first =>
          go_wp2_with fail
          go_meet
          exact ⟨by rw [HA3.out], rfl⟩
        case rest =>
          obtain ⟨rfl, rfl⟩ := hcut
          obtain ⟨want, hwant⟩ : ∃ want, argOf ps at_ no lo h = want := ⟨_, rfl⟩
          have AR := hide (fun w' (hs : Seen w' w'.heap.size A2 m (i64s qs)) => arg_any 4 0 0 0 (64 + r) A2 m c2 qs ⟨#[]⟩ at_ no lo h w' hs)
          rw [show argOf qs at_ no lo h = want from by rw [← hwant, ← HQ.out.1]; exact arg_csi] at AR
          rw [hwant]
          clear hwant HA3
          clear HQ2 HB
          go_upto_region 17 with fail
          go_cut [104] (fun u wx => Tst (ps = [-1]) W u wx)
          case first =>
            by_cases h1 : k = 1
            · subst h1
              obtain ⟨ad, u, rfl, _, hu, hc⟩ := S2.out.at_ (k := 0) (by omega)
              rw [i64s, List.getElem?_map] at hu
              obtain ⟨x, hx, rfl⟩ := Option.map_eq_some_iff.1 hu
              rw [show ad.add 0 = ad from by simp [Addr.add]] at hc
              have HP := hide (show ps = [x] by
                have hlen := HLN.out
                rcases ps with _ | ⟨y, _ | ⟨z, l⟩⟩ <;> simp at hlen hx
                subst hx
                rfl)
              clear hu hx
              by_cases hx1 : x = -1
              · have d1 : (x == -1) = true := by simpa using hx1
                have HE := hide (show ps = [-1] by rw [HP.out, hx1])
                clear hx1
                go_wp2_with fail
                go_meet
                exact ⟨true, rfl, hide (by simp [HE.out]), rfl⟩
              · have d1 : (x == -1) = false := by simpa using hx1
                have HE := hide (show ¬ ps = [-1] by rw [HP.out]; simpa using hx1)
                clear hx1
                go_wp2_with fail
                go_meet
                exact ⟨false, rfl, hide (by simp [HE.out]), rfl⟩
            · have d1 : ((k : Int) == 1) = false := by simp; omega
              have HE := hide (show ¬ ps = [-1] from fun e => h1 (by have := HLN.out; rw [e] at this; exact this.symm))
              clear h1
              go_wp2_with fail
              go_meet
              exact ⟨false, rfl, hide (by simp [HE.out]), rfl⟩
          case rest =>
            obtain ⟨b, rfl, HB, rfl⟩ := hcut
            go_upto_if 104 with fail
            go_cut [22] (fun u wx => Nums qs W u wx)
            case first =>
              rcases b with _ | _
              · have HE := hide (show qs = ps by
                  rw [← HQ.out.1]
                  unfold csiParams
                  rw [if_neg (fun e => by have := HB.out.2 e; cases this)])
                go_wp2_with fail
                go_meet
                exact ⟨A1, k, c1, rfl, hk16, by rw [HE.out]; exact S2.out, rfl⟩
              · have HE := hide (show qs = [] by
                  rw [← HQ.out.1]
                  unfold csiParams
                  rw [if_pos (HB.out.1 rfl)])
                go_wp2_with fail
                go_meet
                exact ⟨none, 0, 0, rfl, by omega, by rw [HE.out]; exact Seen.nil_ _ _ _, rfl⟩
            case rest =>
              obtain ⟨A3, m3, c3, rfl, hm3, s3, rfl⟩ := hcut
              have S3 := hide s3
              clear s3 HB
              go_wp2_with fail
              refine (set_is (p := 63) (on := true) (A := A1) (n := k) (c := c1) (l := ps) 104 k rfl HLN.out S2.out (by omega)).mono ?_
              rintro e w2 ⟨A4, c4, rfl, _, p4, bb⟩
              have P4 := hide p4
              have P3 := hide ((S3.out.below bb).more bb.size)
              have P5 := hide ((P2.out.below bb).more bb.size)
              have P6 := hide ((S2.out.below bb).more bb.size)
              have B3 := hide (B2.out.trans (bb.mono B2.out.size))
              have BX2 := hide (BX.out.below bb BX.out.lt)
              clear bb p4 S3 S2 P2 BX B2
              go_upto_region 20 with fail
              have by4 := Box.new w2 24 #[.int .i64 4, .int .i32 0, .int .u8 63, .int .u8 0, .int .u8 104, .slice A4 k c4, .string ⟨#[]⟩]
              have bb : Below w2.heap.size w2 (w2.alloc (.cells #[.int .i64 4, .int .i32 0, .int .u8 63, .int .u8 0, .int .u8 104, .slice A4 k c4, .string ⟨#[]⟩] 24)) := (Below.refl _ _).alloc (Nat.le_refl _) _
              generalize w2.alloc (.cells #[.int .i64 4, .int .i32 0, .int .u8 63, .int .u8 0, .int .u8 104, .slice A4 k c4, .string ⟨#[]⟩] 24) = w3 at by4 bb ⊢
              have Q4 := hide ((P4.out.below bb).more bb.size)
              have Q3 := hide ((P3.out.below bb).more bb.size)
              have Q5 := hide ((P5.out.below bb).more bb.size)
              have Q6 := hide ((P6.out.below bb).more bb.size)
              have B4 := hide (B3.out.trans (bb.mono B3.out.size))
              have BX3 := hide (BX2.out.below bb BX2.out.lt)
              have BY3 := hide by4
              generalize w2.heap.size = gS at BY3 ⊢
              obtain ⟨k0, k1, k2, k3, k4, k5, k6⟩ := Box.seven BX3.out
              clear bb by4 P4 P3 P5 P6 B3 BX2
              go_wp2_with fail
              refine (AR.out w3 Q5.out).mono ?_
              rintro e w4 ⟨rfl, bb⟩
              have R4 := hide ((Q4.out.below bb).more bb.size)
              have R3 := hide ((Q3.out.below bb).more bb.size)
              have R5 := hide ((Q5.out.below bb).more bb.size)
              have R6 := hide ((Q6.out.below bb).more bb.size)
              have B5 := hide (B4.out.trans (bb.mono B4.out.size))
              obtain ⟨k0, k1, k2, k3, k4, k5, k6⟩ := Box.seven (BX3.out.below bb BX3.out.lt)
              obtain ⟨j0, j1, j2, j3, j4, j5, j6⟩ := Box.seven (BY3.out.below bb BY3.out.lt)
              clear bb AR BX3 BY3 Q4 Q3 Q5 Q6 B4
              go_wp2_with fail
              refine (sameB_i64 qs qs A2 A3 _ _ m c2 m3 c3 w4 R5.out R3.out (by omega)).mono ?_
              rw [show decide (qs = qs) = true from by simp]
              rintro e w5 ⟨rfl, q5, rfl⟩
              go_wp2_with fail
              refine (sameB_i64 ps ps A4 A1 _ _ k c4 k c1 _ (R4.out.drewN q5) (R6.out.drewN q5) (by omega)).mono ?_
              rw [show decide (ps = ps) = true from by simp]
              rintro e w6 ⟨rfl, q6, rfl⟩
              go_wp2_with fail
              refine (seqRuns_any (w4.drewN (q5 + q6)) (HT.out.keep (below_drewN B5.out (q5 + q6)))).mono ?_
              rintro e w7 ⟨rfl, bb⟩
              have B7 := hide ((below_drewN B5.out (q5 + q6)).trans (bb.mono B5.out.size))
              clear bb
              go_wp2_with fail
              go_ret
              exact ⟨rfl, B7.out⟩
end Go.Proofs.YtnnjppgmadmmaaaDoor
