/- UtfBack: whatever runes and bytes, it answers true; it only makes new memory. -/
import Derived.Test.YtcbfibpomdhliaaRuns
import Derived.Test.YtcbfibpomdhliaaBook
import Derived.Test.YtcbfibpomdhliaaUtfLemmas
import Derived.Test.YtcbfibpomdhliaaArgs
import Derived.OpenShut
namespace Go.Proofs.Ytcbfibpomdhliaa
open Go.RowKit
set_option linter.unusedVariables false
/-- the rune that UtfBack makes of a number -/
def valid (x : Int) : Int := if 55296 ≤ 0 + x % (1112063 - 0 + 1) then 0 + x % (1112063 - 0 + 1) + 2048 else 0 + x % (1112063 - 0 + 1)
theorem valid_R (x : Int) : U.isR (valid x) = true := by
  unfold valid U.isR
  split <;> simp <;> omega
set_option maxRecDepth 100000 in
set_option maxHeartbeats 6000000 in
theorem utfBack_any (A0 : Option Addr) (n0 c0 : Nat) (l0 : List Int) (A1 : Option Addr) (n1 c1 : Nat) (l1 : List Int) (w : World) (ha : Arg .i32 w A0 n0 c0 l0) (hb : Arg .u8 w A1 n1 c1 l1) :
    Calls Try.prog 5 #[.slice A0 n0 c0, .slice A1 n1 c1] w fun e w' => e = .returned (.bool true) ∧ Below w.heap.size w w' := by
  obtain ⟨i0, hi, hz0, hz1, hz2⟩ := info_parts info_i32
  obtain ⟨i8, hi8, hy0, hy1, hy2⟩ := info_parts info_u8
  have hn0 := Nat.le_trans ha.le ha.cap
  unfold maxLen at hn0
  have HA := hide ha
  have HB := hide hb
  clear ha hb
  go_enter Try.func5, Try.ntmps5
  go_wp2_with fail
  go_loopw [5, 6] (fun v i wr => ∃ k : Nat, k ≤ n0 ∧ k ≤ 12 ∧ i = .int .i64 k ∧ wr.ownsRow w.heap.size 21 1 v k (i32s ((l0.take k).map valid)) ∧ Below w.heap.size w wr)
    (fun _ i _ => 12 - (intOf i).toNat)
  case atStart => exact ⟨0, Nat.zero_le _, by omega, rfl, World.ownsRow_nil _ _ _ _, Below.refl _ _⟩
  case round =>
    obtain ⟨k, hk, hk12, rfl, hown, b0⟩ := hrel
    by_cases hlt : k < n0 ∧ k < 12
    · obtain ⟨hlt, hlt12⟩ := hlt
      obtain ⟨ad, u, rfl, _, hu, hc⟩ := (HA.out.seen.below b0).at_ hlt
      rw [List.getElem?_map] at hu
      obtain ⟨x, hx, rfl⟩ := Option.map_eq_some_iff.1 hu
      have hxr := bounds_i32 (HA.out.wf x (List.mem_of_getElem? hx))
      have hs : (l0.take (k + 1)).map valid = (l0.take k).map valid ++ [valid x] := by rw [List.take_add_one, hx]; simp
      have cw := within_any x 0 1112063
      have hy : 0 ≤ 0 + x % (1112063 - 0 + 1) ∧ 0 + x % (1112063 - 0 + 1) ≤ 1112063 := by omega
      rw [show valid x = if 55296 ≤ 0 + x % (1112063 - 0 + 1) then 0 + x % (1112063 - 0 + 1) + 2048 else 0 + x % (1112063 - 0 + 1) from rfl] at hs
      generalize 0 + x % (1112063 - 0 + 1) = y at cw hy hs
      have CW := hide cw
      by_cases h8 : 55296 ≤ y
      · rw [if_pos h8] at hs
        have HS := hide hs
        clear hu hx hs cw
        go_wp2_with (first
          | (go_at_call 18; go_must (refine (CW.out _ (by omega) (by omega) (by omega) (by omega) (by omega)).mono ?_); rintro e w' ⟨rfl, rfl⟩)
          | (at_builtin; go_must (refine wpList_app1 rfl (.tmp 33) (.tmp 36) 22 rfl w.heap.size 21 i0 _ 4 Try.underlying22 hi hz0 hz1 hz2 rfl u5 k _ rfl hown _ _ _ rfl rfl rfl (by omega) (by omega) b0.size ?_); intro v' w1 hown1 hg1 hm1))
        go_roundw
        case rel =>
          refine ⟨k + 1, by omega, by omega, by go_num, ?_, b0.grown hg1 b0.size (fun g hg => (hown.lt g hg).1)⟩
          rw [HS.out]
          simpa [i32s] using hown1
        case measure => simp [intOf]; omega
      · rw [if_neg h8] at hs
        have HS := hide hs
        clear hu hx hs cw
        go_wp2_with (first
          | (go_at_call 18; go_must (refine (CW.out _ (by omega) (by omega) (by omega) (by omega) (by omega)).mono ?_); rintro e w' ⟨rfl, rfl⟩)
          | (at_builtin; go_must (refine wpList_app1 rfl (.tmp 33) (.tmp 36) 22 rfl w.heap.size 21 i0 _ 4 Try.underlying22 hi hz0 hz1 hz2 rfl u5 k _ rfl hown _ _ _ rfl rfl rfl (by omega) (by omega) b0.size ?_); intro v' w1 hown1 hg1 hm1))
        go_roundw
        case rel =>
          refine ⟨k + 1, by omega, by omega, by go_num, ?_, b0.grown hg1 b0.size (fun g hg => (hown.lt g hg).1)⟩
          rw [HS.out]
          simpa [i32s] using hown1
        case measure => simp [intOf]; omega
    · have hL : ((l0.take k).map valid).length = k := by have := HA.out.len; simp; omega
      have hR : ∀ x ∈ (l0.take k).map valid, U.isR x = true := by
        intro x hx
        obtain ⟨y, _, rfl⟩ := List.mem_map.1 hx
        exact valid_R y
      generalize (l0.take k).map valid = L at hown hL hR
      have hlt' : n0 ≤ k ∨ (k < n0 ∧ 12 ≤ k) := by omega
      clear hlt
      obtain ⟨Ao, co, rfl, hco, _, _⟩ := own_form hown
      have ho := Seen.of_own hown
      clear hown
      have HR := hide hR
      have HL := hide hL
      clear hR hL
      have hR32 := hide (fun x (hx : x ∈ L) => show -2147483648 ≤ x ∧ x ≤ 2147483647 by have := HR.out x hx; simp [U.isR] at this; omega)
      have HEL := hide (U.enc_len L)
      have hH' : ∃ H : List Int, (∀ x ∈ H, 0 ≤ x ∧ x < 256) ∧ ((12 < n1 ∧ 12 ≤ c1 ∧ Seen wr w.heap.size A1 12 (u8s H)) ∨ (n1 ≤ 12 ∧ n1 ≤ c1 ∧ Seen wr w.heap.size A1 n1 (u8s H))) := by
        have h8 : ∀ x ∈ l1, 0 ≤ x ∧ x < 256 := fun x hx => by have := bounds_u8 (HB.out.wf x hx); omega
        have hle := HB.out.le
        by_cases h12 : 12 < n1
        · exact ⟨l1.take 12, fun x hx => h8 x (List.mem_of_mem_take hx), .inl ⟨h12, by omega, by have := (HB.out.seen.below b0).take (k := 12) (by omega); rwa [← List.map_take] at this⟩⟩
        · exact ⟨l1, h8, .inr ⟨by omega, hle, HB.out.seen.below b0⟩⟩
      obtain ⟨H, hH8, hH'⟩ := hH'
      have hu8 : ∀ x ∈ H ++ U.enc L, 0 ≤ x ∧ x < 256 := fun x hx => by
        rcases List.mem_append.1 hx with h | h
        · exact hH8 x h
        · exact U.enc_u8 L x h
      obtain ⟨pre, hpre⟩ := U.dec_head_enc H L HR.out
      have hd : U.dec U.z (H ++ U.enc L) = ((U.dec U.z (H ++ U.enc L)).1, pre ++ L) := Prod.ext rfl hpre
      generalize (U.dec U.z (H ++ U.enc L)).1 = st at hd
      obtain ⟨p, q, s⟩ := st
      have hpl : (pre ++ L).length = pre.length + k := by rw [List.length_append, HL.out]
      have hpm : pre.length ≤ 1000 := by
        have := U.dec_len U.z (H ++ U.enc L)
        have h1 := HEL.out
        have h2 := HL.out
        have h3 : H.length ≤ 12 := by
          rcases hH' with ⟨_, _, h⟩ | ⟨_, _, h⟩ <;> have := h.1 <;> rw [u8s_len] at this <;> omega
        rw [hpre, hpl, List.length_append] at this
        omega
      generalize hP : pre.length = P at hpl hpm
      have HP := hide hP
      have HD := hide hd
      have HPL := hide hpl
      have HU8 := hide hu8
      clear hP hd hpl hpre hu8 hH8
      have szr := b0.size
      rcases hH' with ⟨g1, g2, hH⟩ | ⟨g1, g2, hH⟩ <;> rcases hlt' with h9 | ⟨h9, h10⟩
      all_goals
        go_wp2_with fail
        refine (encode_is _ k _ L (U.enc L) _ (U.enc L).length rfl rfl ho hR32.out (by omega)).mono ?_
        rintro e w1 ⟨Ae, ce, rfl, _, he, bb⟩
        have cc : Below wr.heap.size wr w1 := Below.trans (by repeat (first | exact Below.refl _ _ | refine Below.alloc ?_ (by first | omega | (simp; done) | (simp; omega)) _ | refine below_drewN ?_ _ | refine Below.drew ?_)) (bb.mono (by first | omega | (simp; done) | (simp; omega)))
        have szw1 := cc.size
        replace ho := ho.below (cc.mono (by omega))
        replace hH := hH.below (cc.mono (by omega))
        replace b0 := b0.trans (cc.mono b0.size)
        clear bb cc
        go_wp2_with fail
        refine (decode_is _ _ _ (U.enc L) _ 0 0 0 L k (U.dec_enc_z L HR.out) HL.out he (U.enc_u8 L) (by have := HEL.out; have := HL.out; omega)).mono ?_
        rintro e w2 ⟨Al, cl, rfl, hcl, hl, bb⟩
        clear he
        have cc : Below w1.heap.size w1 w2 := Below.trans (by repeat (first | exact Below.refl _ _ | refine Below.alloc ?_ (by first | omega | (simp; done) | (simp; omega)) _ | refine below_drewN ?_ _ | refine Below.drew ?_)) (bb.mono (by first | omega | (simp; done) | (simp; omega)))
        have szw2 := cc.size
        replace ho := ho.below (cc.mono (by omega))
        replace hH := hH.below (cc.mono (by omega))
        replace b0 := b0.trans (cc.mono b0.size)
        clear bb cc
        have xd := Box.new w2 24 #[.int .i64 0, .int .i64 0, .int .i64 0]
        go_wp2_with (at_builtin; go_must (refine wpList_appN rfl (.tmp 50) (.tmp 51) 27 rfl w2.heap.size 5 i8 _ 1 Try.underlying27 hi8 hy0 hy1 hy2 rfl (.slice (some ⟨w2.heap.size + 1, 0, none⟩) 0 0) 0 [] rfl (own_lit0 _ (by simp) (by simp)) w.heap.size _ _ _ (u8s H) rfl (hH.below (by repeat (first | exact Below.refl _ _ | refine Below.alloc ?_ (by first | omega | (simp; done) | (simp; omega)) _ | refine below_drewN ?_ _ | refine Below.drew ?_))) (u8s_one H) (by omega) (by omega) (by simp; omega) ?_); intro v1 w3 hown3 hg3 hm3)
        have bb : Below (w2.heap.size + 1) _ w3 := below_of_grown hg3 (by simp) (fun g hg => by simp [Value.ownBlock] at hg; omega)
        replace xd := (xd.alloc _).grown hg3 (by simp [Value.ownBlock])
        clear hg3 hm3
        have cc : Below w2.heap.size w2 w3 := Below.trans (by repeat (first | exact Below.refl _ _ | refine Below.alloc ?_ (by first | omega | (simp; done) | (simp; omega)) _ | refine below_drewN ?_ _ | refine Below.drew ?_)) (bb.mono (by first | omega | (simp; done) | (simp; omega)))
        have szw3 := cc.size
        replace ho := ho.below (cc.mono (by omega))
        replace hH := hH.below (cc.mono (by omega))
        replace hl := hl.below (cc.mono (by omega))
        replace b0 := b0.trans (cc.mono b0.size)
        clear bb cc
        go_wp2_with fail
        refine (encode_is _ k _ L (U.enc L) _ (U.enc L).length rfl rfl ((ho.below (by repeat (first | exact Below.refl _ _ | refine Below.alloc ?_ (by first | omega | (simp; done) | (simp; omega)) _ | refine below_drewN ?_ _ | refine Below.drew ?_))).more (by first | omega | (simp; done) | (simp; omega))) hR32.out (by omega)).mono ?_
        rintro e w4 ⟨Af, cf, rfl, _, hf, bb⟩
        replace hown3 := own_below hown3 bb
        have cc : Below w3.heap.size w3 w4 := Below.trans (by repeat (first | exact Below.refl _ _ | refine Below.alloc ?_ (by first | omega | (simp; done) | (simp; omega)) _ | refine below_drewN ?_ _ | refine Below.drew ?_)) (bb.mono (by first | omega | (simp; done) | (simp; omega)))
        have szw4 := cc.size
        replace ho := ho.below (cc.mono (by omega))
        replace hH := hH.below (cc.mono (by omega))
        replace hl := hl.below (cc.mono (by omega))
        replace xd := xd.below cc xd.lt
        replace b0 := b0.trans (cc.mono b0.size)
        clear bb cc
        go_wp2_with (at_builtin; go_must (refine wpList_appN rfl (.tmp 52) (.tmp 54) 27 rfl w2.heap.size 5 i8 _ 1 Try.underlying27 hi8 hy0 hy1 hy2 rfl v1 _ _ rfl hown3 w4.heap.size _ _ _ (u8s (U.enc L)) rfl hf (u8s_one _) (by omega) (by have := HEL.out; have := HL.out; omega) (by omega) ?_); intro v2 w5 hown5 hg5 hm5)
        have bb : Below w2.heap.size w4 w5 := below_of_grown hg5 (by omega) (fun g hg => (hown3.lt g hg).1)
        have szw5 := bb.size
        replace ho := ho.below (bb.mono (by omega))
        replace hl := hl.below bb
        replace xd := xd.grown hg5 (xd.notOwn hown3 (by decide))
        replace b0 := b0.trans (bb.mono (by omega))
        clear hf hg5 hm5 hown3 bb hH
        obtain ⟨Av, cv, rfl, _, _, _⟩ := own_form hown5
        have hv := Seen.of_own hown5
        clear hown5
        simp only [List.nil_append, ← u8s_app] at hv
        go_wp2_with fail
        refine (decode_is _ _ _ (H ++ U.enc L) _ p q s (pre ++ L) (P + k) HD.out HPL.out (hv.below (by repeat (first | exact Below.refl _ _ | refine Below.alloc ?_ (by first | omega | (simp; done) | (simp; omega)) _ | refine below_drewN ?_ _ | refine Below.drew ?_))) HU8.out (by have := HEL.out; have := HL.out; omega)).mono ?_
        rintro e w6 ⟨Ax, cx, rfl, hcx, hx, bb⟩
        clear hv
        have cc : Below w5.heap.size w5 w6 := Below.trans (by repeat (first | exact Below.refl _ _ | refine Below.alloc ?_ (by first | omega | (simp; done) | (simp; omega)) _ | refine below_drewN ?_ _ | refine Below.drew ?_)) (bb.mono (by first | omega | (simp; done) | (simp; omega)))
        have szw6 := cc.size
        replace ho := ho.below (cc.mono (by omega))
        replace hl := hl.below (cc.mono (by omega))
        replace xd := xd.below cc xd.lt
        replace b0 := b0.trans (cc.mono b0.size)
        clear bb cc
        have hxd : (¬ cx = P ∧ Seen w6 w6.heap.size (Ax.map (·.add P)) k (i32s L)) ∨ (cx = P ∧ k = 0 ∧ Seen w6 w6.heap.size Ax 0 (i32s L)) := by
          by_cases hne : cx = P
          · have hk0 : k = 0 := by omega
            have hL0 : L = [] := List.eq_nil_of_length_eq_zero (by rw [HL.out]; exact hk0)
            rw [hL0]
            exact .inr ⟨hne, hk0, Seen.nil_ _ _ _⟩
          · refine .inl ⟨hne, ?_⟩
            have := hx.drop (k := P) (cap := cx) (by omega) hcx
            rw [if_neg hne, Nat.add_sub_cancel_left, i32s_app, List.drop_left' (by rw [i32s_len, HP.out])] at this
            exact this
        clear hx
        rcases hxd with ⟨hne, hxd⟩ | ⟨hne, hk0, hxd⟩
        · have hne' := hne
          go_wp2_with fail
          refine (same32_is L _ _ _ _ _ _ _ _ _ (hxd.below (by repeat (first | exact Below.refl _ _ | refine Below.alloc ?_ (by first | omega | (simp; done) | (simp; omega)) _ | refine below_drewN ?_ _ | refine Below.drew ?_))) (hl.below (by repeat (first | exact Below.refl _ _ | refine Below.alloc ?_ (by first | omega | (simp; done) | (simp; omega)) _ | refine below_drewN ?_ _ | refine Below.drew ?_))) (by omega)).mono ?_
          rintro e w7 ⟨rfl, bb⟩
          clear hxd
          have cc : Below w6.heap.size w6 w7 := Below.trans (by repeat (first | exact Below.refl _ _ | refine Below.alloc ?_ (by first | omega | (simp; done) | (simp; omega)) _ | refine below_drewN ?_ _ | refine Below.drew ?_)) (bb.mono (by first | omega | (simp; done) | (simp; omega)))
          have szw7 := cc.size
          replace ho := ho.below (cc.mono (by omega))
          replace hl := hl.below (cc.mono (by omega))
          replace xd := xd.below cc xd.lt
          replace b0 := b0.trans (cc.mono b0.size)
          clear bb cc
          go_wp2_with fail
          refine (same32_is L _ _ _ _ _ _ _ _ _ (hl.below (by repeat (first | exact Below.refl _ _ | refine Below.alloc ?_ (by first | omega | (simp; done) | (simp; omega)) _ | refine below_drewN ?_ _ | refine Below.drew ?_))) (ho.below (by repeat (first | exact Below.refl _ _ | refine Below.alloc ?_ (by first | omega | (simp; done) | (simp; omega)) _ | refine below_drewN ?_ _ | refine Below.drew ?_))) (by omega)).mono ?_
          rintro e w8 ⟨rfl, bb⟩
          have cc : Below w7.heap.size w7 w8 := Below.trans (by repeat (first | exact Below.refl _ _ | refine Below.alloc ?_ (by first | omega | (simp; done) | (simp; omega)) _ | refine below_drewN ?_ _ | refine Below.drew ?_)) (bb.mono (by first | omega | (simp; done) | (simp; omega)))
          have szw8 := cc.size
          replace ho := ho.below (cc.mono (by omega))
          replace hl := hl.below (cc.mono (by omega))
          replace xd := xd.below cc xd.lt
          replace b0 := b0.trans (cc.mono b0.size)
          clear bb cc
          obtain ⟨k0, k1, k2, _, _, _⟩ := xd.three
          have lx := xd.lt
          go_wp2_with fail
          refine (held_is 0 0 0 false (by simp) _).mono ?_
          rintro e w9 ⟨rfl, bb⟩
          clear k0 k1 k2 lx
          have cc : Below w8.heap.size w8 w9 := Below.trans (by repeat (first | exact Below.refl _ _ | refine Below.alloc ?_ (by first | omega | (simp; done) | (simp; omega)) _ | refine below_drewN ?_ _ | refine Below.drew ?_)) (bb.mono (by first | omega | (simp; done) | (simp; omega)))
          have szw9 := cc.size
          replace ho := ho.below (cc.mono (by omega))
          replace hl := hl.below (cc.mono (by omega))
          replace xd := xd.below cc xd.lt
          replace b0 := b0.trans (cc.mono b0.size)
          clear bb cc
          go_wp2_with fail
          refine (utfRuns_any _).mono ?_
          rintro e w10 ⟨rfl, bb⟩
          have cc : Below w9.heap.size w9 w10 := Below.trans (by repeat (first | exact Below.refl _ _ | refine Below.alloc ?_ (by first | omega | (simp; done) | (simp; omega)) _ | refine below_drewN ?_ _ | refine Below.drew ?_)) (bb.mono (by first | omega | (simp; done) | (simp; omega)))
          have szw10 := cc.size
          replace ho := ho.below (cc.mono (by omega))
          replace hl := hl.below (cc.mono (by omega))
          replace xd := xd.below cc xd.lt
          replace b0 := b0.trans (cc.mono b0.size)
          clear bb cc
          go_wp2_with fail
          go_ret
          exact ⟨rfl, b0⟩
        · try (exfalso; omega)
          all_goals
            subst hk0
            subst hne
            go_wp2_with fail
            refine (same32_is L _ _ _ _ _ _ _ _ _ (hxd.below (by repeat (first | exact Below.refl _ _ | refine Below.alloc ?_ (by first | omega | (simp; done) | (simp; omega)) _ | refine below_drewN ?_ _ | refine Below.drew ?_))) (hl.below (by repeat (first | exact Below.refl _ _ | refine Below.alloc ?_ (by first | omega | (simp; done) | (simp; omega)) _ | refine below_drewN ?_ _ | refine Below.drew ?_))) (by omega)).mono ?_
            rintro e w7 ⟨rfl, bb⟩
            clear hxd
            have cc : Below w6.heap.size w6 w7 := Below.trans (by repeat (first | exact Below.refl _ _ | refine Below.alloc ?_ (by first | omega | (simp; done) | (simp; omega)) _ | refine below_drewN ?_ _ | refine Below.drew ?_)) (bb.mono (by first | omega | (simp; done) | (simp; omega)))
            have szw7 := cc.size
            replace ho := ho.below (cc.mono (by omega))
            replace hl := hl.below (cc.mono (by omega))
            replace xd := xd.below cc xd.lt
            replace b0 := b0.trans (cc.mono b0.size)
            clear bb cc
            go_wp2_with fail
            refine (same32_is L _ _ _ _ _ _ _ _ _ (hl.below (by repeat (first | exact Below.refl _ _ | refine Below.alloc ?_ (by first | omega | (simp; done) | (simp; omega)) _ | refine below_drewN ?_ _ | refine Below.drew ?_))) (ho.below (by repeat (first | exact Below.refl _ _ | refine Below.alloc ?_ (by first | omega | (simp; done) | (simp; omega)) _ | refine below_drewN ?_ _ | refine Below.drew ?_))) (by omega)).mono ?_
            rintro e w8 ⟨rfl, bb⟩
            have cc : Below w7.heap.size w7 w8 := Below.trans (by repeat (first | exact Below.refl _ _ | refine Below.alloc ?_ (by first | omega | (simp; done) | (simp; omega)) _ | refine below_drewN ?_ _ | refine Below.drew ?_)) (bb.mono (by first | omega | (simp; done) | (simp; omega)))
            have szw8 := cc.size
            replace ho := ho.below (cc.mono (by omega))
            replace hl := hl.below (cc.mono (by omega))
            replace xd := xd.below cc xd.lt
            replace b0 := b0.trans (cc.mono b0.size)
            clear bb cc
            obtain ⟨k0, k1, k2, _, _, _⟩ := xd.three
            have lx := xd.lt
            go_wp2_with fail
            refine (held_is 0 0 0 false (by simp) _).mono ?_
            rintro e w9 ⟨rfl, bb⟩
            clear k0 k1 k2 lx
            have cc : Below w8.heap.size w8 w9 := Below.trans (by repeat (first | exact Below.refl _ _ | refine Below.alloc ?_ (by first | omega | (simp; done) | (simp; omega)) _ | refine below_drewN ?_ _ | refine Below.drew ?_)) (bb.mono (by first | omega | (simp; done) | (simp; omega)))
            have szw9 := cc.size
            replace ho := ho.below (cc.mono (by omega))
            replace hl := hl.below (cc.mono (by omega))
            replace xd := xd.below cc xd.lt
            replace b0 := b0.trans (cc.mono b0.size)
            clear bb cc
            go_wp2_with fail
            refine (utfRuns_any _).mono ?_
            rintro e w10 ⟨rfl, bb⟩
            have cc : Below w9.heap.size w9 w10 := Below.trans (by repeat (first | exact Below.refl _ _ | refine Below.alloc ?_ (by first | omega | (simp; done) | (simp; omega)) _ | refine below_drewN ?_ _ | refine Below.drew ?_)) (bb.mono (by first | omega | (simp; done) | (simp; omega)))
            have szw10 := cc.size
            replace ho := ho.below (cc.mono (by omega))
            replace hl := hl.below (cc.mono (by omega))
            replace xd := xd.below cc xd.lt
            replace b0 := b0.trans (cc.mono b0.size)
            clear bb cc
            go_wp2_with fail
            go_ret
            exact ⟨rfl, b0⟩
end Go.Proofs.Ytcbfibpomdhliaa
