/- UtfTells, of more than 40 bytes and more than 10 runes. -/
import Derived.Test.YtcbfibpomdhliaaTellsParts
namespace Go.Proofs.Ytcbfibpomdhliaa.tells11
open Go.RowKit
set_option linter.unusedVariables false
set_option maxRecDepth 100000 in
set_option maxHeartbeats 8000000 in
theorem main (A1 : Option Addr) (n1 c1 : Nat) (O : List Int) (A2 : Option Addr) (n2 c2 : Nat) (L : List Int) (w : World) (g1 : 40 < n1) (g2 : 40 ≤ c1) (g3 : 10 < n2) (g4 : 10 ≤ c2) (hO : Seen w w.heap.size A1 40 (u8s O)) (hO8 : ∀ x ∈ O, 0 ≤ x ∧ x < 256)
    (hR : Seen w w.heap.size A2 10 (i32s L)) (hL32 : ∀ x ∈ L, -2147483648 ≤ x ∧ x ≤ 2147483647) :
    Calls Try.prog 4 #[.slice A1 n1 c1, .slice A2 n2 c2] w fun e w' => e = .returned (.bool true) ∧ Below w.heap.size w w' := by
  obtain ⟨i0, hi, hz0, hz1, hz2⟩ := info_parts info_i32
  obtain ⟨i8, hi8, hy0, hy1, hy2⟩ := info_parts info_u8
  have HO8 := hide hO8
  have HL32 := hide hL32
  clear hO8 hL32
  have b0 := Below.refl w.heap.size w
  have HOl := hide (show O.length = 40 from by have := hO.1; rwa [u8s_len] at this)
  have HLl := hide (show L.length = 10 from by have := hR.1; rwa [i32s_len] at this)
  have hEL := U.enc_len L
  rw [HLl.out] at hEL
  have HEL := hide hEL
  clear hEL
  obtain ⟨RE, hE⟩ : ∃ RE, U.dec U.z O = RE := ⟨_, rfl⟩
  obtain ⟨⟨p, q, s⟩, ys⟩ := RE
  have hysl : ys.length ≤ 80 := by
    have := U.dec_len U.z O
    rw [hE] at this
    have h1 := HOl.out
    simp only [] at this
    omega
  have HE := hide hE
  have HYL := hide hysl
  clear hE hysl
  go_enter Try.func4, Try.ntmps4
  go_wp2_with (at_builtin; go_must (refine wpList_appN rfl (.tmp 15) (.tmp 20) 27 rfl w.heap.size 5 i8 _ 1 Try.underlying27 hi8 hy0 hy1 hy2 rfl (.slice (some ⟨w.heap.size, 0, none⟩) 0 0) 0 [] rfl (own_lit0 _ rfl (Nat.le_refl _)) w.heap.size _ _ _ (u8s O) rfl (hO.below (Below.alloc (Below.refl _ _) (Nat.le_refl _) _)) (u8s_one O) (by omega) (by omega) (by simp) ?_); intro v1 w1 hown1 hg1 hm1; obtain ⟨Ao, co, rfl, hco, _, _⟩ := own_form hown1)
  have bb : Below w.heap.size w w1 := Below.trans (Below.alloc (Below.refl _ _) (Nat.le_refl _) _) (below_of_grown hg1 (by simp) (fun g hg => by simp [Value.ownBlock] at hg; omega))
  clear hg1 hm1 hO
  simp only [Nat.zero_add, List.nil_append] at hown1
  have ho := Seen.of_own hown1
  clear hown1
  have cc : Below w.heap.size w w1 := Below.trans (by repeat (first | exact Below.refl _ _ | refine Below.alloc ?_ (by first | omega | (simp; done) | (simp; omega)) _ | refine below_drewN ?_ _ | refine Below.drew ?_)) (bb.mono (by first | omega | (simp; done) | (simp; omega)))
  have szw1 := cc.size
  replace hR := hR.below (cc.mono (by omega))
  replace b0 := b0.trans (cc.mono b0.size)
  clear bb cc
  go_wp2_with fail
  refine (decode_is _ _ _ O _ p q s ys ys.length HE.out rfl ho HO8.out (by omega)).mono ?_
  rintro e w2 ⟨Al, cl, rfl, hcl, hl, bb⟩
  have cc : Below w1.heap.size w1 w2 := Below.trans (by repeat (first | exact Below.refl _ _ | refine Below.alloc ?_ (by first | omega | (simp; done) | (simp; omega)) _ | refine below_drewN ?_ _ | refine Below.drew ?_)) (bb.mono (by first | omega | (simp; done) | (simp; omega)))
  have szw2 := cc.size
  replace hR := hR.below (cc.mono (by omega))
  replace ho := ho.below (cc.mono (by omega))
  replace b0 := b0.trans (cc.mono b0.size)
  clear bb cc
  have xd := Box.new w2 24 #[.int .i64 p, .int .i64 q, .int .i64 s]
  go_wp2_with fail
  refine (refDecode_is _ _ _ O _ p q s ys HE.out ((ho.below (by repeat (first | exact Below.refl _ _ | refine Below.alloc ?_ (by first | omega | (simp; done) | (simp; omega)) _ | refine below_drewN ?_ _ | refine Below.drew ?_))).more (by first | omega | (simp; done) | (simp; omega))) HO8.out (by omega)).mono ?_
  rintro e w3 ⟨Aw, cw, left, rfl, hiff, hw, bb⟩
  replace xd := xd.below bb (by simp)
  clear ho
  have cc : Below w2.heap.size w2 w3 := Below.trans (by repeat (first | exact Below.refl _ _ | refine Below.alloc ?_ (by first | omega | (simp; done) | (simp; omega)) _ | refine below_drewN ?_ _ | refine Below.drew ?_)) (bb.mono (by first | omega | (simp; done) | (simp; omega)))
  have szw3 := cc.size
  replace hR := hR.below (cc.mono (by omega))
  replace hl := hl.below (cc.mono (by omega))
  replace b0 := b0.trans (cc.mono b0.size)
  clear bb cc
  go_wp2_with (at_builtin; go_must (refine wpList_appN rfl (.tmp 32) (.tmp 37) 22 rfl w3.heap.size 21 i0 _ 4 Try.underlying22 hi hz0 hz1 hz2 rfl (.slice (some ⟨w3.heap.size, 0, none⟩) 0 0) 0 [] rfl (own_lit0 _ rfl (Nat.le_refl _)) w.heap.size _ _ _ (i32s L) rfl (hR.below (by repeat (first | exact Below.refl _ _ | refine Below.alloc ?_ (by first | omega | (simp; done) | (simp; omega)) _ | refine below_drewN ?_ _ | refine Below.drew ?_))) (i32s_one L) (by omega) (by omega) (by simp) ?_); intro v4 w4 hown4 hg4 hm4; obtain ⟨A4, c4, rfl, hc4, _, _⟩ := own_form hown4)
  have bb : Below w3.heap.size w3 w4 := Below.trans (Below.alloc (Below.refl _ _) (Nat.le_refl _) _) (below_of_grown hg4 (by simp) (fun g hg => by simp [Value.ownBlock] at hg; omega))
  clear hg4 hm4 hR
  simp only [Nat.zero_add, List.nil_append] at hown4
  have h2 := Seen.of_own hown4
  clear hown4
  have cc : Below w3.heap.size w3 w4 := Below.trans (by repeat (first | exact Below.refl _ _ | refine Below.alloc ?_ (by first | omega | (simp; done) | (simp; omega)) _ | refine below_drewN ?_ _ | refine Below.drew ?_)) (bb.mono (by first | omega | (simp; done) | (simp; omega)))
  have szw4 := cc.size
  replace hl := hl.below (cc.mono (by omega))
  replace hw := hw.below (cc.mono (by omega))
  replace xd := xd.below cc xd.lt
  replace b0 := b0.trans (cc.mono b0.size)
  clear bb cc
  go_loopw [11, 41] (fun v i wr => ∃ k : Nat, k ≤ 10 ∧ i = .int .i64 k ∧ wr.ownsRow w4.heap.size 5 1 v (U.enc (L.take k)).length (u8s (U.enc (L.take k))) ∧ Seen wr w2.heap.size Al ys.length (i32s ys) ∧ Seen wr w3.heap.size Aw ys.length (i32s ys) ∧
      Box wr w2.heap.size 24 #[.int .i64 p, .int .i64 q, .int .i64 s] ∧ Seen wr w4.heap.size A4 10 (i32s L) ∧ Below w.heap.size w wr ∧ w4.heap.size ≤ wr.heap.size) (fun _ i _ => 10 - (intOf i).toNat)
  case atStart => exact ⟨0, Nat.zero_le _, rfl, World.ownsRow_nil _ _ _ _, hl, hw, xd, h2, b0, Nat.le_refl _⟩
  case round =>
    obtain ⟨k, hk, rfl, hown, hl, hw, xd, h2, b0, szr⟩ := hrel
    by_cases hlt : k < 10
    · obtain ⟨ad, u, rfl, _, hu, hc⟩ := h2.at_ hlt
      rw [i32s, List.getElem?_map] at hu
      obtain ⟨x, hx', rfl⟩ := Option.map_eq_some_iff.1 hu
      have hx := HL32.out x (List.mem_of_getElem? hx')
      have hs1 := U.enc_snoc (L.take k) x
      rw [show L.take k ++ [x] = L.take (k + 1) from by rw [List.take_add_one, hx']; rfl] at hs1
      have hlen := U.enc_len (L.take k)
      rw [List.length_take] at hlen
      have h4 := U.en1_len x
      generalize U.enc (L.take k) = zs at hs1 hown hlen
      generalize hzl : zs.length = zl at hown hlen
      have C := hide (refEncode_any x wr hx.1 hx.2)
      generalize U.en1 x = ts at hs1 C h4
      generalize htl : ts.length = tl at C h4
      have HS := hide hs1
      have HZ := hide hzl
      have HT := hide htl
      have hzl2 : zl ≤ 100 := by omega
      clear hu hx' hs1 hzl htl hlen
      go_wp2_with fail
      refine C.out.mono ?_
      rintro e w5 ⟨At, ct, rfl, _, ht, bb⟩
      replace hown := own_below hown bb
      have cc : Below wr.heap.size wr w5 := Below.trans (by repeat (first | exact Below.refl _ _ | refine Below.alloc ?_ (by first | omega | (simp; done) | (simp; omega)) _ | refine below_drewN ?_ _ | refine Below.drew ?_)) (bb.mono (by first | omega | (simp; done) | (simp; omega)))
      have szw5 := cc.size
      replace hl := hl.below (cc.mono (by omega))
      replace hw := hw.below (cc.mono (by omega))
      replace h2 := h2.below (cc.mono (by omega))
      replace xd := xd.below cc xd.lt
      replace b0 := b0.trans (cc.mono b0.size)
      clear bb cc
      go_wp2_with (at_builtin; go_must (refine wpList_appN rfl (.tmp 45) (.tmp 47) 27 rfl w4.heap.size 5 i8 _ 1 Try.underlying27 hi8 hy0 hy1 hy2 rfl u11 zl (u8s zs) rfl hown w5.heap.size _ _ _ (u8s ts) rfl ht (u8s_one ts) (by omega) (by omega) (by omega) ?_); intro v6 w6 hown6 hg6 hm6)
      go_roundw
      case rel =>
        have hlo := fun g hg => (hown.lt g hg).1
        have hsz := hg6.size
        refine ⟨k + 1, by omega, by go_num, ?_, hl.grown hg6 (by omega) (fun g hg => by have := hlo g hg; omega), hw.grown hg6 (by omega) (fun g hg => by have := hlo g hg; omega), xd.grown hg6 (xd.notOwn hown (by decide)), h2.grown hg6 (by omega) (fun g hg => by have := hlo g hg; omega), b0.grown hg6 (by omega) (fun g hg => by have := hlo g hg; omega), by omega⟩
        rw [HS.out, List.length_append, HZ.out, HT.out, u8s_app]
        exact hown6
      case measure => simp [intOf]; omega
    · have hk10 : k = 10 := by omega
      subst hk10
      rw [List.take_of_length_le (by rw [HLl.out]; exact Nat.le_refl _)] at hown
      obtain ⟨Ax, cx, rfl, _, _, _⟩ := own_form hown
      have hx := Seen.of_own hown
      clear hown
      go_wp2_with fail
      refine (roomy_any _ _ _ L 7 _ ((h2.below (by repeat (first | exact Below.refl _ _ | refine Below.alloc ?_ (by first | omega | (simp; done) | (simp; omega)) _ | refine below_drewN ?_ _ | refine Below.drew ?_))).more (by first | omega | (simp; done) | (simp; omega))) (by omega)).mono ?_
      rintro e w7 ⟨Af, cf, rfl, hcf, hf, bb⟩
      have cc : Below wr.heap.size wr w7 := Below.trans (by repeat (first | exact Below.refl _ _ | refine Below.alloc ?_ (by first | omega | (simp; done) | (simp; omega)) _ | refine below_drewN ?_ _ | refine Below.drew ?_)) (bb.mono (by first | omega | (simp; done) | (simp; omega)))
      have szw7 := cc.size
      replace hl := hl.below (cc.mono (by omega))
      replace hw := hw.below (cc.mono (by omega))
      replace h2 := h2.below (cc.mono (by omega))
      replace hx := hx.below (cc.mono (by omega))
      replace xd := xd.below cc xd.lt
      replace b0 := b0.trans (cc.mono b0.size)
      clear bb cc
      have hpl : (0 < p ∧ 0 < left) ∨ (p ≤ 0 ∧ left ≤ 0) := by omega
      clear hiff
      rcases hpl with ⟨hp, hle⟩ | ⟨hp, hle⟩
      · have HPB := hide (show decide (0 < p) = true from decide_eq_true hp)
        go_wp2_with fail
        refine (same32_is ys _ _ _ _ _ _ _ _ _ (hl.below (by repeat (first | exact Below.refl _ _ | refine Below.alloc ?_ (by first | omega | (simp; done) | (simp; omega)) _ | refine below_drewN ?_ _ | refine Below.drew ?_))) (hw.below (by repeat (first | exact Below.refl _ _ | refine Below.alloc ?_ (by first | omega | (simp; done) | (simp; omega)) _ | refine below_drewN ?_ _ | refine Below.drew ?_))) (by have := HYL.out; omega)).mono ?_
        rintro e w8 ⟨rfl, bb⟩
        have cc : Below w7.heap.size w7 w8 := Below.trans (by repeat (first | exact Below.refl _ _ | refine Below.alloc ?_ (by first | omega | (simp; done) | (simp; omega)) _ | refine below_drewN ?_ _ | refine Below.drew ?_)) (bb.mono (by first | omega | (simp; done) | (simp; omega)))
        have szw8 := cc.size
        replace hl := hl.below (cc.mono (by omega))
        replace hw := hw.below (cc.mono (by omega))
        replace h2 := h2.below (cc.mono (by omega))
        replace hx := hx.below (cc.mono (by omega))
        replace hf := hf.below (cc.mono (by omega))
        replace xd := xd.below cc xd.lt
        replace b0 := b0.trans (cc.mono b0.size)
        clear bb cc
        obtain ⟨k0, k1, k2, _, _, _⟩ := xd.three
        have lx := xd.lt
        go_wp2_with fail
        refine (held_is p q s true HPB.out _).mono ?_
        rintro e w9 ⟨rfl, bb⟩
        have cc : Below w8.heap.size w8 w9 := Below.trans (by repeat (first | exact Below.refl _ _ | refine Below.alloc ?_ (by first | omega | (simp; done) | (simp; omega)) _ | refine below_drewN ?_ _ | refine Below.drew ?_)) (bb.mono (by first | omega | (simp; done) | (simp; omega)))
        have szw9 := cc.size
        replace hl := hl.below (cc.mono (by omega))
        replace hw := hw.below (cc.mono (by omega))
        replace h2 := h2.below (cc.mono (by omega))
        replace hx := hx.below (cc.mono (by omega))
        replace hf := hf.below (cc.mono (by omega))
        replace xd := xd.below cc xd.lt
        replace b0 := b0.trans (cc.mono b0.size)
        clear bb cc
        clear k0 k1 k2 lx
        have hft := hf.take (k := 10) (by omega)
        rw [List.take_left' (by rw [i32s_len, HLl.out])] at hft
        go_wp2_with fail
        refine (encode_is _ _ _ L (U.enc L) _ (U.enc L).length rfl rfl ((hft.below (by repeat (first | exact Below.refl _ _ | refine Below.alloc ?_ (by first | omega | (simp; done) | (simp; omega)) _ | refine below_drewN ?_ _ | refine Below.drew ?_))).more (by first | omega | (simp; done) | (simp; omega))) HL32.out (by omega)).mono ?_
        rintro e w10 ⟨Ae, ce, rfl, _, he, bb⟩
        have cc : Below w9.heap.size w9 w10 := Below.trans (by repeat (first | exact Below.refl _ _ | refine Below.alloc ?_ (by first | omega | (simp; done) | (simp; omega)) _ | refine below_drewN ?_ _ | refine Below.drew ?_)) (bb.mono (by first | omega | (simp; done) | (simp; omega)))
        have szw10 := cc.size
        replace hl := hl.below (cc.mono (by omega))
        replace hw := hw.below (cc.mono (by omega))
        replace h2 := h2.below (cc.mono (by omega))
        replace hx := hx.below (cc.mono (by omega))
        replace hf := hf.below (cc.mono (by omega))
        replace xd := xd.below cc xd.lt
        replace b0 := b0.trans (cc.mono b0.size)
        clear bb cc
        clear hft
        go_wp2_with fail
        refine (same8_is (U.enc L) _ _ _ _ _ _ _ _ _ (he.below (by repeat (first | exact Below.refl _ _ | refine Below.alloc ?_ (by first | omega | (simp; done) | (simp; omega)) _ | refine below_drewN ?_ _ | refine Below.drew ?_))) (hx.below (by repeat (first | exact Below.refl _ _ | refine Below.alloc ?_ (by first | omega | (simp; done) | (simp; omega)) _ | refine below_drewN ?_ _ | refine Below.drew ?_))) (by have := HEL.out; omega)).mono ?_
        rintro e w11 ⟨rfl, bb⟩
        have cc : Below w10.heap.size w10 w11 := Below.trans (by repeat (first | exact Below.refl _ _ | refine Below.alloc ?_ (by first | omega | (simp; done) | (simp; omega)) _ | refine below_drewN ?_ _ | refine Below.drew ?_)) (bb.mono (by first | omega | (simp; done) | (simp; omega)))
        have szw11 := cc.size
        replace hl := hl.below (cc.mono (by omega))
        replace hw := hw.below (cc.mono (by omega))
        replace h2 := h2.below (cc.mono (by omega))
        replace hx := hx.below (cc.mono (by omega))
        replace hf := hf.below (cc.mono (by omega))
        replace he := he.below (cc.mono (by omega))
        replace xd := xd.below cc xd.lt
        replace b0 := b0.trans (cc.mono b0.size)
        clear bb cc
        go_wp2_with fail
        refine (intact_any _ _ _ _ _ _ _ L 7 _ (hf.below (by repeat (first | exact Below.refl _ _ | refine Below.alloc ?_ (by first | omega | (simp; done) | (simp; omega)) _ | refine below_drewN ?_ _ | refine Below.drew ?_))) (h2.below (by repeat (first | exact Below.refl _ _ | refine Below.alloc ?_ (by first | omega | (simp; done) | (simp; omega)) _ | refine below_drewN ?_ _ | refine Below.drew ?_))) hcf (by omega)).mono ?_
        rintro e w12 ⟨rfl, bb⟩
        have cc : Below w11.heap.size w11 w12 := Below.trans (by repeat (first | exact Below.refl _ _ | refine Below.alloc ?_ (by first | omega | (simp; done) | (simp; omega)) _ | refine below_drewN ?_ _ | refine Below.drew ?_)) (bb.mono (by first | omega | (simp; done) | (simp; omega)))
        have szw12 := cc.size
        replace hl := hl.below (cc.mono (by omega))
        replace hw := hw.below (cc.mono (by omega))
        replace h2 := h2.below (cc.mono (by omega))
        replace hx := hx.below (cc.mono (by omega))
        replace hf := hf.below (cc.mono (by omega))
        replace he := he.below (cc.mono (by omega))
        replace xd := xd.below cc xd.lt
        replace b0 := b0.trans (cc.mono b0.size)
        clear bb cc
        go_wp2_with fail
        refine (utfRuns_any _).mono ?_
        rintro e w13 ⟨rfl, bb⟩
        have cc : Below w12.heap.size w12 w13 := Below.trans (by repeat (first | exact Below.refl _ _ | refine Below.alloc ?_ (by first | omega | (simp; done) | (simp; omega)) _ | refine below_drewN ?_ _ | refine Below.drew ?_)) (bb.mono (by first | omega | (simp; done) | (simp; omega)))
        have szw13 := cc.size
        replace hl := hl.below (cc.mono (by omega))
        replace hw := hw.below (cc.mono (by omega))
        replace h2 := h2.below (cc.mono (by omega))
        replace hx := hx.below (cc.mono (by omega))
        replace hf := hf.below (cc.mono (by omega))
        replace he := he.below (cc.mono (by omega))
        replace xd := xd.below cc xd.lt
        replace b0 := b0.trans (cc.mono b0.size)
        clear bb cc
        go_wp2_with fail
        go_ret
        exact ⟨rfl, b0⟩
      · have HPB := hide (show decide (0 < p) = false from decide_eq_false (by omega))
        have hlb : decide (0 < left) = false := decide_eq_false (by omega)
        go_wp2_with fail
        refine (same32_is ys _ _ _ _ _ _ _ _ _ (hl.below (by repeat (first | exact Below.refl _ _ | refine Below.alloc ?_ (by first | omega | (simp; done) | (simp; omega)) _ | refine below_drewN ?_ _ | refine Below.drew ?_))) (hw.below (by repeat (first | exact Below.refl _ _ | refine Below.alloc ?_ (by first | omega | (simp; done) | (simp; omega)) _ | refine below_drewN ?_ _ | refine Below.drew ?_))) (by have := HYL.out; omega)).mono ?_
        rintro e w8 ⟨rfl, bb⟩
        have cc : Below w7.heap.size w7 w8 := Below.trans (by repeat (first | exact Below.refl _ _ | refine Below.alloc ?_ (by first | omega | (simp; done) | (simp; omega)) _ | refine below_drewN ?_ _ | refine Below.drew ?_)) (bb.mono (by first | omega | (simp; done) | (simp; omega)))
        have szw8 := cc.size
        replace hl := hl.below (cc.mono (by omega))
        replace hw := hw.below (cc.mono (by omega))
        replace h2 := h2.below (cc.mono (by omega))
        replace hx := hx.below (cc.mono (by omega))
        replace hf := hf.below (cc.mono (by omega))
        replace xd := xd.below cc xd.lt
        replace b0 := b0.trans (cc.mono b0.size)
        clear bb cc
        obtain ⟨k0, k1, k2, _, _, _⟩ := xd.three
        have lx := xd.lt
        go_wp2_with fail
        refine (held_is p q s false HPB.out _).mono ?_
        rintro e w9 ⟨rfl, bb⟩
        have cc : Below w8.heap.size w8 w9 := Below.trans (by repeat (first | exact Below.refl _ _ | refine Below.alloc ?_ (by first | omega | (simp; done) | (simp; omega)) _ | refine below_drewN ?_ _ | refine Below.drew ?_)) (bb.mono (by first | omega | (simp; done) | (simp; omega)))
        have szw9 := cc.size
        replace hl := hl.below (cc.mono (by omega))
        replace hw := hw.below (cc.mono (by omega))
        replace h2 := h2.below (cc.mono (by omega))
        replace hx := hx.below (cc.mono (by omega))
        replace hf := hf.below (cc.mono (by omega))
        replace xd := xd.below cc xd.lt
        replace b0 := b0.trans (cc.mono b0.size)
        clear bb cc
        clear k0 k1 k2 lx
        have hft := hf.take (k := 10) (by omega)
        rw [List.take_left' (by rw [i32s_len, HLl.out])] at hft
        go_wp2_with fail
        refine (encode_is _ _ _ L (U.enc L) _ (U.enc L).length rfl rfl ((hft.below (by repeat (first | exact Below.refl _ _ | refine Below.alloc ?_ (by first | omega | (simp; done) | (simp; omega)) _ | refine below_drewN ?_ _ | refine Below.drew ?_))).more (by first | omega | (simp; done) | (simp; omega))) HL32.out (by omega)).mono ?_
        rintro e w10 ⟨Ae, ce, rfl, _, he, bb⟩
        have cc : Below w9.heap.size w9 w10 := Below.trans (by repeat (first | exact Below.refl _ _ | refine Below.alloc ?_ (by first | omega | (simp; done) | (simp; omega)) _ | refine below_drewN ?_ _ | refine Below.drew ?_)) (bb.mono (by first | omega | (simp; done) | (simp; omega)))
        have szw10 := cc.size
        replace hl := hl.below (cc.mono (by omega))
        replace hw := hw.below (cc.mono (by omega))
        replace h2 := h2.below (cc.mono (by omega))
        replace hx := hx.below (cc.mono (by omega))
        replace hf := hf.below (cc.mono (by omega))
        replace xd := xd.below cc xd.lt
        replace b0 := b0.trans (cc.mono b0.size)
        clear bb cc
        clear hft
        go_wp2_with fail
        refine (same8_is (U.enc L) _ _ _ _ _ _ _ _ _ (he.below (by repeat (first | exact Below.refl _ _ | refine Below.alloc ?_ (by first | omega | (simp; done) | (simp; omega)) _ | refine below_drewN ?_ _ | refine Below.drew ?_))) (hx.below (by repeat (first | exact Below.refl _ _ | refine Below.alloc ?_ (by first | omega | (simp; done) | (simp; omega)) _ | refine below_drewN ?_ _ | refine Below.drew ?_))) (by have := HEL.out; omega)).mono ?_
        rintro e w11 ⟨rfl, bb⟩
        have cc : Below w10.heap.size w10 w11 := Below.trans (by repeat (first | exact Below.refl _ _ | refine Below.alloc ?_ (by first | omega | (simp; done) | (simp; omega)) _ | refine below_drewN ?_ _ | refine Below.drew ?_)) (bb.mono (by first | omega | (simp; done) | (simp; omega)))
        have szw11 := cc.size
        replace hl := hl.below (cc.mono (by omega))
        replace hw := hw.below (cc.mono (by omega))
        replace h2 := h2.below (cc.mono (by omega))
        replace hx := hx.below (cc.mono (by omega))
        replace hf := hf.below (cc.mono (by omega))
        replace he := he.below (cc.mono (by omega))
        replace xd := xd.below cc xd.lt
        replace b0 := b0.trans (cc.mono b0.size)
        clear bb cc
        go_wp2_with fail
        refine (intact_any _ _ _ _ _ _ _ L 7 _ (hf.below (by repeat (first | exact Below.refl _ _ | refine Below.alloc ?_ (by first | omega | (simp; done) | (simp; omega)) _ | refine below_drewN ?_ _ | refine Below.drew ?_))) (h2.below (by repeat (first | exact Below.refl _ _ | refine Below.alloc ?_ (by first | omega | (simp; done) | (simp; omega)) _ | refine below_drewN ?_ _ | refine Below.drew ?_))) hcf (by omega)).mono ?_
        rintro e w12 ⟨rfl, bb⟩
        have cc : Below w11.heap.size w11 w12 := Below.trans (by repeat (first | exact Below.refl _ _ | refine Below.alloc ?_ (by first | omega | (simp; done) | (simp; omega)) _ | refine below_drewN ?_ _ | refine Below.drew ?_)) (bb.mono (by first | omega | (simp; done) | (simp; omega)))
        have szw12 := cc.size
        replace hl := hl.below (cc.mono (by omega))
        replace hw := hw.below (cc.mono (by omega))
        replace h2 := h2.below (cc.mono (by omega))
        replace hx := hx.below (cc.mono (by omega))
        replace hf := hf.below (cc.mono (by omega))
        replace he := he.below (cc.mono (by omega))
        replace xd := xd.below cc xd.lt
        replace b0 := b0.trans (cc.mono b0.size)
        clear bb cc
        go_wp2_with fail
        refine (utfRuns_any _).mono ?_
        rintro e w13 ⟨rfl, bb⟩
        have cc : Below w12.heap.size w12 w13 := Below.trans (by repeat (first | exact Below.refl _ _ | refine Below.alloc ?_ (by first | omega | (simp; done) | (simp; omega)) _ | refine below_drewN ?_ _ | refine Below.drew ?_)) (bb.mono (by first | omega | (simp; done) | (simp; omega)))
        have szw13 := cc.size
        replace hl := hl.below (cc.mono (by omega))
        replace hw := hw.below (cc.mono (by omega))
        replace h2 := h2.below (cc.mono (by omega))
        replace hx := hx.below (cc.mono (by omega))
        replace hf := hf.below (cc.mono (by omega))
        replace he := he.below (cc.mono (by omega))
        replace xd := xd.below cc xd.lt
        replace b0 := b0.trans (cc.mono b0.size)
        clear bb cc
        go_wp2_with fail
        go_ret
        exact ⟨rfl, b0⟩
end Go.Proofs.Ytcbfibpomdhliaa.tells11
