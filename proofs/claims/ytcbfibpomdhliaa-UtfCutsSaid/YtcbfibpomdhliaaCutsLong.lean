/- UtfCuts, of more than 30 bytes. -/
import Derived.Test.YtcbfibpomdhliaaRuns
import Derived.Test.YtcbfibpomdhliaaBook
import Derived.Test.YtcbfibpomdhliaaUtfLemmas
import Derived.Test.YtcbfibpomdhliaaArgs
import Derived.OpenShut
import Derived.Deep.RegionHeld3
namespace Go.Proofs.Ytcbfibpomdhliaa.cutslong
open Go.RowKit
set_option linter.unusedVariables false
theorem it_few (s : U.St) (b : Int) (h : s.need ≤ 0) : (U.it s b).2.length ≤ 1 := by
  unfold U.it
  rw [if_pos h]
  exact U.bg_len b
theorem own_form2 {w : World} {base n : Nat} {e : TypeId} {v : Value} {xs : List Value} (h : w.ownsRow base e 1 v n xs) : ∃ A c, v = .slice A n c ∧ n ≤ c ∧ (A = none → c = 0) := by
  rcases h.2 with ⟨rfl, rfl⟩ | ⟨g, cap, cur, rfl, _, hh, h1, h2, _, _⟩
  · exact ⟨none, 0, rfl, Nat.le_refl _, fun _ => rfl⟩
  · exact ⟨_, _, rfl, h1, fun h => by cases h⟩
theorem cell_far3 {w : World} {g : Nat} {a : Addr} (h : a.block ≠ g) (p q u : Value) : (((w.setCell ⟨g, 0, none⟩ p).setCell ⟨g, 1, none⟩ q).setCell ⟨g, 2, none⟩ u).cell? a = w.cell? a := by
  rw [World.cell?_of_block (Below.heap_setCell _ ⟨g, 2, none⟩ _ a.block h), World.cell?_of_block (Below.heap_setCell _ ⟨g, 1, none⟩ _ a.block h), World.cell?_of_block (Below.heap_setCell _ ⟨g, 0, none⟩ _ a.block h)]
set_option maxRecDepth 100000 in
set_option maxHeartbeats 8000000 in
theorem main (A1 : Option Addr) (n1 c1 : Nat) (O : List Int) (cut : Int) (w : World) (g1 : 30 < n1) (g2 : 30 ≤ c1) (hO : Seen w w.heap.size A1 30 (u8s O)) (hO8 : ∀ x ∈ O, 0 ≤ x ∧ x < 256) (hcb : -9223372036854775808 ≤ cut ∧ cut ≤ 9223372036854775807) :
    Calls Try.prog 6 #[.slice A1 n1 c1, .int .i64 cut] w fun e w' => e = .returned (.bool true) ∧ Below w.heap.size w w' := by
  obtain ⟨i0, hi, hz0, hz1, hz2⟩ := info_parts info_i32
  obtain ⟨i8, hi8, hy0, hy1, hy2⟩ := info_parts info_u8
  have HO8 := hide hO8
  clear hO8
  have b0 := Below.refl w.heap.size w
  have HOl := hide (show O.length = 30 from by have := hO.1; rwa [u8s_len] at this)
  have cw := within_any cut 0 30
  have hC : 0 ≤ 0 + cut % (30 - 0 + 1) ∧ 0 + cut % (30 - 0 + 1) ≤ 30 := by have := Int.emod_nonneg cut (b := 30 - 0 + 1) (by omega); have := Int.emod_lt_of_pos cut (b := 30 - 0 + 1) (by omega); omega
  generalize 0 + cut % (30 - 0 + 1) = C at cw hC
  obtain ⟨ck, rfl⟩ := Int.eq_ofNat_of_zero_le hC.1
  have hck : ck ≤ 30 := by omega
  clear hC
  have CW := hide cw
  clear cw
  have hd := (rfl : U.dec U.z O = U.dec U.z O)
  generalize hE : U.dec U.z O = RE at hd
  clear hd
  obtain ⟨⟨pe, qe, se⟩, ys⟩ := RE
  have hysl : ys.length ≤ 60 := by
    have := U.dec_len U.z O
    rw [hE] at this
    have h1 := HOl.out
    simp only [] at this
    omega
  have HE := hide hE
  have HYL := hide hysl
  clear hE hysl
  go_enter Try.func6, Try.ntmps6
  go_wp2_with (at_builtin; go_must (refine wpList_appN rfl (.tmp 15) (.tmp 20) 27 rfl w.heap.size 5 i8 _ 1 Try.underlying27 hi8 hy0 hy1 hy2 rfl (.slice (some ⟨w.heap.size, 0, none⟩) 0 0) 0 [] rfl (own_lit0 _ rfl (Nat.le_refl _)) w.heap.size _ _ _ (u8s O) rfl (hO.below (Below.alloc (Below.refl _ _) (Nat.le_refl _) _)) (u8s_one O) (by omega) (by omega) (by simp) ?_); intro v1 w1 hown1 hg1 hm1; obtain ⟨Ao, co, rfl, hco, hnil⟩ := own_form2 hown1; have HNIL := hide hnil; clear hnil)
  have bb : Below w.heap.size w w1 := Below.trans (Below.alloc (Below.refl _ _) (Nat.le_refl _) _) (below_of_grown hg1 (by simp) (fun g hg => by simp [Value.ownBlock] at hg; omega))
  have szw1 := bb.size
  replace b0 := bb
  clear bb hg1 hm1 hO
  simp only [Nat.zero_add, List.nil_append] at hown1
  have ho := Seen.of_own hown1
  clear hown1
  go_wp2_with fail
  refine (CW.out _ (by omega) (by omega) (by omega) (by omega) (by omega)).mono ?_
  rintro e w' ⟨rfl, rfl⟩
  go_wp2_with fail
  refine (decode_is _ _ _ O _ pe qe se ys ys.length HE.out rfl ho HO8.out (by omega)).mono ?_
  rintro e w2 ⟨Al, cl, rfl, hcl, hl, bb⟩
  have cc : Below w1.heap.size w1 w2 := Below.trans (by repeat (first | exact Below.refl _ _ | refine Below.alloc ?_ (by first | omega | (simp; done) | (simp; omega)) _ | refine below_drewN ?_ _ | refine Below.drew ?_)) (bb.mono (by first | omega | (simp; done) | (simp; omega)))
  have szw2 := cc.size
  replace ho := ho.below (cc.mono (by omega))
  replace b0 := b0.trans (cc.mono b0.size)
  clear bb cc
  have xe := Box.new w2 24 #[.int .i64 pe, .int .i64 qe, .int .i64 se]
  go_wp2_with fail
  refine (decode_any _ ck _ (O.take ck) _ (by rw [u8s, List.map_take]; exact ((ho.take hck).below (by repeat (first | exact Below.refl _ _ | refine Below.alloc ?_ (by first | omega | (simp; done) | (simp; omega)) _ | refine below_drewN ?_ _ | refine Below.drew ?_))).more (by first | omega | (simp; done) | (simp; omega))) (fun x hx => HO8.out x (List.mem_of_mem_take hx)) (by omega)).mono ?_
  rintro e w3 ⟨v2, rfl, hown2, bb⟩
  replace xe := xe.below bb (by simp)
  have cc : Below w2.heap.size w2 w3 := Below.trans (by repeat (first | exact Below.refl _ _ | refine Below.alloc ?_ (by first | omega | (simp; done) | (simp; omega)) _ | refine below_drewN ?_ _ | refine Below.drew ?_)) (bb.mono (by first | omega | (simp; done) | (simp; omega)))
  have szw3 := cc.size
  replace ho := ho.below (cc.mono (by omega))
  replace hl := hl.below (cc.mono (by omega))
  replace b0 := b0.trans (cc.mono b0.size)
  clear bb cc
  have lxe := xe.lt
  rw [World.size_alloc] at hown2
  simp only [U.St.val]
  have xdn := Box.new w3 24 #[.int .i64 (U.dec U.z (O.take ck)).1.need, .int .i64 (U.dec U.z (O.take ck)).1.have_, .int .i64 (U.dec U.z (O.take ck)).1.acc]
  by_cases hcap : co = ck
  · have hckM : 30 ≤ ck := by omega
    go_wp2_with fail
    go_loopw [9, 42] (fun v i wr => ∃ k : Nat, k ≤ 30 - ck ∧ i = .int .i64 k ∧ wr.ownsRow (w2.heap.size + 1) 21 1 v (U.dec U.z (O.take (ck + k))).2.length (i32s (U.dec U.z (O.take (ck + k))).2) ∧ Box wr w3.heap.size 24 #[.int .i64 (U.dec U.z (O.take (ck + k))).1.need, .int .i64 (U.dec U.z (O.take (ck + k))).1.have_, .int .i64 (U.dec U.z (O.take (ck + k))).1.acc] ∧
        Seen wr w1.heap.size Ao 30 (u8s O) ∧ Seen wr w2.heap.size Al ys.length (i32s ys) ∧ Box wr w2.heap.size 24 #[.int .i64 pe, .int .i64 qe, .int .i64 se] ∧ Below w.heap.size w wr) (fun _ i _ => 30 - ck - (intOf i).toNat)
    case atStart => exact ⟨0, Nat.zero_le _, rfl, own_alloc hown2 _, xdn, ho.alloc (by omega) _, hl.alloc (by omega) _, xe.alloc _, b0.alloc (by omega) _⟩
    case round =>
      obtain ⟨k, hk, rfl, hown, xd, ho, hl, xe, b0⟩ := hrel
      have szr := xd.lt
      have hke : ck + k = 30 := by omega
      rw [hke, List.take_of_length_le (by rw [HOl.out]; exact Nat.le_refl _), HE.out] at hown xd
      simp only [] at hown xd
      obtain ⟨A9, c9, rfl, _, _⟩ := own_form2 hown
      have hs := Seen.of_own hown
      clear hown hke
      go_wp2_with fail
      refine (same32_is ys _ _ _ _ _ _ _ _ _ (hs.below (by repeat (first | exact Below.refl _ _ | refine Below.alloc ?_ (by first | omega | (simp; done) | (simp; omega)) _ | refine below_drewN ?_ _ | refine Below.drew ?_))) (hl.below (by repeat (first | exact Below.refl _ _ | refine Below.alloc ?_ (by first | omega | (simp; done) | (simp; omega)) _ | refine below_drewN ?_ _ | refine Below.drew ?_))) (by have := HYL.out; omega)).mono ?_
      rintro e w4 ⟨rfl, bb⟩
      clear hs
      have cc : Below wr.heap.size wr w4 := Below.trans (by repeat (first | exact Below.refl _ _ | refine Below.alloc ?_ (by first | omega | (simp; done) | (simp; omega)) _ | refine below_drewN ?_ _ | refine Below.drew ?_)) (bb.mono (by first | omega | (simp; done) | (simp; omega)))
      have szw4 := cc.size
      replace xd := xd.below cc xd.lt
      replace xe := xe.below cc xe.lt
      replace b0 := b0.trans (cc.mono b0.size)
      clear bb cc
      obtain ⟨k0, k1, k2, _, _, _⟩ := xd.three
      obtain ⟨m0, m1, m2, _, _, _⟩ := xe.three
      go_wp2_with fail
      refine (utfRuns_any _).mono ?_
      rintro e w5 ⟨rfl, bb⟩
      go_wp2_with fail
      go_ret
      exact ⟨rfl, b0.trans (bb.mono b0.size)⟩
  · rcases Ao with _ | ad
    · exfalso
      have := HNIL.out rfl
      omega
    go_wp2_with fail
    go_loopw [9, 42] (fun v i wr => ∃ k : Nat, k ≤ 30 - ck ∧ i = .int .i64 k ∧ wr.ownsRow (w2.heap.size + 1) 21 1 v (U.dec U.z (O.take (ck + k))).2.length (i32s (U.dec U.z (O.take (ck + k))).2) ∧ Box wr w3.heap.size 24 #[.int .i64 (U.dec U.z (O.take (ck + k))).1.need, .int .i64 (U.dec U.z (O.take (ck + k))).1.have_, .int .i64 (U.dec U.z (O.take (ck + k))).1.acc] ∧
        Seen wr w1.heap.size (some ad) 30 (u8s O) ∧ Seen wr w2.heap.size Al ys.length (i32s ys) ∧ Box wr w2.heap.size 24 #[.int .i64 pe, .int .i64 qe, .int .i64 se] ∧ Below w.heap.size w wr) (fun _ i _ => 30 - ck - (intOf i).toNat)
    case atStart => exact ⟨0, Nat.zero_le _, rfl, own_alloc hown2 _, xdn, ho.alloc (by omega) _, hl.alloc (by omega) _, xe.alloc _, b0.alloc (by omega) _⟩
    case round =>
      obtain ⟨k, hk, rfl, hown, xd, ho, hl, xe, b0⟩ := hrel
      have szr := xd.lt
      by_cases hlt : k < 30 - ck
      · obtain ⟨ad', u, had, _, hu, hc⟩ := ho.at_ (k := ck + k) (by omega)
        obtain rfl := Option.some.inj had
        clear had
        rw [u8s, List.getElem?_map] at hu
        obtain ⟨x, hx', rfl⟩ := Option.map_eq_some_iff.1 hu
        have hc' : wr.cell? ((ad.add ck).add k) = some (.int .u8 x) := by rw [addAdd]; exact hc
        have hx := HO8.out x (List.mem_of_getElem? hx')
        have hok := U.dec_ok U.z_ok (O.take (ck + k)) (fun y hy => (HO8.out y (List.mem_of_mem_take hy)).2)
        have hs1 := U.dec_snoc U.z (O.take (ck + k)) x
        rw [show O.take (ck + k) ++ [x] = O.take (ck + k + 1) from by rw [List.take_add_one, hx']; rfl] at hs1
        have hlen := U.dec_len U.z (O.take (ck + k))
        rw [List.length_take] at hlen
        generalize U.dec U.z (O.take (ck + k)) = r0 at hok hs1 xd hown hlen
        obtain ⟨⟨d0, d1, d2⟩, zs⟩ := r0
        simp only [] at hok hs1 xd hown hlen
        have hfew := it_few ⟨d0, d1, d2⟩ x
        have htwo := U.it_len ⟨d0, d1, d2⟩ x
        generalize hit : U.it ⟨d0, d1, d2⟩ x = r1 at hs1 hfew htwo
        obtain ⟨⟨p, q, s⟩, m⟩ := r1
        simp only [] at hs1 hfew htwo
        generalize hnm : m.length = nm at hfew htwo
        generalize hzl : zs.length = zl at hown hlen
        obtain ⟨k0, k1, k2, _, _, _⟩ := xd.three
        have HIT := hide hit
        have HS := hide hs1
        have HOK := hide hok
        have HM := hide hnm
        have HZ := hide hzl
        have hzl2 : zl ≤ 200 := by omega
        clear hu hx' hs1 hok hit hnm hzl hlen hc
        go_wp2_with fail
        refine (push_is _ _ _ x wr _ _ _ _ _ HIT.out HM.out hx.1 hx.2 HOK.out).mono ?_
        rintro e w4 ⟨Am, cm, rfl, hcm, hm, bb⟩
        clear k0 k1 k2
        have cc : Below wr.heap.size wr w4 := Below.trans (by repeat (first | exact Below.refl _ _ | refine Below.alloc ?_ (by first | omega | (simp; done) | (simp; omega)) _ | refine below_drewN ?_ _ | refine Below.drew ?_)) (bb.mono (by first | omega | (simp; done) | (simp; omega)))
        have szw4 := cc.size
        replace ho := ho.below (cc.mono (by omega))
        replace hl := hl.below (cc.mono (by omega))
        replace xd := xd.below cc xd.lt
        replace xe := xe.below cc xe.lt
        replace hown := own_below hown cc
        replace b0 := b0.trans (cc.mono b0.size)
        clear bb cc
        have xn := Box.new w4 24 #[.int .i64 p, .int .i64 q, .int .i64 s]
        obtain ⟨k0, k1, k2, _, _, _⟩ := xd.three
        have lxd := xd.lt
        have hheld : (0 < d0 ∧ nm ≤ 2) ∨ (d0 ≤ 0 ∧ nm ≤ 1) := by
          by_cases hd0 : d0 ≤ 0
          · exact .inr ⟨hd0, hfew hd0⟩
          · exact .inl ⟨by omega, htwo⟩
        clear hfew htwo
        rcases hheld with ⟨hd0, hnm2⟩ | ⟨hd0, hnm2⟩
        · have HB := hide (show decide (0 < d0) = true from decide_eq_true hd0)
          go_wp2_with fail
          refine (held_is d0 d1 d2 true HB.out _).mono ?_
          rintro e w5 ⟨rfl, bb⟩
          replace xn := xn.below bb (by simp)
          clear k0 k1 k2
          have cc : Below w4.heap.size w4 w5 := Below.trans (by repeat (first | exact Below.refl _ _ | refine Below.alloc ?_ (by first | omega | (simp; done) | (simp; omega)) _ | refine below_drewN ?_ _ | refine Below.drew ?_)) (bb.mono (by first | omega | (simp; done) | (simp; omega)))
          have szw5 := cc.size
          replace ho := ho.below (cc.mono (by omega))
          replace hl := hl.below (cc.mono (by omega))
          replace hm := hm.below (cc.mono (by omega))
          replace xd := xd.below cc xd.lt
          replace xe := xe.below cc xe.lt
          replace hown := own_below hown cc
          replace b0 := b0.trans (cc.mono b0.size)
          clear bb cc
          obtain ⟨n0, n1', n2, _, _, _⟩ := xn.three
          go_wp2_with fail
          go_region_held3 (fun w' => w'.cell? ⟨w4.heap.size, 0, none⟩ = some (.int .i64 p) ∧ w'.cell? ⟨w4.heap.size, 1, none⟩ = some (.int .i64 q) ∧ w'.cell? ⟨w4.heap.size, 2, none⟩ = some (.int .i64 s))
            (first | go_keep | exact ⟨m0, m1, m2⟩ | (have zz := (xn6.far3 (show w4.heap.size ≠ w3.heap.size by omega) (.int .i64 p) (.int .i64 q) (.int .i64 s)).three; exact ⟨zz.1, zz.2.1, zz.2.2.1⟩))
            ((refine step_appN (by rfl) (.tmp 65) (.tmp 66) 22 (by rfl) (w2.heap.size + 1) 21 i0 _ 4 Try.underlying22 hi hz0 hz1 hz2 rfl u9 zl (i32s zs) (by rfl) (own_drew hown) w4.heap.size Am nm cm (i32s m) (by rfl) hm.drew (i32s_one m) (by omega) (by omega) (by simp; omega) ?_; intro v' w6 hown6 hg6 hm6; have hg6' : w5.grownBy w6 u9.ownBlock := ⟨hg6.os, hg6.tape, hg6.output, hg6.size, hg6.block⟩; have xn6 := xn.grown hg6' (xn.notOwn hown (by decide)); have xd6 := xd.grown hg6' (xd.notOwn hown (by decide)); obtain ⟨m0, m1, m2, _, _, _⟩ := xn6.three; obtain ⟨o0, o1, o2, o3, o4, o5⟩ := xd6.three))
          all_goals
            go_wp2_with fail
            go_roundw
          case rel =>
            have hln := hown6.lt
            refine ⟨k + 1, by omega, by go_num, ?_, ?_, ?_, ?_, ?_, ?_⟩
            · rw [← Nat.add_assoc, HS.out]
              have := own_set3 hown6 (fun e => xd6.notOwn hown6 (by decide) e.symm) (.int .i64 p) (.int .i64 q) (.int .i64 s)
              simp only [List.length_append, HZ.out, HM.out, i32s_app]
              exact this
            · rw [← Nat.add_assoc, HS.out]
              exact xd6.set3 _ _ _
            · exact (ho.grown hg6' (by omega) (fun g hg => by have := (hown.lt g hg).1; omega)).keep fun y hy => cell_far3 (by omega) _ _ _
            · exact (hl.grown hg6' (by omega) (fun g hg => by have := (hown.lt g hg).1; omega)).keep fun y hy => cell_far3 (by omega) _ _ _
            · exact (xe.grown hg6' (xe.notOwn hown (by decide))).far3 (by omega) _ _ _
            · exact below_set3 (b0.grown hg6' (by omega) (fun g hg => by have := (hown.lt g hg).1; omega)) (by omega) _ _ _
          case measure => simp [intOf]; omega
        · have HB := hide (show decide (0 < d0) = false from decide_eq_false (by omega))
          go_wp2_with fail
          refine (held_is d0 d1 d2 false HB.out _).mono ?_
          rintro e w5 ⟨rfl, bb⟩
          replace xn := xn.below bb (by simp)
          clear k0 k1 k2
          have cc : Below w4.heap.size w4 w5 := Below.trans (by repeat (first | exact Below.refl _ _ | refine Below.alloc ?_ (by first | omega | (simp; done) | (simp; omega)) _ | refine below_drewN ?_ _ | refine Below.drew ?_)) (bb.mono (by first | omega | (simp; done) | (simp; omega)))
          have szw5 := cc.size
          replace ho := ho.below (cc.mono (by omega))
          replace hl := hl.below (cc.mono (by omega))
          replace hm := hm.below (cc.mono (by omega))
          replace xd := xd.below cc xd.lt
          replace xe := xe.below cc xe.lt
          replace hown := own_below hown cc
          replace b0 := b0.trans (cc.mono b0.size)
          clear bb cc
          obtain ⟨n0, n1', n2, _, _, _⟩ := xn.three
          go_wp2_with fail
          go_region_held3 (fun w' => w'.cell? ⟨w4.heap.size, 0, none⟩ = some (.int .i64 p) ∧ w'.cell? ⟨w4.heap.size, 1, none⟩ = some (.int .i64 q) ∧ w'.cell? ⟨w4.heap.size, 2, none⟩ = some (.int .i64 s))
            (first | go_keep | exact ⟨m0, m1, m2⟩ | (have zz := (xn6.far3 (show w4.heap.size ≠ w3.heap.size by omega) (.int .i64 p) (.int .i64 q) (.int .i64 s)).three; exact ⟨zz.1, zz.2.1, zz.2.2.1⟩))
            ((refine step_appN (by rfl) (.tmp 65) (.tmp 66) 22 (by rfl) (w2.heap.size + 1) 21 i0 _ 4 Try.underlying22 hi hz0 hz1 hz2 rfl u9 zl (i32s zs) (by rfl) (own_drew hown) w4.heap.size Am nm cm (i32s m) (by rfl) hm.drew (i32s_one m) (by omega) (by omega) (by simp; omega) ?_; intro v' w6 hown6 hg6 hm6; have hg6' : w5.grownBy w6 u9.ownBlock := ⟨hg6.os, hg6.tape, hg6.output, hg6.size, hg6.block⟩; have xn6 := xn.grown hg6' (xn.notOwn hown (by decide)); have xd6 := xd.grown hg6' (xd.notOwn hown (by decide)); obtain ⟨m0, m1, m2, _, _, _⟩ := xn6.three; obtain ⟨o0, o1, o2, o3, o4, o5⟩ := xd6.three))
          all_goals
            go_wp2_with fail
            go_roundw
          case rel =>
            have hln := hown6.lt
            refine ⟨k + 1, by omega, by go_num, ?_, ?_, ?_, ?_, ?_, ?_⟩
            · rw [← Nat.add_assoc, HS.out]
              have := own_set3 hown6 (fun e => xd6.notOwn hown6 (by decide) e.symm) (.int .i64 p) (.int .i64 q) (.int .i64 s)
              simp only [List.length_append, HZ.out, HM.out, i32s_app]
              exact this
            · rw [← Nat.add_assoc, HS.out]
              exact xd6.set3 _ _ _
            · exact (ho.grown hg6' (by omega) (fun g hg => by have := (hown.lt g hg).1; omega)).keep fun y hy => cell_far3 (by omega) _ _ _
            · exact (hl.grown hg6' (by omega) (fun g hg => by have := (hown.lt g hg).1; omega)).keep fun y hy => cell_far3 (by omega) _ _ _
            · exact (xe.grown hg6' (xe.notOwn hown (by decide))).far3 (by omega) _ _ _
            · exact below_set3 (b0.grown hg6' (by omega) (fun g hg => by have := (hown.lt g hg).1; omega)) (by omega) _ _ _
          case measure => simp [intOf]; omega
      · have hk2 := hk
        have hke : ck + k = 30 := by omega
        rw [hke, List.take_of_length_le (by rw [HOl.out]; exact Nat.le_refl _), HE.out] at hown xd
        simp only [] at hown xd
        obtain ⟨A9, c9, rfl, _, _⟩ := own_form2 hown
        have hs := Seen.of_own hown
        clear hown hke
        go_wp2_with fail
        refine (same32_is ys _ _ _ _ _ _ _ _ _ (hs.below (by repeat (first | exact Below.refl _ _ | refine Below.alloc ?_ (by first | omega | (simp; done) | (simp; omega)) _ | refine below_drewN ?_ _ | refine Below.drew ?_))) (hl.below (by repeat (first | exact Below.refl _ _ | refine Below.alloc ?_ (by first | omega | (simp; done) | (simp; omega)) _ | refine below_drewN ?_ _ | refine Below.drew ?_))) (by have := HYL.out; omega)).mono ?_
        rintro e w4 ⟨rfl, bb⟩
        clear hs
        have cc : Below wr.heap.size wr w4 := Below.trans (by repeat (first | exact Below.refl _ _ | refine Below.alloc ?_ (by first | omega | (simp; done) | (simp; omega)) _ | refine below_drewN ?_ _ | refine Below.drew ?_)) (bb.mono (by first | omega | (simp; done) | (simp; omega)))
        have szw4 := cc.size
        replace xd := xd.below cc xd.lt
        replace xe := xe.below cc xe.lt
        replace b0 := b0.trans (cc.mono b0.size)
        clear bb cc
        obtain ⟨k0, k1, k2, _, _, _⟩ := xd.three
        obtain ⟨m0, m1, m2, _, _, _⟩ := xe.three
        go_wp2_with fail
        refine (utfRuns_any _).mono ?_
        rintro e w5 ⟨rfl, bb⟩
        go_wp2_with fail
        go_ret
        exact ⟨rfl, b0.trans (bb.mono b0.size)⟩
end Go.Proofs.Ytcbfibpomdhliaa.cutslong
