/- UtfWide at an odd number. -/
import Derived.Test.YtcbfibpomdhliaaRuns
import Derived.Test.YtcbfibpomdhliaaBook
import Derived.Test.YtcbfibpomdhliaaUtfLemmas
import Derived.OpenShut
namespace Go.Proofs.Ytcbfibpomdhliaa
open Go.RowKit
set_option linter.unusedVariables false
set_option maxRecDepth 100000 in
set_option maxHeartbeats 2000000 in
theorem wide_odd (n b r : Int) (ne : Nat) (w : World) (hb0 : 0 ≤ b) (hb1 : b < 256) (hbit : bits .and .i64 n 1 = 1) (hne : (U.en r).length = ne)
    (hcs : (ne = 2 ∧ 128 ≤ r ∧ r < 2048) ∨ (ne = 3 ∧ 2048 ≤ r ∧ r < 65536) ∨ (ne = 4 ∧ 65536 ≤ r ∧ r < 1114112)) (hir : U.isR r = true) (K1 : Int) (hK1 : 128 ≤ K1 ∧ K1 ≤ 55295)
    (c1 : ∀ w, Calls Try.prog 18 #[.int .i64 n, .int .i64 128, .int .i64 55295] w fun e w' => e = .returned (.int .i64 K1) ∧ w = w')
    (c2 : ∀ w, Calls Try.prog 18 #[.int .i64 n, .int .i64 57344, .int .i64 1114111] w fun e w' => e = .returned (.int .i64 r) ∧ w = w') :
    Calls Try.prog 7 #[.int .i64 n, .int .u8 b] w fun e w' => e = .returned (.bool true) ∧ Below w.heap.size w w' := by
  have HST := hide (U.steps_en r hir)
  have HU8 := hide (U.en_u8 r hir)
  have HEN := hide (show U.enc [r] = U.en r by simp [U.enc, U.en1, hir])
  have ec := U.and127 b hb0 hb1
  have hc : 0 ≤ b % 128 ∧ b % 128 < 128 := by omega
  generalize b % 128 = c at ec hc
  have C1 := hide c1
  have C2 := hide c2
  have HNE := hide hne
  clear c1 hne hir c2
  generalize U.en r = E at HST HU8 HEN HNE
  have b0 := Below.refl w.heap.size w
  have hr32 : -2147483648 ≤ r ∧ r ≤ 2147483647 := by omega
  have h2 : 2 ≤ ne ∧ ne ≤ 4 := by omega
  rcases hcs with ⟨e, h0, h1⟩ | ⟨e, h0, h1⟩ | ⟨e, h0, h1⟩
  · have hn1 : ne ≤ 2 := by omega
    clear e
    have q1 : decide (65536 ≤ r) = false := by simp; omega
    have q2 : decide (2048 ≤ r) = false := by simp; omega
    have q3 : ((ne : Int) != 2) = false := by simp; omega
    go_enter Try.func7, Try.ntmps7
    go_wp2_with fail
    refine (C1.out _).mono ?_
    rintro e w' ⟨rfl, rfl⟩
    go_wp2_with fail
    refine (C2.out _).mono ?_
    rintro e w' ⟨rfl, rfl⟩
    go_wp2_with fail
    refine (encode_is _ 1 1 [r] E _ _ HEN.out HNE.out (Seen.fresh (by simp) (by simp) rfl rfl) (by simpa using hr32) (by omega)).mono ?_
    rintro e w1 ⟨Ae, ce, rfl, _, he, bb⟩
    have cc : Below w.heap.size w w1 := Below.trans (by repeat (first | exact Below.refl _ _ | refine Below.alloc ?_ (by first | omega | (simp; done) | (simp; omega)) _ | refine below_drewN ?_ _ | refine Below.drew ?_)) (bb.mono (by first | omega | (simp; done) | (simp; omega)))
    replace b0 := b0.trans (cc.mono b0.size)
    have sz1 := cc.size
    clear bb cc
    go_wp2_with fail
    go_loopw [42] (fun i wr => ∃ k : Nat, k ≤ ne ∧ i = .int .i64 k ∧ Box wr w1.heap.size 24 #[.int .i64 (U.dec U.z (E.take k)).1.need, .int .i64 (U.dec U.z (E.take k)).1.have_, .int .i64 (U.dec U.z (E.take k)).1.acc] ∧
        Seen wr w1.heap.size Ae ne (u8s E) ∧ Below w.heap.size w wr) (fun i _ => ne - (intOf i).toNat)
    case atStart => exact ⟨0, Nat.zero_le _, rfl, Box.new w1 _ _, he.alloc (Nat.le_refl _) _, b0.alloc (by omega) _⟩
    case round =>
      obtain ⟨k, hk, rfl, xd, he, b0⟩ := hrel
      by_cases hlt : k < ne
      · obtain ⟨ad, u, rfl, _, hu, hcell⟩ := he.at_ hlt
        rw [u8s, List.getElem?_map] at hu
        obtain ⟨x, hx', rfl⟩ := Option.map_eq_some_iff.1 hu
        have hx := HU8.out x (List.mem_of_getElem? hx')
        have hstep := HST.out k x hx'
        have hok := U.dec_ok U.z_ok (E.take k) (fun y hy => (HU8.out y (List.mem_of_mem_take hy)).2)
        have hs1 := U.dec_snoc U.z (E.take k) x
        rw [show E.take k ++ [x] = E.take (k + 1) from by rw [List.take_add_one, hx']; rfl] at hs1
        rw [HNE.out] at hstep
        generalize U.dec U.z (E.take k) = r0 at hstep hok hs1 xd
        obtain ⟨⟨d0, d1, d2⟩, ys⟩ := r0
        simp only [] at hstep hok hs1 xd
        have hok2 := U.it_ok hok x hx.2
        generalize hit : U.it ⟨d0, d1, d2⟩ x = r1 at hstep hs1 hok2
        obtain ⟨⟨p, q, s⟩, m⟩ := r1
        obtain ⟨k0, k1, k2, _, _, _⟩ := xd.three
        simp only [] at hstep hs1 hok2
        have lxd := xd.lt
        rcases hstep with ⟨hl, hp, hm⟩ | ⟨hl, hq⟩
        · subst hm
          have HIT := hide hit
          have HS := hide hs1
          have HOK := hide hok
          have HOK2 := hide hok2
          have HM := hide (show ([] : List Int).length = 0 from rfl)
          have HB := hide (show decide (0 < p) = true from decide_eq_true hp)
          have HBR := hide (U.broken ⟨p, q, s⟩ c hp hc.1 hc.2)
          clear hu hx' hs1 hok hok2 hit
          go_wp2_with fail
          refine (push_is _ _ _ x wr _ _ _ _ _ HIT.out HM.out hx.1 hx.2 HOK.out).mono ?_
          rintro e w2 ⟨Al, cl, rfl, _, hl, bb⟩
          clear k0 k1 k2
          have cc : Below wr.heap.size wr w2 := Below.trans (by repeat (first | exact Below.refl _ _ | refine Below.alloc ?_ (by first | omega | (simp; done) | (simp; omega)) _ | refine below_drewN ?_ _ | refine Below.drew ?_)) (bb.mono (by first | omega | (simp; done) | (simp; omega)))
          replace he := he.below (cc.mono (by have := xd.lt; omega))
          replace xd := xd.below cc xd.lt
          replace b0 := b0.trans (cc.mono b0.size)
          have szw2 := cc.size
          clear bb cc
          have xn := Box.new w2 24 #[.int .i64 p, .int .i64 q, .int .i64 s]
          go_wp2_with fail
          refine (held_is p q s true HB.out _).mono ?_
          rintro e w3 ⟨rfl, bb⟩
          replace xn := xn.below bb (by simp)
          have cc : Below w2.heap.size w2 w3 := Below.trans (by repeat (first | exact Below.refl _ _ | refine Below.alloc ?_ (by first | omega | (simp; done) | (simp; omega)) _ | refine below_drewN ?_ _ | refine Below.drew ?_)) (bb.mono (by first | omega | (simp; done) | (simp; omega)))
          replace he := he.below (cc.mono (by have := xd.lt; omega))
          replace xd := xd.below cc xd.lt
          replace hl := (hl.below cc).more cc.size
          replace b0 := b0.trans (cc.mono b0.size)
          have szw3 := cc.size
          clear bb cc
          obtain ⟨k0, k1, k2, _, _, _⟩ := xn.three
          have lx := xn.lt
          go_wp2_with fail
          refine (push_is p q s c _ _ _ _ _ 2 HBR.out rfl hc.1 (by omega) HOK2.out).mono ?_
          rintro e w4 ⟨Ab, cb, rfl, _, hbr, bb⟩
          clear k0 k1 k2 lx
          have cc : Below w3.heap.size w3 w4 := Below.trans (by repeat (first | exact Below.refl _ _ | refine Below.alloc ?_ (by first | omega | (simp; done) | (simp; omega)) _ | refine below_drewN ?_ _ | refine Below.drew ?_)) (bb.mono (by first | omega | (simp; done) | (simp; omega)))
          replace he := he.below (cc.mono (by have := xd.lt; omega))
          replace xd := xd.below cc xd.lt
          replace xn := xn.below cc xn.lt
          replace hl := (hl.below cc).more cc.size
          replace b0 := b0.trans (cc.mono b0.size)
          have szw4 := cc.size
          clear bb cc
          go_wp2_with fail
          refine (same32_is [65533, c] _ _ w4.heap.size _ _ _ _ _ _ (hbr.below (by repeat (first | exact Below.refl _ _ | refine Below.alloc ?_ (by first | omega | (simp; done) | (simp; omega)) _ | refine below_drewN ?_ _ | refine Below.drew ?_))) (Seen.fresh (by simp) rfl rfl rfl) (by omega)).mono ?_
          rintro e w5 ⟨rfl, bb⟩
          have cc : Below w4.heap.size w4 w5 := Below.trans (by repeat (first | exact Below.refl _ _ | refine Below.alloc ?_ (by first | omega | (simp; done) | (simp; omega)) _ | refine below_drewN ?_ _ | refine Below.drew ?_)) (bb.mono (by first | omega | (simp; done) | (simp; omega)))
          replace he := he.below (cc.mono (by have := xd.lt; omega))
          replace xd := xd.below cc xd.lt
          replace xn := xn.below cc xn.lt
          replace hl := (hl.below cc).more cc.size
          replace hbr := (hbr.below cc).more cc.size
          replace b0 := b0.trans (cc.mono b0.size)
          have szw5 := cc.size
          clear bb cc
          obtain ⟨k0, k1, k2, _, _, _⟩ := xn.three
          obtain ⟨j0, j1, j2, j3, j4, j5⟩ := xd.three
          have lx := xn.lt
          have ld := xd.lt
          go_wp2_with fail
          go_roundw
          case rel =>
            refine ⟨k + 1, by omega, by go_num, ?_, ?_, below_set3 b0 (by omega) _ _ _⟩
            · rw [HS.out]
              exact xd.set3 _ _ _
            · exact he.keep fun y hy => by rw [World.cell?_setCell_other _ _ _ _ (fun e => by subst e; simp at hy), World.cell?_setCell_other _ _ _ _ (fun e => by subst e; simp at hy), World.cell?_setCell_other _ _ _ _ (fun e => by subst e; simp at hy)]
          case measure => simp [intOf]; omega
        · simp [U.z] at hq
          obtain ⟨⟨rfl, rfl, rfl⟩, rfl⟩ := hq
          have HIT := hide hit
          have HS := hide hs1
          have HOK := hide hok
          have HM := hide (show ([r] : List Int).length = 1 from rfl)
          have HB := hide (show decide ((0 : Int) < 0) = false from rfl)
          clear hu hx' hs1 hok hok2 hit
          go_wp2_with fail
          refine (push_is _ _ _ x wr _ _ _ _ _ HIT.out HM.out hx.1 hx.2 HOK.out).mono ?_
          rintro e w2 ⟨Al, cl, rfl, _, hl, bb⟩
          clear k0 k1 k2
          have cc : Below wr.heap.size wr w2 := Below.trans (by repeat (first | exact Below.refl _ _ | refine Below.alloc ?_ (by first | omega | (simp; done) | (simp; omega)) _ | refine below_drewN ?_ _ | refine Below.drew ?_)) (bb.mono (by first | omega | (simp; done) | (simp; omega)))
          replace he := he.below (cc.mono (by have := xd.lt; omega))
          replace xd := xd.below cc xd.lt
          replace b0 := b0.trans (cc.mono b0.size)
          have szw2 := cc.size
          clear bb cc
          have xn := Box.new w2 24 #[.int .i64 0, .int .i64 0, .int .i64 0]
          go_wp2_with fail
          refine (held_is 0 0 0 false HB.out _).mono ?_
          rintro e w3 ⟨rfl, bb⟩
          replace xn := xn.below bb (by simp)
          have cc : Below w2.heap.size w2 w3 := Below.trans (by repeat (first | exact Below.refl _ _ | refine Below.alloc ?_ (by first | omega | (simp; done) | (simp; omega)) _ | refine below_drewN ?_ _ | refine Below.drew ?_)) (bb.mono (by first | omega | (simp; done) | (simp; omega)))
          replace he := he.below (cc.mono (by have := xd.lt; omega))
          replace xd := xd.below cc xd.lt
          replace hl := (hl.below cc).more cc.size
          replace b0 := b0.trans (cc.mono b0.size)
          have szw3 := cc.size
          clear bb cc
          go_wp2_with fail
          refine (same32_is [r] _ _ w3.heap.size _ _ _ _ _ _ (hl.below (by repeat (first | exact Below.refl _ _ | refine Below.alloc ?_ (by first | omega | (simp; done) | (simp; omega)) _ | refine below_drewN ?_ _ | refine Below.drew ?_))) (Seen.fresh (by simp) rfl rfl rfl) (by omega)).mono ?_
          rintro e w5 ⟨rfl, bb⟩
          have cc : Below w3.heap.size w3 w5 := Below.trans (by repeat (first | exact Below.refl _ _ | refine Below.alloc ?_ (by first | omega | (simp; done) | (simp; omega)) _ | refine below_drewN ?_ _ | refine Below.drew ?_)) (bb.mono (by first | omega | (simp; done) | (simp; omega)))
          replace he := he.below (cc.mono (by have := xd.lt; omega))
          replace xd := xd.below cc xd.lt
          replace xn := xn.below cc xn.lt
          replace hl := (hl.below cc).more cc.size
          replace b0 := b0.trans (cc.mono b0.size)
          have szw5 := cc.size
          clear bb cc
          obtain ⟨k0, k1, k2, _, _, _⟩ := xn.three
          obtain ⟨j0, j1, j2, j3, j4, j5⟩ := xd.three
          have lx := xn.lt
          have ld := xd.lt
          go_wp2_with fail
          go_roundw
          case rel =>
            refine ⟨k + 1, by omega, by go_num, ?_, ?_, below_set3 b0 (by omega) _ _ _⟩
            · rw [HS.out]
              exact xd.set3 _ _ _
            · exact he.keep fun y hy => by rw [World.cell?_setCell_other _ _ _ _ (fun e => by subst e; simp at hy), World.cell?_setCell_other _ _ _ _ (fun e => by subst e; simp at hy), World.cell?_setCell_other _ _ _ _ (fun e => by subst e; simp at hy)]
          case measure => simp [intOf]; omega
      · go_wp2_with fail
        refine (utfRuns_any _).mono ?_
        rintro e w6 ⟨rfl, bb⟩
        go_wp2_with fail
        go_ret
        exact ⟨rfl, b0.trans (bb.mono b0.size)⟩
  · have hn1 : 3 ≤ ne ∧ ne ≤ 3 := by omega
    clear e
    have q1 : decide (65536 ≤ r) = false := by simp; omega
    have q2 : decide (2048 ≤ r) = true := by simp; omega
    have q3 : ((ne : Int) != 3) = false := by simp; omega
    go_enter Try.func7, Try.ntmps7
    go_wp2_with fail
    refine (C1.out _).mono ?_
    rintro e w' ⟨rfl, rfl⟩
    go_wp2_with fail
    refine (C2.out _).mono ?_
    rintro e w' ⟨rfl, rfl⟩
    go_wp2_with fail
    refine (encode_is _ 1 1 [r] E _ _ HEN.out HNE.out (Seen.fresh (by simp) (by simp) rfl rfl) (by simpa using hr32) (by omega)).mono ?_
    rintro e w1 ⟨Ae, ce, rfl, _, he, bb⟩
    have cc : Below w.heap.size w w1 := Below.trans (by repeat (first | exact Below.refl _ _ | refine Below.alloc ?_ (by first | omega | (simp; done) | (simp; omega)) _ | refine below_drewN ?_ _ | refine Below.drew ?_)) (bb.mono (by first | omega | (simp; done) | (simp; omega)))
    replace b0 := b0.trans (cc.mono b0.size)
    have sz1 := cc.size
    clear bb cc
    go_wp2_with fail
    go_loopw [42] (fun i wr => ∃ k : Nat, k ≤ ne ∧ i = .int .i64 k ∧ Box wr w1.heap.size 24 #[.int .i64 (U.dec U.z (E.take k)).1.need, .int .i64 (U.dec U.z (E.take k)).1.have_, .int .i64 (U.dec U.z (E.take k)).1.acc] ∧
        Seen wr w1.heap.size Ae ne (u8s E) ∧ Below w.heap.size w wr) (fun i _ => ne - (intOf i).toNat)
    case atStart => exact ⟨0, Nat.zero_le _, rfl, Box.new w1 _ _, he.alloc (Nat.le_refl _) _, b0.alloc (by omega) _⟩
    case round =>
      obtain ⟨k, hk, rfl, xd, he, b0⟩ := hrel
      by_cases hlt : k < ne
      · obtain ⟨ad, u, rfl, _, hu, hcell⟩ := he.at_ hlt
        rw [u8s, List.getElem?_map] at hu
        obtain ⟨x, hx', rfl⟩ := Option.map_eq_some_iff.1 hu
        have hx := HU8.out x (List.mem_of_getElem? hx')
        have hstep := HST.out k x hx'
        have hok := U.dec_ok U.z_ok (E.take k) (fun y hy => (HU8.out y (List.mem_of_mem_take hy)).2)
        have hs1 := U.dec_snoc U.z (E.take k) x
        rw [show E.take k ++ [x] = E.take (k + 1) from by rw [List.take_add_one, hx']; rfl] at hs1
        rw [HNE.out] at hstep
        generalize U.dec U.z (E.take k) = r0 at hstep hok hs1 xd
        obtain ⟨⟨d0, d1, d2⟩, ys⟩ := r0
        simp only [] at hstep hok hs1 xd
        have hok2 := U.it_ok hok x hx.2
        generalize hit : U.it ⟨d0, d1, d2⟩ x = r1 at hstep hs1 hok2
        obtain ⟨⟨p, q, s⟩, m⟩ := r1
        obtain ⟨k0, k1, k2, _, _, _⟩ := xd.three
        simp only [] at hstep hs1 hok2
        have lxd := xd.lt
        rcases hstep with ⟨hl, hp, hm⟩ | ⟨hl, hq⟩
        · subst hm
          have HIT := hide hit
          have HS := hide hs1
          have HOK := hide hok
          have HOK2 := hide hok2
          have HM := hide (show ([] : List Int).length = 0 from rfl)
          have HB := hide (show decide (0 < p) = true from decide_eq_true hp)
          have HBR := hide (U.broken ⟨p, q, s⟩ c hp hc.1 hc.2)
          clear hu hx' hs1 hok hok2 hit
          go_wp2_with fail
          refine (push_is _ _ _ x wr _ _ _ _ _ HIT.out HM.out hx.1 hx.2 HOK.out).mono ?_
          rintro e w2 ⟨Al, cl, rfl, _, hl, bb⟩
          clear k0 k1 k2
          have cc : Below wr.heap.size wr w2 := Below.trans (by repeat (first | exact Below.refl _ _ | refine Below.alloc ?_ (by first | omega | (simp; done) | (simp; omega)) _ | refine below_drewN ?_ _ | refine Below.drew ?_)) (bb.mono (by first | omega | (simp; done) | (simp; omega)))
          replace he := he.below (cc.mono (by have := xd.lt; omega))
          replace xd := xd.below cc xd.lt
          replace b0 := b0.trans (cc.mono b0.size)
          have szw2 := cc.size
          clear bb cc
          have xn := Box.new w2 24 #[.int .i64 p, .int .i64 q, .int .i64 s]
          go_wp2_with fail
          refine (held_is p q s true HB.out _).mono ?_
          rintro e w3 ⟨rfl, bb⟩
          replace xn := xn.below bb (by simp)
          have cc : Below w2.heap.size w2 w3 := Below.trans (by repeat (first | exact Below.refl _ _ | refine Below.alloc ?_ (by first | omega | (simp; done) | (simp; omega)) _ | refine below_drewN ?_ _ | refine Below.drew ?_)) (bb.mono (by first | omega | (simp; done) | (simp; omega)))
          replace he := he.below (cc.mono (by have := xd.lt; omega))
          replace xd := xd.below cc xd.lt
          replace hl := (hl.below cc).more cc.size
          replace b0 := b0.trans (cc.mono b0.size)
          have szw3 := cc.size
          clear bb cc
          obtain ⟨k0, k1, k2, _, _, _⟩ := xn.three
          have lx := xn.lt
          go_wp2_with fail
          refine (push_is p q s c _ _ _ _ _ 2 HBR.out rfl hc.1 (by omega) HOK2.out).mono ?_
          rintro e w4 ⟨Ab, cb, rfl, _, hbr, bb⟩
          clear k0 k1 k2 lx
          have cc : Below w3.heap.size w3 w4 := Below.trans (by repeat (first | exact Below.refl _ _ | refine Below.alloc ?_ (by first | omega | (simp; done) | (simp; omega)) _ | refine below_drewN ?_ _ | refine Below.drew ?_)) (bb.mono (by first | omega | (simp; done) | (simp; omega)))
          replace he := he.below (cc.mono (by have := xd.lt; omega))
          replace xd := xd.below cc xd.lt
          replace xn := xn.below cc xn.lt
          replace hl := (hl.below cc).more cc.size
          replace b0 := b0.trans (cc.mono b0.size)
          have szw4 := cc.size
          clear bb cc
          go_wp2_with fail
          refine (same32_is [65533, c] _ _ w4.heap.size _ _ _ _ _ _ (hbr.below (by repeat (first | exact Below.refl _ _ | refine Below.alloc ?_ (by first | omega | (simp; done) | (simp; omega)) _ | refine below_drewN ?_ _ | refine Below.drew ?_))) (Seen.fresh (by simp) rfl rfl rfl) (by omega)).mono ?_
          rintro e w5 ⟨rfl, bb⟩
          have cc : Below w4.heap.size w4 w5 := Below.trans (by repeat (first | exact Below.refl _ _ | refine Below.alloc ?_ (by first | omega | (simp; done) | (simp; omega)) _ | refine below_drewN ?_ _ | refine Below.drew ?_)) (bb.mono (by first | omega | (simp; done) | (simp; omega)))
          replace he := he.below (cc.mono (by have := xd.lt; omega))
          replace xd := xd.below cc xd.lt
          replace xn := xn.below cc xn.lt
          replace hl := (hl.below cc).more cc.size
          replace hbr := (hbr.below cc).more cc.size
          replace b0 := b0.trans (cc.mono b0.size)
          have szw5 := cc.size
          clear bb cc
          obtain ⟨k0, k1, k2, _, _, _⟩ := xn.three
          obtain ⟨j0, j1, j2, j3, j4, j5⟩ := xd.three
          have lx := xn.lt
          have ld := xd.lt
          go_wp2_with fail
          go_roundw
          case rel =>
            refine ⟨k + 1, by omega, by go_num, ?_, ?_, below_set3 b0 (by omega) _ _ _⟩
            · rw [HS.out]
              exact xd.set3 _ _ _
            · exact he.keep fun y hy => by rw [World.cell?_setCell_other _ _ _ _ (fun e => by subst e; simp at hy), World.cell?_setCell_other _ _ _ _ (fun e => by subst e; simp at hy), World.cell?_setCell_other _ _ _ _ (fun e => by subst e; simp at hy)]
          case measure => simp [intOf]; omega
        · simp [U.z] at hq
          obtain ⟨⟨rfl, rfl, rfl⟩, rfl⟩ := hq
          have HIT := hide hit
          have HS := hide hs1
          have HOK := hide hok
          have HM := hide (show ([r] : List Int).length = 1 from rfl)
          have HB := hide (show decide ((0 : Int) < 0) = false from rfl)
          clear hu hx' hs1 hok hok2 hit
          go_wp2_with fail
          refine (push_is _ _ _ x wr _ _ _ _ _ HIT.out HM.out hx.1 hx.2 HOK.out).mono ?_
          rintro e w2 ⟨Al, cl, rfl, _, hl, bb⟩
          clear k0 k1 k2
          have cc : Below wr.heap.size wr w2 := Below.trans (by repeat (first | exact Below.refl _ _ | refine Below.alloc ?_ (by first | omega | (simp; done) | (simp; omega)) _ | refine below_drewN ?_ _ | refine Below.drew ?_)) (bb.mono (by first | omega | (simp; done) | (simp; omega)))
          replace he := he.below (cc.mono (by have := xd.lt; omega))
          replace xd := xd.below cc xd.lt
          replace b0 := b0.trans (cc.mono b0.size)
          have szw2 := cc.size
          clear bb cc
          have xn := Box.new w2 24 #[.int .i64 0, .int .i64 0, .int .i64 0]
          go_wp2_with fail
          refine (held_is 0 0 0 false HB.out _).mono ?_
          rintro e w3 ⟨rfl, bb⟩
          replace xn := xn.below bb (by simp)
          have cc : Below w2.heap.size w2 w3 := Below.trans (by repeat (first | exact Below.refl _ _ | refine Below.alloc ?_ (by first | omega | (simp; done) | (simp; omega)) _ | refine below_drewN ?_ _ | refine Below.drew ?_)) (bb.mono (by first | omega | (simp; done) | (simp; omega)))
          replace he := he.below (cc.mono (by have := xd.lt; omega))
          replace xd := xd.below cc xd.lt
          replace hl := (hl.below cc).more cc.size
          replace b0 := b0.trans (cc.mono b0.size)
          have szw3 := cc.size
          clear bb cc
          go_wp2_with fail
          refine (same32_is [r] _ _ w3.heap.size _ _ _ _ _ _ (hl.below (by repeat (first | exact Below.refl _ _ | refine Below.alloc ?_ (by first | omega | (simp; done) | (simp; omega)) _ | refine below_drewN ?_ _ | refine Below.drew ?_))) (Seen.fresh (by simp) rfl rfl rfl) (by omega)).mono ?_
          rintro e w5 ⟨rfl, bb⟩
          have cc : Below w3.heap.size w3 w5 := Below.trans (by repeat (first | exact Below.refl _ _ | refine Below.alloc ?_ (by first | omega | (simp; done) | (simp; omega)) _ | refine below_drewN ?_ _ | refine Below.drew ?_)) (bb.mono (by first | omega | (simp; done) | (simp; omega)))
          replace he := he.below (cc.mono (by have := xd.lt; omega))
          replace xd := xd.below cc xd.lt
          replace xn := xn.below cc xn.lt
          replace hl := (hl.below cc).more cc.size
          replace b0 := b0.trans (cc.mono b0.size)
          have szw5 := cc.size
          clear bb cc
          obtain ⟨k0, k1, k2, _, _, _⟩ := xn.three
          obtain ⟨j0, j1, j2, j3, j4, j5⟩ := xd.three
          have lx := xn.lt
          have ld := xd.lt
          go_wp2_with fail
          go_roundw
          case rel =>
            refine ⟨k + 1, by omega, by go_num, ?_, ?_, below_set3 b0 (by omega) _ _ _⟩
            · rw [HS.out]
              exact xd.set3 _ _ _
            · exact he.keep fun y hy => by rw [World.cell?_setCell_other _ _ _ _ (fun e => by subst e; simp at hy), World.cell?_setCell_other _ _ _ _ (fun e => by subst e; simp at hy), World.cell?_setCell_other _ _ _ _ (fun e => by subst e; simp at hy)]
          case measure => simp [intOf]; omega
      · go_wp2_with fail
        refine (utfRuns_any _).mono ?_
        rintro e w6 ⟨rfl, bb⟩
        go_wp2_with fail
        go_ret
        exact ⟨rfl, b0.trans (bb.mono b0.size)⟩
  · have hn1 : 4 ≤ ne := by omega
    clear e
    have q1 : decide (65536 ≤ r) = true := by simp; omega
    have q3 : ((ne : Int) != 4) = false := by simp; omega
    go_enter Try.func7, Try.ntmps7
    go_wp2_with fail
    refine (C1.out _).mono ?_
    rintro e w' ⟨rfl, rfl⟩
    go_wp2_with fail
    refine (C2.out _).mono ?_
    rintro e w' ⟨rfl, rfl⟩
    go_wp2_with fail
    refine (encode_is _ 1 1 [r] E _ _ HEN.out HNE.out (Seen.fresh (by simp) (by simp) rfl rfl) (by simpa using hr32) (by omega)).mono ?_
    rintro e w1 ⟨Ae, ce, rfl, _, he, bb⟩
    have cc : Below w.heap.size w w1 := Below.trans (by repeat (first | exact Below.refl _ _ | refine Below.alloc ?_ (by first | omega | (simp; done) | (simp; omega)) _ | refine below_drewN ?_ _ | refine Below.drew ?_)) (bb.mono (by first | omega | (simp; done) | (simp; omega)))
    replace b0 := b0.trans (cc.mono b0.size)
    have sz1 := cc.size
    clear bb cc
    go_wp2_with fail
    go_loopw [42] (fun i wr => ∃ k : Nat, k ≤ ne ∧ i = .int .i64 k ∧ Box wr w1.heap.size 24 #[.int .i64 (U.dec U.z (E.take k)).1.need, .int .i64 (U.dec U.z (E.take k)).1.have_, .int .i64 (U.dec U.z (E.take k)).1.acc] ∧
        Seen wr w1.heap.size Ae ne (u8s E) ∧ Below w.heap.size w wr) (fun i _ => ne - (intOf i).toNat)
    case atStart => exact ⟨0, Nat.zero_le _, rfl, Box.new w1 _ _, he.alloc (Nat.le_refl _) _, b0.alloc (by omega) _⟩
    case round =>
      obtain ⟨k, hk, rfl, xd, he, b0⟩ := hrel
      by_cases hlt : k < ne
      · obtain ⟨ad, u, rfl, _, hu, hcell⟩ := he.at_ hlt
        rw [u8s, List.getElem?_map] at hu
        obtain ⟨x, hx', rfl⟩ := Option.map_eq_some_iff.1 hu
        have hx := HU8.out x (List.mem_of_getElem? hx')
        have hstep := HST.out k x hx'
        have hok := U.dec_ok U.z_ok (E.take k) (fun y hy => (HU8.out y (List.mem_of_mem_take hy)).2)
        have hs1 := U.dec_snoc U.z (E.take k) x
        rw [show E.take k ++ [x] = E.take (k + 1) from by rw [List.take_add_one, hx']; rfl] at hs1
        rw [HNE.out] at hstep
        generalize U.dec U.z (E.take k) = r0 at hstep hok hs1 xd
        obtain ⟨⟨d0, d1, d2⟩, ys⟩ := r0
        simp only [] at hstep hok hs1 xd
        have hok2 := U.it_ok hok x hx.2
        generalize hit : U.it ⟨d0, d1, d2⟩ x = r1 at hstep hs1 hok2
        obtain ⟨⟨p, q, s⟩, m⟩ := r1
        obtain ⟨k0, k1, k2, _, _, _⟩ := xd.three
        simp only [] at hstep hs1 hok2
        have lxd := xd.lt
        rcases hstep with ⟨hl, hp, hm⟩ | ⟨hl, hq⟩
        · subst hm
          have HIT := hide hit
          have HS := hide hs1
          have HOK := hide hok
          have HOK2 := hide hok2
          have HM := hide (show ([] : List Int).length = 0 from rfl)
          have HB := hide (show decide (0 < p) = true from decide_eq_true hp)
          have HBR := hide (U.broken ⟨p, q, s⟩ c hp hc.1 hc.2)
          clear hu hx' hs1 hok hok2 hit
          go_wp2_with fail
          refine (push_is _ _ _ x wr _ _ _ _ _ HIT.out HM.out hx.1 hx.2 HOK.out).mono ?_
          rintro e w2 ⟨Al, cl, rfl, _, hl, bb⟩
          clear k0 k1 k2
          have cc : Below wr.heap.size wr w2 := Below.trans (by repeat (first | exact Below.refl _ _ | refine Below.alloc ?_ (by first | omega | (simp; done) | (simp; omega)) _ | refine below_drewN ?_ _ | refine Below.drew ?_)) (bb.mono (by first | omega | (simp; done) | (simp; omega)))
          replace he := he.below (cc.mono (by have := xd.lt; omega))
          replace xd := xd.below cc xd.lt
          replace b0 := b0.trans (cc.mono b0.size)
          have szw2 := cc.size
          clear bb cc
          have xn := Box.new w2 24 #[.int .i64 p, .int .i64 q, .int .i64 s]
          go_wp2_with fail
          refine (held_is p q s true HB.out _).mono ?_
          rintro e w3 ⟨rfl, bb⟩
          replace xn := xn.below bb (by simp)
          have cc : Below w2.heap.size w2 w3 := Below.trans (by repeat (first | exact Below.refl _ _ | refine Below.alloc ?_ (by first | omega | (simp; done) | (simp; omega)) _ | refine below_drewN ?_ _ | refine Below.drew ?_)) (bb.mono (by first | omega | (simp; done) | (simp; omega)))
          replace he := he.below (cc.mono (by have := xd.lt; omega))
          replace xd := xd.below cc xd.lt
          replace hl := (hl.below cc).more cc.size
          replace b0 := b0.trans (cc.mono b0.size)
          have szw3 := cc.size
          clear bb cc
          obtain ⟨k0, k1, k2, _, _, _⟩ := xn.three
          have lx := xn.lt
          go_wp2_with fail
          refine (push_is p q s c _ _ _ _ _ 2 HBR.out rfl hc.1 (by omega) HOK2.out).mono ?_
          rintro e w4 ⟨Ab, cb, rfl, _, hbr, bb⟩
          clear k0 k1 k2 lx
          have cc : Below w3.heap.size w3 w4 := Below.trans (by repeat (first | exact Below.refl _ _ | refine Below.alloc ?_ (by first | omega | (simp; done) | (simp; omega)) _ | refine below_drewN ?_ _ | refine Below.drew ?_)) (bb.mono (by first | omega | (simp; done) | (simp; omega)))
          replace he := he.below (cc.mono (by have := xd.lt; omega))
          replace xd := xd.below cc xd.lt
          replace xn := xn.below cc xn.lt
          replace hl := (hl.below cc).more cc.size
          replace b0 := b0.trans (cc.mono b0.size)
          have szw4 := cc.size
          clear bb cc
          go_wp2_with fail
          refine (same32_is [65533, c] _ _ w4.heap.size _ _ _ _ _ _ (hbr.below (by repeat (first | exact Below.refl _ _ | refine Below.alloc ?_ (by first | omega | (simp; done) | (simp; omega)) _ | refine below_drewN ?_ _ | refine Below.drew ?_))) (Seen.fresh (by simp) rfl rfl rfl) (by omega)).mono ?_
          rintro e w5 ⟨rfl, bb⟩
          have cc : Below w4.heap.size w4 w5 := Below.trans (by repeat (first | exact Below.refl _ _ | refine Below.alloc ?_ (by first | omega | (simp; done) | (simp; omega)) _ | refine below_drewN ?_ _ | refine Below.drew ?_)) (bb.mono (by first | omega | (simp; done) | (simp; omega)))
          replace he := he.below (cc.mono (by have := xd.lt; omega))
          replace xd := xd.below cc xd.lt
          replace xn := xn.below cc xn.lt
          replace hl := (hl.below cc).more cc.size
          replace hbr := (hbr.below cc).more cc.size
          replace b0 := b0.trans (cc.mono b0.size)
          have szw5 := cc.size
          clear bb cc
          obtain ⟨k0, k1, k2, _, _, _⟩ := xn.three
          obtain ⟨j0, j1, j2, j3, j4, j5⟩ := xd.three
          have lx := xn.lt
          have ld := xd.lt
          go_wp2_with fail
          go_roundw
          case rel =>
            refine ⟨k + 1, by omega, by go_num, ?_, ?_, below_set3 b0 (by omega) _ _ _⟩
            · rw [HS.out]
              exact xd.set3 _ _ _
            · exact he.keep fun y hy => by rw [World.cell?_setCell_other _ _ _ _ (fun e => by subst e; simp at hy), World.cell?_setCell_other _ _ _ _ (fun e => by subst e; simp at hy), World.cell?_setCell_other _ _ _ _ (fun e => by subst e; simp at hy)]
          case measure => simp [intOf]; omega
        · simp [U.z] at hq
          obtain ⟨⟨rfl, rfl, rfl⟩, rfl⟩ := hq
          have HIT := hide hit
          have HS := hide hs1
          have HOK := hide hok
          have HM := hide (show ([r] : List Int).length = 1 from rfl)
          have HB := hide (show decide ((0 : Int) < 0) = false from rfl)
          clear hu hx' hs1 hok hok2 hit
          go_wp2_with fail
          refine (push_is _ _ _ x wr _ _ _ _ _ HIT.out HM.out hx.1 hx.2 HOK.out).mono ?_
          rintro e w2 ⟨Al, cl, rfl, _, hl, bb⟩
          clear k0 k1 k2
          have cc : Below wr.heap.size wr w2 := Below.trans (by repeat (first | exact Below.refl _ _ | refine Below.alloc ?_ (by first | omega | (simp; done) | (simp; omega)) _ | refine below_drewN ?_ _ | refine Below.drew ?_)) (bb.mono (by first | omega | (simp; done) | (simp; omega)))
          replace he := he.below (cc.mono (by have := xd.lt; omega))
          replace xd := xd.below cc xd.lt
          replace b0 := b0.trans (cc.mono b0.size)
          have szw2 := cc.size
          clear bb cc
          have xn := Box.new w2 24 #[.int .i64 0, .int .i64 0, .int .i64 0]
          go_wp2_with fail
          refine (held_is 0 0 0 false HB.out _).mono ?_
          rintro e w3 ⟨rfl, bb⟩
          replace xn := xn.below bb (by simp)
          have cc : Below w2.heap.size w2 w3 := Below.trans (by repeat (first | exact Below.refl _ _ | refine Below.alloc ?_ (by first | omega | (simp; done) | (simp; omega)) _ | refine below_drewN ?_ _ | refine Below.drew ?_)) (bb.mono (by first | omega | (simp; done) | (simp; omega)))
          replace he := he.below (cc.mono (by have := xd.lt; omega))
          replace xd := xd.below cc xd.lt
          replace hl := (hl.below cc).more cc.size
          replace b0 := b0.trans (cc.mono b0.size)
          have szw3 := cc.size
          clear bb cc
          go_wp2_with fail
          refine (same32_is [r] _ _ w3.heap.size _ _ _ _ _ _ (hl.below (by repeat (first | exact Below.refl _ _ | refine Below.alloc ?_ (by first | omega | (simp; done) | (simp; omega)) _ | refine below_drewN ?_ _ | refine Below.drew ?_))) (Seen.fresh (by simp) rfl rfl rfl) (by omega)).mono ?_
          rintro e w5 ⟨rfl, bb⟩
          have cc : Below w3.heap.size w3 w5 := Below.trans (by repeat (first | exact Below.refl _ _ | refine Below.alloc ?_ (by first | omega | (simp; done) | (simp; omega)) _ | refine below_drewN ?_ _ | refine Below.drew ?_)) (bb.mono (by first | omega | (simp; done) | (simp; omega)))
          replace he := he.below (cc.mono (by have := xd.lt; omega))
          replace xd := xd.below cc xd.lt
          replace xn := xn.below cc xn.lt
          replace hl := (hl.below cc).more cc.size
          replace b0 := b0.trans (cc.mono b0.size)
          have szw5 := cc.size
          clear bb cc
          obtain ⟨k0, k1, k2, _, _, _⟩ := xn.three
          obtain ⟨j0, j1, j2, j3, j4, j5⟩ := xd.three
          have lx := xn.lt
          have ld := xd.lt
          go_wp2_with fail
          go_roundw
          case rel =>
            refine ⟨k + 1, by omega, by go_num, ?_, ?_, below_set3 b0 (by omega) _ _ _⟩
            · rw [HS.out]
              exact xd.set3 _ _ _
            · exact he.keep fun y hy => by rw [World.cell?_setCell_other _ _ _ _ (fun e => by subst e; simp at hy), World.cell?_setCell_other _ _ _ _ (fun e => by subst e; simp at hy), World.cell?_setCell_other _ _ _ _ (fun e => by subst e; simp at hy)]
          case measure => simp [intOf]; omega
      · go_wp2_with fail
        refine (utfRuns_any _).mono ?_
        rintro e w6 ⟨rfl, bb⟩
        go_wp2_with fail
        go_ret
        exact ⟨rfl, b0.trans (bb.mono b0.size)⟩
end Go.Proofs.Ytcbfibpomdhliaa
