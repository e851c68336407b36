/- UtfRuns answers true; it only makes new memory. -/
import Derived.Test.YtcbfibpomdhliaaUtfUse
namespace Go.Proofs.Ytcbfibpomdhliaa
open Go.RowKit
set_option linter.unusedVariables false

theorem run1 : U.dec U.z [195, 164] = (⟨0, 0, 0⟩, [228]) := by simp [U.dec, U.it, U.bg, U.z, U.wh, U.isR, U.sz]
theorem run2 : U.dec U.z [195, 65] = (⟨0, 0, 0⟩, [65533, 65]) := by simp [U.dec, U.it, U.bg, U.z]
theorem run3 : U.dec U.z [228, 184] = (⟨3, 2, 312⟩, []) := by simp [U.dec, U.it, U.bg, U.z]
theorem run4 : U.dec U.z [237, 160, 128] = (⟨0, 0, 0⟩, [65533]) := by simp [U.dec, U.it, U.bg, U.z, U.wh, U.isR, U.sz]
theorem run5 : U.enc [228] = [195, 164] := by simp [U.enc, U.en1, U.en, U.isR, U.tl]

set_option maxHeartbeats 1000000 in
theorem utfRuns_any (w : World) : Calls Try.prog 3 #[] w fun e w' => e = .returned (.bool true) ∧ Below w.heap.size w w' := by
  go_enter Try.func3, Try.ntmps3
  have b0 := Below.refl w.heap.size w
  go_wp2_with fail
  refine (decode_is _ 2 2 [195, 164] _ _ _ _ _ 1 run1 rfl (Seen.fresh (by simp) (by simp) rfl rfl) (by simp) (by omega)).mono ?_
  rintro e w1 ⟨Aa, ca, rfl, _, ha, bb⟩
  have cc : Below w.heap.size w w1 := Below.trans (by repeat (first | exact Below.refl _ _ | refine Below.alloc ?_ (by first | omega | (simp; done) | (simp; omega)) _ | refine below_drewN ?_ _ | refine Below.drew ?_)) (bb.mono (by first | omega | (simp; done) | (simp; omega)))
  replace b0 := b0.trans (cc.mono b0.size)
  have szw1 := cc.size
  clear bb cc
  have xa := Box.new w1 24 #[.int .i64 0, .int .i64 0, .int .i64 0]
  go_wp2_with fail
  refine (decode_is _ 2 2 [195, 65] _ _ _ _ _ 2 run2 rfl (Seen.fresh (by simp) (by simp) rfl rfl) (by simp) (by omega)).mono ?_
  rintro e w2 ⟨Ab, cb, rfl, _, hb, bb⟩
  replace xa := (xa.alloc _).below bb (by simp; omega)
  have cc : Below w1.heap.size w1 w2 := Below.trans (by repeat (first | exact Below.refl _ _ | refine Below.alloc ?_ (by first | omega | (simp; done) | (simp; omega)) _ | refine below_drewN ?_ _ | refine Below.drew ?_)) (bb.mono (by first | omega | (simp; done) | (simp; omega)))
  replace ha := (ha.below cc).more cc.size
  replace b0 := b0.trans (cc.mono b0.size)
  have szw2 := cc.size
  clear bb cc
  go_wp2_with fail
  refine (decode_is _ 2 2 [228, 184] _ _ _ _ _ 0 run3 rfl (Seen.fresh (by simp) (by simp) rfl rfl) (by simp) (by omega)).mono ?_
  rintro e w3 ⟨Ac, cc, rfl, _, hc, bb⟩
  have cc : Below w2.heap.size w2 w3 := Below.trans (by repeat (first | exact Below.refl _ _ | refine Below.alloc ?_ (by first | omega | (simp; done) | (simp; omega)) _ | refine below_drewN ?_ _ | refine Below.drew ?_)) (bb.mono (by first | omega | (simp; done) | (simp; omega)))
  replace ha := (ha.below cc).more cc.size
  replace hb := (hb.below cc).more cc.size
  replace xa := xa.below cc xa.lt
  replace b0 := b0.trans (cc.mono b0.size)
  have szw3 := cc.size
  clear bb cc
  have xc := Box.new w3 24 #[.int .i64 3, .int .i64 2, .int .i64 312]
  go_wp2_with fail
  refine (decode_is _ 3 3 [237, 160, 128] _ _ _ _ _ 1 run4 rfl (Seen.fresh (by simp) (by simp) rfl rfl) (by simp) (by omega)).mono ?_
  rintro e w4 ⟨As, cs, rfl, _, hs, bb⟩
  replace xc := (xc.alloc _).below bb (by simp; omega)
  have cc : Below w3.heap.size w3 w4 := Below.trans (by repeat (first | exact Below.refl _ _ | refine Below.alloc ?_ (by first | omega | (simp; done) | (simp; omega)) _ | refine below_drewN ?_ _ | refine Below.drew ?_)) (bb.mono (by first | omega | (simp; done) | (simp; omega)))
  replace ha := (ha.below cc).more cc.size
  replace hb := (hb.below cc).more cc.size
  replace hc := (hc.below cc).more cc.size
  replace xa := xa.below cc xa.lt
  replace b0 := b0.trans (cc.mono b0.size)
  have szw4 := cc.size
  clear bb cc
  go_wp2_with fail
  refine (same32_is [228] _ _ w4.heap.size _ _ _ _ _ _ (ha.below (by repeat (first | exact Below.refl _ _ | refine Below.alloc ?_ (by first | omega | (simp; done) | (simp; omega)) _ | refine below_drewN ?_ _ | refine Below.drew ?_))) (Seen.fresh (by simp) rfl rfl rfl) (by omega)).mono ?_
  rintro e w5 ⟨rfl, bb⟩
  have cc : Below w4.heap.size w4 w5 := Below.trans (by repeat (first | exact Below.refl _ _ | refine Below.alloc ?_ (by first | omega | (simp; done) | (simp; omega)) _ | refine below_drewN ?_ _ | refine Below.drew ?_)) (bb.mono (by first | omega | (simp; done) | (simp; omega)))
  replace ha := (ha.below cc).more cc.size
  replace hb := (hb.below cc).more cc.size
  replace hc := (hc.below cc).more cc.size
  replace hs := (hs.below cc).more cc.size
  replace xa := xa.below cc xa.lt
  replace xc := xc.below cc xc.lt
  replace b0 := b0.trans (cc.mono b0.size)
  have szw5 := cc.size
  clear bb cc
  obtain ⟨k0, k1, k2, _, _, _⟩ := xa.three
  have lx := xa.lt
  go_wp2_with fail
  refine (held_is 0 0 0 false (by simp) _).mono ?_
  rintro e w6 ⟨rfl, bb⟩
  clear k0 k1 k2 lx
  have cc : Below w5.heap.size w5 w6 := Below.trans (by repeat (first | exact Below.refl _ _ | refine Below.alloc ?_ (by first | omega | (simp; done) | (simp; omega)) _ | refine below_drewN ?_ _ | refine Below.drew ?_)) (bb.mono (by first | omega | (simp; done) | (simp; omega)))
  replace ha := (ha.below cc).more cc.size
  replace hb := (hb.below cc).more cc.size
  replace hc := (hc.below cc).more cc.size
  replace hs := (hs.below cc).more cc.size
  replace xa := xa.below cc xa.lt
  replace xc := xc.below cc xc.lt
  replace b0 := b0.trans (cc.mono b0.size)
  have szw6 := cc.size
  clear bb cc
  go_wp2_with fail
  refine (same32_is [65533, 65] _ _ w6.heap.size _ _ _ _ _ _ (hb.below (by repeat (first | exact Below.refl _ _ | refine Below.alloc ?_ (by first | omega | (simp; done) | (simp; omega)) _ | refine below_drewN ?_ _ | refine Below.drew ?_))) (Seen.fresh (by simp) rfl rfl rfl) (by omega)).mono ?_
  rintro e w7 ⟨rfl, bb⟩
  have cc : Below w6.heap.size w6 w7 := Below.trans (by repeat (first | exact Below.refl _ _ | refine Below.alloc ?_ (by first | omega | (simp; done) | (simp; omega)) _ | refine below_drewN ?_ _ | refine Below.drew ?_)) (bb.mono (by first | omega | (simp; done) | (simp; omega)))
  replace ha := (ha.below cc).more cc.size
  replace hb := (hb.below cc).more cc.size
  replace hc := (hc.below cc).more cc.size
  replace hs := (hs.below cc).more cc.size
  replace xa := xa.below cc xa.lt
  replace xc := xc.below cc xc.lt
  replace b0 := b0.trans (cc.mono b0.size)
  have szw7 := cc.size
  clear bb cc
  obtain ⟨j0, j1, j2, _, _, _⟩ := xc.three
  have lx := xc.lt
  go_wp2_with fail
  refine (held_is 3 2 312 true (by simp) _).mono ?_
  rintro e w8 ⟨rfl, bb⟩
  clear j0 j1 j2 lx
  have cc : Below w7.heap.size w7 w8 := Below.trans (by repeat (first | exact Below.refl _ _ | refine Below.alloc ?_ (by first | omega | (simp; done) | (simp; omega)) _ | refine below_drewN ?_ _ | refine Below.drew ?_)) (bb.mono (by first | omega | (simp; done) | (simp; omega)))
  replace ha := (ha.below cc).more cc.size
  replace hb := (hb.below cc).more cc.size
  replace hc := (hc.below cc).more cc.size
  replace hs := (hs.below cc).more cc.size
  replace xa := xa.below cc xa.lt
  replace xc := xc.below cc xc.lt
  replace b0 := b0.trans (cc.mono b0.size)
  have szw8 := cc.size
  clear bb cc
  go_wp2_with fail
  refine (same32_is [65533] _ _ w8.heap.size _ _ _ _ _ _ (hs.below (by repeat (first | exact Below.refl _ _ | refine Below.alloc ?_ (by first | omega | (simp; done) | (simp; omega)) _ | refine below_drewN ?_ _ | refine Below.drew ?_))) (Seen.fresh (by simp) rfl rfl rfl) (by omega)).mono ?_
  rintro e w9 ⟨rfl, bb⟩
  have cc : Below w8.heap.size w8 w9 := Below.trans (by repeat (first | exact Below.refl _ _ | refine Below.alloc ?_ (by first | omega | (simp; done) | (simp; omega)) _ | refine below_drewN ?_ _ | refine Below.drew ?_)) (bb.mono (by first | omega | (simp; done) | (simp; omega)))
  replace ha := (ha.below cc).more cc.size
  replace hb := (hb.below cc).more cc.size
  replace hc := (hc.below cc).more cc.size
  replace hs := (hs.below cc).more cc.size
  replace xa := xa.below cc xa.lt
  replace xc := xc.below cc xc.lt
  replace b0 := b0.trans (cc.mono b0.size)
  have szw9 := cc.size
  clear bb cc
  go_wp2_with fail
  refine (encode_is _ 1 1 [228] _ _ 2 run5 rfl (Seen.fresh (by simp) (by simp) rfl rfl) (by simp) (by omega)).mono ?_
  rintro e w10 ⟨Ae, ce, rfl, _, he, bb⟩
  have cc : Below w9.heap.size w9 w10 := Below.trans (by repeat (first | exact Below.refl _ _ | refine Below.alloc ?_ (by first | omega | (simp; done) | (simp; omega)) _ | refine below_drewN ?_ _ | refine Below.drew ?_)) (bb.mono (by first | omega | (simp; done) | (simp; omega)))
  replace ha := (ha.below cc).more cc.size
  replace hb := (hb.below cc).more cc.size
  replace hc := (hc.below cc).more cc.size
  replace hs := (hs.below cc).more cc.size
  replace xa := xa.below cc xa.lt
  replace xc := xc.below cc xc.lt
  replace b0 := b0.trans (cc.mono b0.size)
  have szw10 := cc.size
  clear bb cc
  go_wp2_with fail
  refine (same8_is [195, 164] _ _ w10.heap.size _ _ _ _ _ _ (he.below (by repeat (first | exact Below.refl _ _ | refine Below.alloc ?_ (by first | omega | (simp; done) | (simp; omega)) _ | refine below_drewN ?_ _ | refine Below.drew ?_))) (Seen.fresh (by simp) rfl rfl rfl) (by omega)).mono ?_
  rintro e w11 ⟨rfl, bb⟩
  have cc : Below w10.heap.size w10 w11 := Below.trans (by repeat (first | exact Below.refl _ _ | refine Below.alloc ?_ (by first | omega | (simp; done) | (simp; omega)) _ | refine below_drewN ?_ _ | refine Below.drew ?_)) (bb.mono (by first | omega | (simp; done) | (simp; omega)))
  replace ha := (ha.below cc).more cc.size
  replace hb := (hb.below cc).more cc.size
  replace hc := (hc.below cc).more cc.size
  replace hs := (hs.below cc).more cc.size
  replace he := (he.below cc).more cc.size
  replace xa := xa.below cc xa.lt
  replace xc := xc.below cc xc.lt
  replace b0 := b0.trans (cc.mono b0.size)
  have szw11 := cc.size
  clear bb cc
  go_wp2_with fail
  go_ret
  exact ⟨rfl, b0⟩
end Go.Proofs.Ytcbfibpomdhliaa
