/- ColorTells: any colour, any number of them: its parts, the nearest, the lowered. -/
import Derived.Test.YtgkjknjcklnngaaDoorColorRuns
import Derived.Test.YtgkjknjcklnngaaDoorRefNear
import Derived.Test.YtgkjknjcklnngaaDoorKeepPen
namespace Go.Proofs.YtgkjknjcklnngaaDoor
open Go.RowKit
set_option linter.unusedVariables false
theorem runs_be (w : World) (ht : Tab w) : Calls Tryd.prog 3 #[] w fun e w' => e = .returned (.bool true) ∧ Below w.heap.size w w' := colorRuns_any w ht
set_option maxHeartbeats 2000000 in
theorem colorTells_any (c n : Int) (w : World) (hc : (Lit.int .i64 c).wf = true) (hn : (Lit.int .i64 n).wf = true) (ht : Tab w) : Calls Tryd.prog 4 #[.int .i64 c, .int .i64 n] w fun e w' => e = .returned (.bool true) ∧ Below w.heap.size w w' := by
  have bn := bounds_i64 hn
  rcases hp : CO.rgb c with ⟨x, y, z⟩
  generalize hh : CO.has c = ok
  obtain ⟨k, hk, k0, k1⟩ : ∃ k, -3 + n % 264 = k ∧ -3 ≤ k ∧ k ≤ 260 := ⟨_, rfl, by omega, by omega⟩
  have W := hide (fun w' => within_is n (-3) 260 k hk w' bn.1 bn.2 (by omega) (by omega) (by omega))
  have P := hide (fun w' ht => rgb_is c x y z ok hp hh w' ht)
  have Q := hide (fun w' => refRgb_is c x y z ok hp hh w')
  obtain ⟨m, hm⟩ : ∃ m, CO.near c k = m := ⟨_, rfl⟩
  have N := hide (fun w' ht => nearest_is c k m hm w' ht)
  have M := hide (fun w' => refNearest_is c k m hm w')
  have HT := hide ht
  clear hp hh hk hm ht bn hc hn
  by_cases h : k ≤ 256
  · obtain ⟨l, hl⟩ : ∃ l, CO.lower c k = l := ⟨_, rfl⟩
    have L := hide (fun w' ht => lower_is c k l hl w' ht)
    have R := hide (fun w' => refLower_is c k l hl w')
    clear hl
    go_enter Tryd.func4, Tryd.ntmps4
    go_wp2_with fail
    refine (P.out _ HT.out).mono ?_
    rintro e w1 ⟨rfl, b1⟩
    go_wp2_with fail
    refine (Q.out _).mono ?_
    rintro e w2 ⟨rfl, b⟩
    have b2 := b1.trans (b.mono b1.size)
    clear b b1
    go_wp2_with fail
    refine (W.out _).mono ?_
    rintro e w' ⟨rfl, rfl⟩
    go_wp2_with fail
    refine (N.out _ (HT.out.keep b2)).mono ?_
    rintro e w3 ⟨rfl, b⟩
    have b3 := b2.trans (b.mono b2.size)
    clear b b2
    go_wp2_with fail
    refine (M.out _).mono ?_
    rintro e w4 ⟨rfl, b⟩
    have b4 := b3.trans (b.mono b3.size)
    clear b b3
    go_wp2_with fail
    refine (L.out _ (HT.out.keep b4)).mono ?_
    rintro e w5 ⟨rfl, b⟩
    have b5 := b4.trans (b.mono b4.size)
    clear b b4
    go_wp2_with fail
    refine (R.out _).mono ?_
    rintro e w6 ⟨rfl, b⟩
    have b6 := b5.trans (b.mono b5.size)
    clear b b5
    go_wp2_with fail
    refine (runs_be _ (HT.out.keep b6)).mono ?_
    rintro e w7 ⟨rfl, b⟩
    have b7 := b6.trans (b.mono b6.size)
    clear b b6
    go_wp2_with fail
    go_ret
    exact ⟨rfl, b7⟩
  · obtain ⟨l, hl⟩ : ∃ l, CO.lower c 256 = l := ⟨_, rfl⟩
    have L := hide (fun w' ht => lower_is c 256 l hl w' ht)
    have R := hide (fun w' => refLower_is c 256 l hl w')
    clear hl
    have h : 256 < k := by omega
    go_enter Tryd.func4, Tryd.ntmps4
    go_wp2_with fail
    refine (P.out _ HT.out).mono ?_
    rintro e w1 ⟨rfl, b1⟩
    go_wp2_with fail
    refine (Q.out _).mono ?_
    rintro e w2 ⟨rfl, b⟩
    have b2 := b1.trans (b.mono b1.size)
    clear b b1
    go_wp2_with fail
    refine (W.out _).mono ?_
    rintro e w' ⟨rfl, rfl⟩
    go_wp2_with fail
    refine (N.out _ (HT.out.keep b2)).mono ?_
    rintro e w3 ⟨rfl, b⟩
    have b3 := b2.trans (b.mono b2.size)
    clear b b2
    go_wp2_with fail
    refine (M.out _).mono ?_
    rintro e w4 ⟨rfl, b⟩
    have b4 := b3.trans (b.mono b3.size)
    clear b b3
    go_wp2_with fail
    refine (L.out _ (HT.out.keep b4)).mono ?_
    rintro e w5 ⟨rfl, b⟩
    have b5 := b4.trans (b.mono b4.size)
    clear b b4
    go_wp2_with fail
    refine (R.out _).mono ?_
    rintro e w6 ⟨rfl, b⟩
    have b6 := b5.trans (b.mono b5.size)
    clear b b5
    go_wp2_with fail
    refine (runs_be _ (HT.out.keep b6)).mono ?_
    rintro e w7 ⟨rfl, b⟩
    have b7 := b6.trans (b.mono b6.size)
    clear b b6
    go_wp2_with fail
    go_ret
    exact ⟨rfl, b7⟩
end Go.Proofs.YtgkjknjcklnngaaDoor
