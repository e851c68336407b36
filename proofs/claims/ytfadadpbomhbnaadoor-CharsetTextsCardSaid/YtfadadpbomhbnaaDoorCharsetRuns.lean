/- CharsetRuns: chapter 4's runs. -/
import Derived.Test.YtfadadpbomhbnaaDoorCharsetRef
namespace Go.Proofs.YtfadadpbomhbnaaDoor
open Go.RowKit
set_option linter.unusedVariables false
theorem run_u1 : CH.undraw 9472 = 113 ∧ CH.undrawn 9472 = true := by decide
theorem run_u2 : CH.undraw 113 = 0 ∧ CH.undrawn 113 = false := by decide
theorem run_d : CH.draw 113 = 9472 := by decide
theorem run_p1 : CH.plain 9472 = 45 := by decide
theorem run_p2 : CH.plain 19968 = 63 := by decide
theorem Runes.seen {w : World} {l : List Int} {e : Ending} {w' : World} (h : Runes w l e w') (hl : l.length = 31) : ∃ A c, e = .returned (.slice A 31 c) ∧ 31 ≤ c ∧ c ≤ maxLen ∧ Seen w' w'.heap.size A 31 (i32s l) ∧ Below w.heap.size w w' := by
  obtain ⟨v, rfl, hown, b⟩ := h
  rw [hl] at hown
  obtain ⟨A, c, rfl, hn, hc, _⟩ := own_form hown
  exact ⟨A, c, rfl, hn, hc, Seen.of_own hown, b⟩
set_option maxHeartbeats 1000000 in
theorem charsetRuns_any (w : World) (hs : Signs w) : Calls Tryd.prog 3 #[] w fun e w' => e = .returned (.bool true) ∧ Below w.heap.size w w' := by
  have HS := hide hs
  clear hs
  have SD := hide (fun w' h => drawn_any w' h)
  have SR := hide refDrawn_any
  have SS := hide (fun A A' B B' n c m c' w' h1 h2 hn => sameRunes_is CH.drawn A A' B B' n c m c' w' h1 h2 hn)
  have HL := hide CH.drawn_len
  generalize CH.drawn = l at SD SR SS HL
  go_enter Tryd.func3, Tryd.ntmps3
  go_wp2_with fail
  refine (undraw_is _ _ _ run_u1.1 run_u1.2 _ HS.out).mono ?_
  rintro e w1 ⟨rfl, b1⟩
  go_wp2_with fail
  refine (undraw_is _ _ _ run_u2.1 run_u2.2 _ (HS.out.keep b1)).mono ?_
  rintro e w2 ⟨rfl, bb⟩
  have b2 := b1.trans (bb.mono b1.size)
  clear bb b1
  go_wp2_with fail
  refine (draw_is _ _ run_d _ (by omega) (by omega) (HS.out.keep b2)).mono ?_
  rintro e w3 ⟨rfl, bb⟩
  have b3 := b2.trans (bb.mono b2.size)
  clear bb b2
  go_wp2_with fail
  refine (plain_is _ _ run_p1 _ (HS.out.keep b3)).mono ?_
  rintro e w4 ⟨rfl, bb⟩
  have b4 := b3.trans (bb.mono b3.size)
  clear bb b3
  go_wp2_with fail
  refine (plain_is _ _ run_p2 _ (HS.out.keep b4)).mono ?_
  rintro e w5 ⟨rfl, bb⟩
  have b5 := b4.trans (bb.mono b4.size)
  clear bb b4
  go_wp2_with fail
  refine (SD.out _ (HS.out.keep b5)).mono ?_
  intro e w6 h
  obtain ⟨A, c, rfl, hc, hm, hseen, bb⟩ := h.seen HL.out
  have b6 := b5.trans (bb.mono b5.size)
  clear bb b5 h
  have H1 := hide hseen
  clear hseen
  go_wp2_with fail
  refine (SR.out _).mono ?_
  intro e w7 h
  obtain ⟨A', c', rfl, hc', hm', hseen, bb⟩ := h.seen HL.out
  have b7 := b6.trans (bb.mono b6.size)
  have H1' := hide (H1.out.below bb)
  have H2 := hide hseen
  clear bb b6 h hseen H1
  go_wp2_with fail
  refine (SS.out _ _ _ _ _ _ _ _ _ H1'.out H2.out (by omega)).mono ?_
  rintro e w8 ⟨rfl, bb⟩
  have b8 := b7.trans (bb.mono b7.size)
  clear bb b7
  go_wp2_with fail
  go_ret
  exact ⟨rfl, b8⟩
end Go.Proofs.YtfadadpbomhbnaaDoor
