/- ParseRuns: chapter 5's runs. -/
import Derived.Test.YtdpioiapljgpmaaDoorParseEvents
import Derived.Test.YtdpioiapljgpmaaDoorParseMore
import Derived.Lib.SlBytesConst
import Derived.Laws.IdiomStrings
namespace Go.Proofs.YtdpioiapljgpmaaDoor
open Go.RowKit
set_option linter.unusedVariables false
def runBytes : List Int := [27, 91, 49, 59, 51, 49, 109, 27, 91, 63, 50, 53, 104, 27, 40, 48, 27, 91, 49, 58, 50, 109]
def runEvs : List PA.Ev := [⟨4, 0, 0, 0, 109, [1, 31], []⟩, ⟨4, 0, 63, 0, 104, [25], []⟩, ⟨3, 0, 0, 40, 48, [], []⟩]
theorem run_feed : PA.feed PA.s0 runBytes = (PA.s0, runEvs) := by kernel_rfl
theorem run_bytes : ∀ x ∈ runBytes, 0 ≤ x ∧ x < 256 := by decide
theorem Fed.below {B g : Nat} {s' : PA.S} {evs : List PA.Ev} {w w' : World} {e : Ending} (h : Fed B g s' evs (.slice none 0 0) (.slice none 0 0) w e w') {C : Nat} (hC : C ≤ g) (hw : C ≤ w.heap.size) : Below C w w' := by
  obtain ⟨v', vp', vt', M, _, _, _, _, _, _, hK, _⟩ := h
  refine hK.toBelow hw (fun k hk => ?_)
  simp [Value.ownBlock] at hk
  omega
theorem three_of {α β : Type} {M : List (α × β)} {a b c : α} (h : M.map (·.1) = [a, b, c]) : ∃ x y z, M = [(a, x), (b, y), (c, z)] := by
  rcases M with _ | ⟨⟨p, x⟩, _ | ⟨⟨q, y⟩, _ | ⟨⟨r, z⟩, _ | ⟨t, M⟩⟩⟩⟩ <;> simp at h
  obtain ⟨rfl, rfl, rfl⟩ := h
  exact ⟨x, y, z, rfl⟩
theorem conv_const (w : World) (C : Array Value) (n c : Nat) : (convert 26 26 (.slice (some ⟨w.heap.size, 0, none⟩) n c)).run Tryd.prog (w.alloc (.cells C 5)) = .ok (.slice (some ⟨w.heap.size, 0, none⟩) n c) (w.alloc (.cells C 5 (C.size, C.size + 1))) :=
  Lib.run_convert_bytes_const w _ _ C n c Tryd.underlying26 Tryd.underlying5
theorem conv_string (w : World) (s : ByteArray) : (convert 9 26 (.string s)).run Tryd.prog w = .ok (.slice (some ⟨w.heap.size, 0, none⟩) s.size (grownCap w s.size 0 5))
      (w.drew.alloc (.cells (bytesRow s (grownCap w s.size 0 5)) 5 ((bytesRow s (grownCap w s.size 0 5)).size, (bytesRow s (grownCap w s.size 0 5)).size + 1))) :=
  run_bytes_of_string w _ _ _ s Tryd.underlying9 Tryd.underlying26 Tryd.underlying5
/-- what was just laid reads as it was laid, whatever mark it bears -/
theorem seen_marked {w : World} {t : TypeId} {cs : Array Value} {lo hi n g B : Nat} {xs : List Value} (hg : g = w.heap.size) (hB : w.heap.size < B) (hn : xs.length = n) (hx : ∀ (j : Nat) (u : Value), xs[j]? = some u → cs[j]? = some u) : Seen (w.alloc (.cells cs t (lo, hi))) B (some ⟨g, 0, none⟩) n xs := by
  subst hg
  refine ⟨hn, fun j u hu => ⟨_, rfl, hB, ?_⟩⟩
  rw [Addr.add_lit, Nat.zero_add, World.cell?_alloc_mark]
  exact hx j u hu
theorem seen_string {w : World} {l : List Int} {cap lo hi n g B : Nat} (hl : ∀ x ∈ l, 0 ≤ x ∧ x < 256) (hg : g = w.heap.size) (hB : w.heap.size < B) (hn : l.length = n) : Seen (w.alloc (.cells (bytesRow (strOfNums l) cap) 5 (lo, hi))) B (some ⟨g, 0, none⟩) n (u8s l) := by
  refine seen_marked hg hB (by simpa [u8s] using hn) (fun j u hu => ?_)
  rw [u8s, List.getElem?_map] at hu
  obtain ⟨x, hx, rfl⟩ := Option.map_eq_some_iff.1 hu
  have hj : j < l.length := (List.getElem?_eq_some_iff.1 hx).1
  have hxr := hl x (List.mem_of_getElem? hx)
  have hjs : j < (strOfNums l).data.size := by simpa [strOfNums] using hj
  rw [bytesRow_at _ _ _ hjs]
  have hx' : l[j] = x := by rw [List.getElem?_eq_getElem hj] at hx; exact Option.some.inj hx
  have : (strOfNums l).data[j] = UInt8.ofNat x.toNat := by simp [strOfNums, hx']
  rw [this]
  simp
  omega
set_option maxRecDepth 100000 in
set_option maxHeartbeats 8000000 in
theorem parseRuns_any (w : World) (ht : Tabs w) : Calls Tryd.prog 3 #[] w fun e w' => e = .returned (.bool true) ∧ Below w.heap.size w w' := by
  have HT := hide ht
  have h2 := ht.lt
  have RF := hide run_feed
  have RB := hide run_bytes
  clear ht
  go_enter Tryd.func3, Tryd.ntmps3
  go_wp2_with fail
  refine (new_any _).mono ?_
  rintro e w1 ⟨rfl, rfl⟩
  have hP := new_pb w w.heap.size (Nat.le_refl _)
  have bel : Below w.heap.size w (w.alloc (.cells (pcells PA.s0 (.slice none 0 0) (.slice none 0 0)) 44)) := (Below.refl _ _).alloc (Nat.le_refl _) _
  have hsz : (w.alloc (.cells (pcells PA.s0 (.slice none 0 0) (.slice none 0 0)) 44)).heap.size = w.heap.size + 1 := by simp
  generalize w.alloc (.cells (pcells PA.s0 (.slice none 0 0) (.slice none 0 0)) 44) = w1 at hP bel hsz ⊢
  have HP := hide hP
  have HB := hide bel
  have HSZ := hide hsz
  clear hP bel hsz
  have cs := conv_const
  go_wp2_with fail
  have hS : Seen (w1.alloc (.cells (u8s runBytes).toArray 5 (22, 23))) (w1.alloc (.cells (u8s runBytes).toArray 5 (22, 23))).heap.size (some ⟨w1.heap.size, 0, none⟩) 22 (u8s runBytes) := seen_marked rfl (by simp) rfl (fun j u hu => by simpa using hu)
  have hs1 := HSZ.out
  refine (feed_any w.heap.size w.heap.size PA.s0 (.slice none 0 0) (.slice none 0 0) (some ⟨w1.heap.size, 0, none⟩) 22 22 runBytes (w1.alloc (.cells (u8s runBytes).toArray 5 (22, 23))) (HP.out.alloc _) PA.s0_ok (by simp [PA.s0, PA.d0]) hS RB.out (by omega) (fun _ ad had => by simp at had; subst had; simp [Value.ownBlock]; omega) h2 ((HT.out.keep HB.out).keep ((Below.refl _ _).alloc (Nat.le_refl _) _))).mono ?_
  intro e w2 hF
  rw [RF.out] at hF
  have hB2 : Below w.heap.size w w2 := HB.out.trans (((Below.refl _ _).alloc (by omega) _).trans (hF.below (Nat.le_refl _) (by simp; omega)))
  obtain ⟨v', vp', vt', M, rfl, hM, hP, hown, hO, hD, hK, hV, fp, ft⟩ := hF
  obtain ⟨x, y, z, rfl⟩ := three_of hM
  obtain ⟨A, c, rfl, _⟩ := own_form' hown
  have hE := seenE_of hown hO (fun p hp => by simp at hp; rcases hp with rfl | rfl | rfl <;> simp)
  obtain ⟨gb, rfl, _, c0, Ap, cp, hx, hps, _⟩ := hE.2 0 _ rfl
  obtain ⟨_, hg1, _, c1, _⟩ := hE.2 1 _ rfl
  obtain ⟨_, hg2, _, c2, _⟩ := hE.2 2 _ rfl
  simp only [Option.some.injEq, Addr.mk.injEq, and_true] at hg1 hg2
  subst hg1 hg2
  simp only [] at hx hps
  subst hx
  have d05 := c0 5 _ rfl
  have d04 := c0 4 _ rfl
  have d12 := c1 2 _ rfl
  have d14 := c1 4 _ rfl
  have d20 := c2 0 _ rfl
  have d23 := c2 3 _ rfl
  have d24 := c2 4 _ rfl
  simp only [Nat.zero_mul, Nat.zero_add, Nat.one_mul, Nat.add_zero] at d05 d04 d12 d14 d20 d23 d24
  have HPS := hide hps
  have HP2 := hide hP
  have HB2 := hide hB2
  clear hM hP hown hO hD hK hV fp ft hE c0 c1 c2 hps hB2 hS
  have bA : Below w2.heap.size w2 (w2.alloc (.cells #[.int .i64 1, .int .i64 31] 3)) := (Below.refl _ _).alloc (Nat.le_refl _) _
  have HBA := hide bA
  have SM := hide (same_i64 [1, 31] Ap (some ⟨w2.heap.size, 0, none⟩) w2.heap.size (w2.heap.size + 1) 2 cp 2 2 (w2.alloc (.cells #[.int .i64 1, .int .i64 31] 3)) (HPS.out.below bA) (Seen.fresh rfl rfl rfl rfl) (by omega))
  clear bA
  go_wp2_with fail
  refine SM.out.mono ?_
  rintro e w3 ⟨rfl, q, rfl⟩
  go_wp2_with fail
  refine (ground_any _ _ _ _ _ _ ((HP2.out.below HBA.out).drewN q)).mono ?_
  rintro e w4 ⟨rfl, b4⟩
  have HB4 := hide (HB2.out.trans ((below_drewN (HBA.out.mono (HB2.out.size)) q).trans (b4.mono (by have := HB2.out.size; have := HBA.out.size; simp at this ⊢; omega))))
  rw [show PA.ground PA.s0 = true from rfl]
  clear b4
  go_wp2_with fail
  go_ret
  exact ⟨rfl, HB4.out⟩
theorem parse_laid {w : World} {l : List (String × DataW Unit)} (h : laidMet Tryd.prog l w) (hm : ("linguist/parse.runs", Rows.laid_linguist_parse_runs) ∈ l ∧ ("linguist/parse.moves", Rows.laid_linguist_parse_moves) ∈ l) : Tabs w := tabs_laid h hm.1 hm.2
end Go.Proofs.YtdpioiapljgpmaaDoor
