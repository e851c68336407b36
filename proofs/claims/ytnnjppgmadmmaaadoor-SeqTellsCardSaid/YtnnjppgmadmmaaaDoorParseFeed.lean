/- The contracts of New, Feed, Ground. -/
import Derived.Test.YtnnjppgmadmmaaaDoorParseMem
set_option maxRecDepth 100000
namespace Go.Proofs.YtnnjppgmadmmaaaDoor
open Go.RowKit
set_option linter.unusedVariables false
theorem Seen.keptK {w w' : World} {L : List (Option Nat)} {A : Option Addr} {n : Nat} {xs : List Value} (h : Seen w w.heap.size A n xs) (k : Kept L w w') (hA : ∀ ad, A = some ad → some ad.block ∉ L) : Seen w' w'.heap.size A n xs :=
  ⟨h.1, fun j u hu => by
    obtain ⟨ad, h1, h2, h3⟩ := h.2 j u hu
    exact ⟨ad, h1, Nat.lt_of_lt_of_le h2 k.size, (k.cell (by rw [addBlock]; exact h2) (by rw [addBlock]; exact hA ad h1)).trans h3⟩⟩
/-- what Feed leaves: the parser is s' now, its events are new -/
def Fed (B g : Nat) (s' : PA.S) (evs : List PA.Ev) (vp vt : Value) (w : World) (e : Ending) (w' : World) : Prop :=
  ∃ v' vp' vt' M, e = .returned v' ∧ M.map (·.1) = evs ∧ PB w' B g s' vp' vt' ∧ w'.ownsRow B 24 7 v' M.length (mcells M) ∧ OwnM w' B M ∧ (∀ p ∈ M, ∀ q, p.2.ownBlock = some q → vp'.ownBlock ≠ some q ∧ (vp.ownBlock = some q ∨ w.heap.size ≤ q)) ∧
    Kept [some g, vp.ownBlock, vt.ownBlock] w w' ∧ (∀ q, v'.ownBlock = some q → w.heap.size ≤ q) ∧ From w [vp.ownBlock] vp'.ownBlock ∧ From w [vt.ownBlock] vt'.ownBlock
theorem fed_start {B g : Nat} {s : PA.S} {vp vt : Value} {w : World} (h : PB w B g s vp vt) : Fed B g s [] vp vt w (.returned (.slice none 0 0)) w :=
  ⟨_, vp, vt, [], rfl, rfl, h, World.ownsRow_nil _ _ _ _, OwnM.nil _ _, fun p hp => (by cases hp), Kept.refl _ _, fun q hq => (by simp [Value.ownBlock] at hq), From.mem (by simp), From.mem (by simp)⟩
theorem fed_step {B g : Nat} {s1 s2 : PA.S} {ev1 ev2 : List PA.Ev} {vp vt vp1 vt1 o : Value} {w wr w' : World} {e : Ending} {M : List (PA.Ev × Value)} (hM : M.map (·.1) = ev1) (hP : PB wr B g s1 vp1 vt1) (ho : wr.ownsRow B 24 7 o M.length (mcells M)) (hO : OwnM wr B M)
    (hD : ∀ p ∈ M, ∀ q, p.2.ownBlock = some q → vp1.ownBlock ≠ some q ∧ (vp.ownBlock = some q ∨ w.heap.size ≤ q)) (hK : Kept [some g, vp.ownBlock, vt.ownBlock] w wr) (hV : ∀ q, o.ownBlock = some q → w.heap.size ≤ q) (fp : From w [vp.ownBlock] vp1.ownBlock) (ft : From w [vt.ownBlock] vt1.ownBlock)
    (hT : Took B g s2 ev2 vp1 vt1 o M.length (mcells M) (fun x => x = .slice none 0 0) wr e w') : Fed B g s2 (ev1 ++ ev2) vp vt w e w' := by
  obtain ⟨v2, vp2, vt2, M2, he, hM2, hP2, ho2, hO2, hQ2, hK2, f1, f2, f3⟩ := hT
  have hs := hK.size
  have keepM : ∀ p ∈ M, ∀ q, p.2.ownBlock = some q → some q ∉ [some g, o.ownBlock, vp1.ownBlock, vt1.ownBlock] := fun p hp q hq => by
    have a := own_ne_box (hO p hp) hP.box (by decide)
    have b := own_ne_own (hO p hp) ho (by decide) hq
    have c := (hD p hp q hq).1
    have d := own_ne_own (hO p hp) hP.txt (by decide) hq
    simp only [List.mem_cons, List.not_mem_nil, or_false, not_or, Option.some.injEq]
    exact ⟨fun e => a (by rw [hq, e]), fun e => b e.symm, fun e => c e.symm, fun e => d e.symm⟩
  refine ⟨v2, vp2, vt2, M ++ M2, he, by rw [List.map_append, hM, hM2], hP2, by rw [List.length_append, mcells_app]; exact ho2, (hO.kept hK2 keepM).app hO2, ?_, hK.trans hK2 ?_, ?_, f2.trans1 fp hs, f3.trans1 ft hs⟩
  · intro p hp q hq
    rcases List.mem_append.1 hp with hp | hp
    · have h1 := hD p hp q hq
      have h2 := ((hO p hp).lt q hq).2
      refine ⟨fun e => ?_, h1.2⟩
      rcases f2 q e with h | h
      · simp only [List.mem_singleton] at h
        exact h1.1 h.symm
      · omega
    · rcases hQ2 p hp with h | ⟨h, h'⟩
      · rw [h] at hq
        simp [Value.ownBlock] at hq
      · rw [h'] 
        refine ⟨by simp [Value.ownBlock], ?_⟩
        rw [h] at hq
        rcases fp q hq with h | h
        · simp only [List.mem_singleton] at h
          exact .inl h.symm
        · exact .inr h
  · intro x hx
    simp only [List.mem_cons, List.not_mem_nil, or_false] at hx
    rcases hx with rfl | rfl | rfl | rfl
    · exact From.mem (by simp)
    · exact fun q hq => .inr (hV q hq)
    · exact fp.mono (by simp)
    · exact ft.mono (by simp)
  · intro q hq
    rcases f1 q hq with h | h
    · simp only [List.mem_singleton] at h
      exact hV q h.symm
    · omega
set_option maxHeartbeats 400000 in
theorem new_any (w : World) : Calls Tryd.prog 19 #[] w fun e w' => e = .returned (.pointer (some ⟨w.heap.size, 0, none⟩)) ∧ w.alloc (.cells (pcells PA.s0 (.slice none 0 0) (.slice none 0 0)) 67) = w' := by
  go_enter Tryd.func19, Tryd.ntmps19
  go_wp2_with fail
  go_ret
  exact ⟨rfl, rfl⟩
theorem new_pb (w : World) (B : Nat) (hB : B ≤ w.heap.size) : PB (w.alloc (.cells (pcells PA.s0 (.slice none 0 0) (.slice none 0 0)) 67)) B w.heap.size PA.s0 (.slice none 0 0) (.slice none 0 0) :=
  ⟨Box.new w _ _, World.ownsRow_nil _ _ _ _, World.ownsRow_nil _ _ _ _, hB, fun _ => rfl, fun _ => rfl⟩
set_option maxHeartbeats 400000 in
theorem ground_any (B g : Nat) (s : PA.S) (vp vt : Value) (w : World) (h : PB w B g s vp vt) : Calls Tryd.prog 21 #[.pointer (some ⟨g, 0, none⟩)] w fun e w' => e = .returned (.bool (PA.ground s)) ∧ Below w.heap.size w w' := by
  obtain ⟨k0, k1, k2, k3, k4, k5, k6, k7, k8⟩ := h.box.nine
  have CH := hide (held_any s.dec)
  by_cases hst : s.st = 1
  · by_cases hd : 0 < s.dec.need
    · have E := hide (show PA.ground s = false by simp [PA.ground, hd])
      have hd' : decide (0 < s.dec.need) = true := by simp [hd]
      rw [hd'] at CH
      rw [hst] at k0
      clear h hst hd
      go_enter Tryd.func21, Tryd.ntmps21
      go_wp2_with fail
      refine (CH.out _).mono ?_
      rintro e w2 ⟨rfl, rfl⟩
      go_wp2_with fail
      go_ret
      exact ⟨c_bool E.out.symm, (Below.refl _ _).alloc (Nat.le_refl _) _⟩
    · have E := hide (show PA.ground s = true by simp [PA.ground, hd, hst])
      have hd' : decide (0 < s.dec.need) = false := by simp [hd]
      rw [hd'] at CH
      rw [hst] at k0
      clear h hst hd
      go_enter Tryd.func21, Tryd.ntmps21
      go_wp2_with fail
      refine (CH.out _).mono ?_
      rintro e w2 ⟨rfl, rfl⟩
      go_wp2_with fail
      go_ret
      exact ⟨c_bool E.out.symm, (Below.refl _ _).alloc (Nat.le_refl _) _⟩
  · have E := hide (show PA.ground s = false by simp [PA.ground, hst])
    have hst' : (s.st == 1) = false := by simpa using hst
    clear h hst
    go_enter Tryd.func21, Tryd.ntmps21
    go_wp2_with fail
    go_ret
    exact ⟨c_bool E.out.symm, Below.refl _ _⟩
set_option maxHeartbeats 2000000 in
theorem feed_any (B g : Nat) (s : PA.S) (vp vt : Value) (A : Option Addr) (n c : Nat) (l : List Int) (w : World) (h : PB w B g s vp vt) (hk : s.ok) (hpp : s.d.parts ≤ 1000000) (hA : Seen w w.heap.size A n (u8s l)) (hl : ∀ x ∈ l, 0 ≤ x ∧ x < 256) (hn : n ≤ 1000000)
    (hL : 0 < n → ∀ ad, A = some ad → some ad.block ∉ [some g, vp.ownBlock, vt.ownBlock]) (hB : 2 ≤ B) (ht : Tabs w) :
    Calls Tryd.prog 20 #[.pointer (some ⟨g, 0, none⟩), .slice A n c] w (Fed B g (PA.feed s l).1 (PA.feed s l).2 vp vt w) := by
  have hlen : l.length = n := by simpa [u8s] using hA.1
  have HA := hide hA
  have HL := hide hl
  have HN := hide hlen
  have HNL := hide hL
  have HT := hide ht
  have HK := hide hk
  have HF0 := hide (fed_start h)
  have HBK : ∀ q, some q ∈ [some g, vp.ownBlock, vt.ownBlock] → 2 ≤ q := fun q hq => by
    simp only [List.mem_cons, List.not_mem_nil, or_false, Option.some.injEq] at hq
    rcases hq with rfl | hq | hq
    · have := h.low; omega
    · have := (h.par.lt q hq.symm).1; omega
    · have := (h.txt.lt q hq.symm).1; omega
  have HBK := hide HBK
  clear hA hl hlen hL ht hk h
  go_enter Tryd.func20, Tryd.ntmps20
  go_wp2_with fail
  go_loopw [5, 10] (fun o i wr => ∃ k : Nat, k ≤ n ∧ i = .int .i64 k ∧ Fed B g (PA.feed s (l.take k)).1 (PA.feed s (l.take k)).2 vp vt w (.returned o) wr) (fun _ i _ => n - (intOf i).toNat)
  case atStart => exact ⟨0, Nat.zero_le _, rfl, HF0.out⟩
  case round =>
    obtain ⟨k, hk, rfl, hF⟩ := hrel
    by_cases hlt : k < n
    · obtain ⟨o, vp1, vt1, M, ho, hM, hP, hown, hO, hD, hK, hV, fp, ft⟩ := hF
      injection ho with ho
      subst ho
      obtain ⟨ad, u, rfl, hadb, hu, hc⟩ := (HA.out.keptK hK (HNL.out (by omega))).at_ hlt
      rw [u8s, List.getElem?_map] at hu
      obtain ⟨x, hx, rfl⟩ := Option.map_eq_some_iff.1 hu
      have hxr := HL.out x (List.mem_of_getElem? hx)
      have hs1 := PA.feed_snoc s (l.take k) x
      rw [show l.take k ++ [x] = l.take (k + 1) from by rw [List.take_add_one, hx]; rfl] at hs1
      have hok := PA.feed_ok HK.out (l.take k) (fun y hy => HL.out y (List.mem_of_mem_take hy))
      have hpt := PA.feed_parts s (l.take k)
      have hln := PA.feed_len s (l.take k)
      rw [List.length_take] at hpt hln
      rw [← hM, List.length_map] at hln
      generalize (PA.feed s (l.take k)).1 = s1 at hs1 hP hok hpt
      generalize (PA.feed s (l.take k)).2 = e1 at hs1 hM
      have TK := hide (take_any B g s1 vp1 vt1 u5 M.length (mcells M) x wr hP hok hown (by omega) (by omega) hxr.1 hxr.2 hB (HT.out.kept hK HBK.out))
      have ST := hide (fun (e : Ending) (w' : World) => fed_step (w' := w') (e := e) (s2 := (PA.take s1 x).1) (ev2 := (PA.take s1 x).2) hM hP hown hO hD hK hV fp ft)
      have HS := hide hs1
      clear hM hP hown hO hD hK hV fp ft hs1 hok hu hx hxr
      generalize PA.take s1 x = r at TK ST HS
      go_wp2_with fail
      refine TK.out.mono ?_
      intro e w2 hT
      have hF2 := ST.out e w2 hT
      obtain ⟨v2, vp2, vt2, M2, rfl, x2⟩ := hF2
      clear hT
      have HF2 := hide (show Fed B g r.1 (e1 ++ r.2) vp vt w (.returned v2) w2 from ⟨v2, vp2, vt2, M2, rfl, x2⟩)
      clear x2
      go_wp2_with fail
      go_roundw
      case rel => exact ⟨k + 1, by omega, by go_num, by rw [HS.out]; exact HF2.out⟩
      case measure => simp [intOf]; omega
    · obtain rfl : k = n := by omega
      rw [List.take_of_length_le (by rw [HN.out]; omega)] at hF
      have HF := hide hF
      clear hF
      go_wp2_with fail
      go_ret
      exact HF.out
end Go.Proofs.YtnnjppgmadmmaaaDoor
