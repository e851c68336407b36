/- The contract of decode: the runes that a byte makes, as events. -/
import Derived.Test.YtnnjppgmadmmaaaDoorParseEv
set_option maxRecDepth 100000
namespace Go.Proofs.YtnnjppgmadmmaaaDoor
open Go.RowKit
set_option linter.unusedVariables false
/-- events of runes, without parameters -/
def prs (l : List Int) : List (PA.Ev × Value) := l.map fun r => (PA.pr r, .slice none 0 0)
theorem prs_len (l : List Int) : (prs l).length = l.length := by simp [prs]
theorem prs_ev (l : List Int) : (prs l).map (·.1) = l.map PA.pr := by simp [prs, Function.comp_def]
theorem prs_own (w : World) (B : Nat) (l : List Int) : OwnM w B (prs l) := fun p hp => by
  obtain ⟨r, _, rfl⟩ := List.mem_map.1 hp
  exact World.ownsRow_nil _ _ _ _
theorem prs_nil (l : List Int) : ∀ p ∈ prs l, p.2 = .slice none 0 0 := fun p hp => by
  obtain ⟨r, _, rfl⟩ := List.mem_map.1 hp
  rfl
theorem prs_snoc (l : List Int) (r : Int) : prs (l ++ [r]) = prs l ++ [(PA.pr r, .slice none 0 0)] := by simp [prs]
set_option maxHeartbeats 4000000 in
theorem pdecode_any (Q : Value → Prop) (B g : Nat) (s : PA.S) (vp vt v : Value) (n : Nat) (xs : List Value) (b : Int) (w : World) (h : PB w B g s vp vt) (hd : s.dec.ok) (hv : w.ownsRow B 24 7 v n xs) (hn : n ≤ 274877906944) (h0 : 0 ≤ b) (h1 : b < 256) :
    Calls Tryd.prog 57 #[.pointer (some ⟨g, 0, none⟩), v, .int .u8 b] w (Took B g ⟨s.st, (U.it s.dec b).1, s.d⟩ ((U.it s.dec b).2.map PA.pr) vp vt v n xs Q w) := by
  obtain ⟨i0, hi, hz0, hz1, hz2⟩ := info_parts info_ev
  obtain ⟨k0, k1, k2, k3, k4, k5, k6, k7, k8⟩ := h.box.nine
  have hlt := h.lt
  have hBw : B ≤ w.heap.size := by have := h.low; omega
  have hil := U.it_len s.dec b
  have CP := push_any s.dec b
  have CP := hide (fun w' => CP w' h0 h1 hd)
  have HB := hide h
  have HV := hide hv
  generalize U.it s.dec b = r at CP hil ⊢
  obtain ⟨⟨q0, q1, q2⟩, l⟩ := r
  simp only [] at hil
  clear h hv hd k0 k4 k5 k6 k7 k8
  go_enter Tryd.func57, Tryd.ntmps57
  go_wp2_with fail
  refine (CP.out _).mono ?_
  rintro e w1 ⟨vm, he, hm, bb⟩
  rw [show (U.St.mk q0 q1 q2).val = .agg #[.int .i64 q0, .int .i64 q1, .int .i64 q2] from rfl] at he
  subst he
  have hP1 := HB.out.below bb
  obtain ⟨j0, j1, j2, j3, j4, j5, j6, j7, j8⟩ := hP1.box.nine
  have fr1 := hP1.box.frozen
  have hm' := own_store (own_store (own_store hm (own_ne_box hm hP1.box (by decide)) (p := ⟨g, 1, none⟩) (.int .i64 q0)) (own_ne_box hm hP1.box (by decide)) (p := ⟨g, 2, none⟩) (.int .i64 q1)) (own_ne_box hm hP1.box (by decide)) (p := ⟨g, 3, none⟩) (.int .i64 q2)
  obtain ⟨A, c, rfl, hlc, hcm, _⟩ := own_form hm
  have hv1 := own_kept HV.out (Kept.of_below (L := []) bb) (by simp)
  have hv2 := own_store (own_store (own_store hv1 (own_ne_box hv1 hP1.box (by decide)) (p := ⟨g, 1, none⟩) (.int .i64 q0)) (own_ne_box hv1 hP1.box (by decide)) (p := ⟨g, 2, none⟩) (.int .i64 q1)) (own_ne_box hv1 hP1.box (by decide)) (p := ⟨g, 3, none⟩) (.int .i64 q2)
  have hp2 := own_store (own_store (own_store hP1.par hP1.pne (p := ⟨g, 1, none⟩) (.int .i64 q0)) hP1.pne (p := ⟨g, 2, none⟩) (.int .i64 q1)) hP1.pne (p := ⟨g, 3, none⟩) (.int .i64 q2)
  have ht2 := own_store (own_store (own_store hP1.txt hP1.tne (p := ⟨g, 1, none⟩) (.int .i64 q0)) hP1.tne (p := ⟨g, 2, none⟩) (.int .i64 q1)) hP1.tne (p := ⟨g, 3, none⟩) (.int .i64 q2)
  have hP2 : PB (((w1.setCell ⟨g, 1, none⟩ (.int .i64 q0)).setCell ⟨g, 2, none⟩ (.int .i64 q1)).setCell ⟨g, 3, none⟩ (.int .i64 q2)) B g ⟨s.st, ⟨q0, q1, q2⟩, s.d⟩ vp vt := ⟨by
    have := ((hP1.box.set 1 (.int .i64 q0)).set 2 (.int .i64 q1)).set 3 (.int .i64 q2)
    simpa [pcells] using this, hp2, ht2, hP1.low, hP1.pn, hP1.tn⟩
  have hK2 : Kept [some g] w (((w1.setCell ⟨g, 1, none⟩ (.int .i64 q0)).setCell ⟨g, 2, none⟩ (.int .i64 q1)).setCell ⟨g, 3, none⟩ (.int .i64 q2)) :=
    (((Kept.of_below bb).setCell (p := ⟨g, 1, none⟩) (From.mem (by simp)) _).setCell (p := ⟨g, 2, none⟩) (From.mem (by simp)) _).setCell (p := ⟨g, 3, none⟩) (From.mem (by simp)) _
  have HP2 := hide hP2
  have HK2 := hide hK2
  have HM := hide hm'
  have HV2 := hide hv2
  have hsz : w.heap.size ≤ w1.heap.size := bb.size
  clear hP2 hK2 hm' hm hv1 hv2 hp2 ht2 bb HV CP
  go_wp2_with fail
  go_loopw [1, 24] (fun o i wr => ∃ k : Nat, k ≤ l.length ∧ i = .int .i64 k ∧ wr.ownsRow B 24 7 o (n + k) (xs ++ mcells (prs (l.take k))) ∧ PB wr B g ⟨s.st, ⟨q0, q1, q2⟩, s.d⟩ vp vt ∧ wr.ownsRow w.heap.size 21 1 (.slice A l.length c) l.length (i32s l) ∧ Kept [some g, v.ownBlock] w wr ∧ From w [v.ownBlock] o.ownBlock)
    (fun _ i _ => l.length - (intOf i).toNat)
  case atStart => exact ⟨0, Nat.zero_le _, rfl, by simpa [mcells, prs] using HV2.out, HP2.out, HM.out, HK2.out.more (by simp), From.mem (by simp)⟩
  case round =>
    clear j0 j1 j2 j3 j4 j5 j6 j7 j8 fr1 k1 k2 k3 hP1
    obtain ⟨k, hk, rfl, hown, hP, hmd, hK, hF⟩ := hrel
    have HPr := hide hP
    have HMr := hide hmd
    have HKr := hide hK
    have hsr := hK.size
    by_cases hlt : k < l.length
    · obtain ⟨ad, u, rfl, hadb, hu, hc⟩ := (Seen.of_own hmd).at_ hlt
      rw [i32s, List.getElem?_map] at hu
      obtain ⟨y, hy, rfl⟩ := Option.map_eq_some_iff.1 hu
      have E := hide (show prs (l.take (k + 1)) = prs (l.take k) ++ [(PA.pr y, .slice none 0 0)] by rw [List.take_add_one, hy]; exact prs_snoc _ _)
      have PC := hide (printed_any y)
      have HO := hide hown
      clear hu hy hown hP hmd hK
      go_wp2_with fail
      refine (PC.out _).mono ?_
      rintro e w2 ⟨rfl, bb⟩
      have hown2 := own_kept HO.out (Kept.of_below (L := []) bb) (by simp)
      have hsz2 := bb.size
      go_wp2_with (at_builtin; refine wpList_appS rfl (.tmp 28) (.tmp 31) 36 rfl B 24 i0 _ 7 56 Tryd.underlying36 hi hz0 hz1 hz2 zev_size (by omega) u1 (n + k) _ rfl hown2 _ _ _ rfl rfl rfl (by intro u hu; simp at hu; rcases hu with rfl | rfl | rfl | rfl | rfl <;> rfl) (by omega) (by omega) (by omega) ?_; intro v' w3 hown3 hg3 hm3)
      have hK2 : Kept [u1.ownBlock] wr w3 := (Kept.of_below bb).grown hg3 (From.mem (by simp))
      obtain ⟨a, b', d⟩ := own_not_parser HPr.out HO.out
      have hmd3 := own_kept HMr.out hK2 (fun x hx => by simpa using fun e => own_ne_own HMr.out HO.out (by decide) hx e.symm)
      have hF3 := ((From.moved hm3).later hsz2).trans1 hF hsr
      have hK3 : Kept [some g, v.ownBlock] w w3 := HKr.out.trans hK2 (by simpa using hF.mono (by simp))
      have hP3 := HPr.out.kept hK2 a b' d
      have hown3' : w3.ownsRow B 24 7 v' (n + (k + 1)) (xs ++ mcells (prs (l.take (k + 1)))) := by
        rw [E.out, mcells_app, mcells_one]
        rw [List.append_assoc] at hown3
        exact hown3
      go_roundw
      case rel => exact ⟨k + 1, by omega, by go_num, hown3', hP3, hmd3, hK3, hF3⟩
      case measure => simp [intOf]; omega
    · obtain rfl : k = l.length := by omega
      rw [List.take_of_length_le (Nat.le_refl _)] at hown
      go_wp2_with fail
      go_ret
      have hl := prs_len l
      exact ⟨_, vp, vt, prs l, rfl, prs_ev l, hP, by rw [hl]; exact hown, prs_own _ _ _, fun p hp => .inl (prs_nil l p hp), hK.more (by simp +contextual), hF, From.mem (by simp), From.mem (by simp)⟩
end Go.Proofs.YtnnjppgmadmmaaaDoor
