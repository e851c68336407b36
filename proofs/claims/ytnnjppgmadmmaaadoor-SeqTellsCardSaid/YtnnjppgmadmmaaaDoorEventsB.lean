/- linguistkeep's Events of any two lists of one length: are they alike? (written by tools/geneventsb.py) -/
import Derived.Test.YtnnjppgmadmmaaaDoorSeqSame
import Derived.Test.YtnnjppgmadmmaaaDoorSeqBox
import Derived.Deep.DeepCutAuto
set_option maxRecDepth 100000
namespace Go.Proofs.YtnnjppgmadmmaaaDoor
open Go.RowKit
set_option linter.unusedVariables false
instance : DecidableEq PA.Ev := fun a b => decidable_of_iff (evEqB a b = true) (evEqB_iff a b)
theorem takes_more {M M' : List (PA.Ev × Value)} {k : Nat} {p p' : PA.Ev × Value} (h : (M.map (·.1)).take k = (M'.map (·.1)).take k) (hp : M[k]? = some p) (hp' : M'[k]? = some p') (e : p.1 = p'.1) : (M.map (·.1)).take (k + 1) = (M'.map (·.1)).take (k + 1) := by
  rw [List.take_add_one, List.take_add_one, h, List.getElem?_map, List.getElem?_map, hp, hp']
  simp [e]
theorem takes_part {M M' : List (PA.Ev × Value)} {k : Nat} {p p' : PA.Ev × Value} (hp : M[k]? = some p) (hp' : M'[k]? = some p') (e : p.1 ≠ p'.1) : M.map (·.1) ≠ M'.map (·.1) := fun h => by
  have := congrArg (·[k]?) h
  simp only [List.getElem?_map, hp, hp', Option.map_some, Option.some.injEq] at this
  exact e this
/-- two events, laid each in a block of its own -/
def TwoEvB (e e' : PA.Ev) (u u' : Value) (wr : World) (a b : Value) (wx : World) : Prop :=
  ∃ g1 g2, a = .pointer (some ⟨g1, 0, none⟩) ∧ b = .pointer (some ⟨g2, 0, none⟩) ∧ Box wx g1 24 (ecells e u).toArray ∧ Box wx g2 24 (ecells e' u').toArray ∧ Below wr.heap.size wr wx
set_option maxHeartbeats 8000000 in
theorem eventsB_any (A A' : Option Addr) (n c c' : Nat) (M M' : List (PA.Ev × Value)) (w : World) (h : SeenE w A n M) (h' : SeenE w A' n M') (hf : ∀ p ∈ M, EvFits p.1) (hf' : ∀ p ∈ M', EvFits p.1) (hn : n ≤ 1099511627776) :
    Calls Tryd.prog 18 #[.slice A n c, .slice A' n c'] w fun e w' => e = .returned (.bool (decide (M.map (·.1) = M'.map (·.1)))) ∧ Below w.heap.size w w' := by
  have HA := hide h
  have HA' := hide h'
  have HF := hide (And.intro hf hf')
  clear h h' hf hf'
  go_enter Tryd.func18, Tryd.ntmps18
  go_wp2_with fail
  go_loopw [15] (fun i wr => ∃ k : Nat, k ≤ n ∧ i = .int .i64 k ∧ Below w.heap.size w wr ∧ Hid ((M.map (·.1)).take k = (M'.map (·.1)).take k)) (fun i _ => n - (intOf i).toNat)
  case atStart => exact ⟨0, Nat.zero_le _, rfl, Below.refl _ _, hide (by simp)⟩
  case round =>
    obtain ⟨k, hk, rfl, b0, HT⟩ := hrel
    by_cases hlt : k < n
    · obtain ⟨p, hp⟩ : ∃ p, M[k]? = some p := ⟨_, List.getElem?_eq_getElem (by rw [HA.out.1]; exact hlt)⟩
      obtain ⟨p', hp'⟩ : ∃ p, M'[k]? = some p := ⟨_, List.getElem?_eq_getElem (by rw [HA'.out.1]; exact hlt)⟩
      have ft := (HF.out.1 p (List.mem_of_getElem? hp)).2
      have ft' := (HF.out.2 p' (List.mem_of_getElem? hp')).2
      have HY := hide (fun e => takes_more HT.out hp hp' e)
      have HNO := hide (fun e => decide_eq_false (takes_part hp hp' e))
      obtain ⟨ga, rfl, hga, hca, Ap, cp, hpu, hps, hle⟩ := (HA.out.kept b0).2 k p hp
      obtain ⟨ga', rfl, hga', hca', Ap', cp', hpu', hps', _⟩ := (HA'.out.kept b0).2 k p' hp'
      obtain ⟨e, u⟩ := p
      obtain ⟨e', u'⟩ := p'
      simp only [] at hca hca' hpu hpu' hps hps' ft ft' HY HNO
      subst hpu hpu'
      obtain ⟨e0, e1, e2, e3, e4, el, et⟩ := e
      obtain ⟨x0, x1, x2, x3, x4, xl, xt⟩ := e'
      simp only [] at hca hca' hps hps' ft ft'
      have hts := strOfNums_eq ft ft'
      clear ft ft'
      have c0 := hca 0 _ rfl
      have c1 := hca 1 _ rfl
      have c2 := hca 2 _ rfl
      have c3 := hca 3 _ rfl
      have c4 := hca 4 _ rfl
      have c5 := hca 5 _ rfl
      have c6 := hca 6 _ rfl
      have d0 := hca' 0 _ rfl
      have d1 := hca' 1 _ rfl
      have d2 := hca' 2 _ rfl
      have d3 := hca' 3 _ rfl
      have d4 := hca' 4 _ rfl
      have d5 := hca' 5 _ rfl
      have d6 := hca' 6 _ rfl
      simp only [Nat.add_zero] at c0 d0 c1 c2 c3 c4 c5 c6 d1 d2 d3 d4 d5 d6
      have HTS := hide hts
      have HS := hide hps
      have HS' := hide hps'
      clear hca hca' hps hps' hp hp' hts
      go_upto_region 6 with fail
      go_cut [6, 7] (fun a b wx => TwoEvB ⟨e0, e1, e2, e3, e4, el, et⟩ ⟨x0, x1, x2, x3, x4, xl, xt⟩ (.slice Ap el.length cp) (.slice Ap' xl.length cp') wr a b wx)
      case first =>
        go_region
        all_goals
          go_wp2_with fail
          go_meet
          refine ⟨_, _, rfl, rfl, ?_, ?_, (((Below.refl _ wr).alloc (Nat.le_refl _) _).alloc (by simp) _).drew⟩
          · first | exact ((Box.fresh rfl).alloc _).drew | exact (Box.fresh (by simp)).drew
          · first | exact ((Box.fresh rfl).alloc _).drew | exact (Box.fresh (by simp)).drew
      case rest =>
        obtain ⟨g1, g2, rfl, rfl, b1, b2, bb⟩ := hcut
        clear c0 c1 c2 c3 c4 c5 c6 d0 d1 d2 d3 d4 d5 d6
        obtain ⟨y0, y1, y2, y3, y4, y5, y6⟩ := Box.seven b1
        obtain ⟨z0, z1, z2, z3, z4, z5, z6⟩ := Box.seven b2
        have SM := hide (sameB_i64 el xl Ap Ap' wc.heap.size wc.heap.size el.length cp xl.length cp' wc ((HS.out.below bb).more bb.size) ((HS'.out.below bb).more bb.size) (by have : el.length ≤ 1024 := hle; omega))
        have HB := hide (b0.trans (bb.mono b0.size))
        clear b1 b2 bb b0
        simp only [] at y0 y1 y2 y3 y4 y5 y6 z0 z1 z2 z3 z4 z5 z6
        have hTT : strOfNums et = strOfNums et ∧ strOfNums xt = strOfNums xt := ⟨rfl, rfl⟩
        generalize hse : strOfNums et = se at y6 HTS
        generalize hsx : strOfNums xt = sx at z6 HTS
        clear hTT
        by_cases h0 : e0 = x0
        rotate_left
        · have t0 : (e0 != x0) = true := by simpa using h0
          have HE := hide (HNO.out (fun e => h0 (congrArg PA.Ev.kind e)))
          clear h0 hse hsx
          go_wp2_with fail
          go_ret
          exact ⟨c_bool HE.out.symm, HB.out⟩
        subst h0
        by_cases h1 : e1 = x1
        rotate_left
        · have t1 : (e1 != x1) = true := by simpa using h1
          have HE := hide (HNO.out (fun e => h1 (congrArg PA.Ev.rune e)))
          clear h1 hse hsx
          go_wp2_with fail
          go_ret
          exact ⟨c_bool HE.out.symm, HB.out⟩
        subst h1
        by_cases h2 : e2 = x2
        rotate_left
        · have t2 : (e2 != x2) = true := by simpa using h2
          have HE := hide (HNO.out (fun e => h2 (congrArg PA.Ev.priv e)))
          clear h2 hse hsx
          go_wp2_with fail
          go_ret
          exact ⟨c_bool HE.out.symm, HB.out⟩
        subst h2
        by_cases h3 : e3 = x3
        rotate_left
        · have t3 : (e3 != x3) = true := by simpa using h3
          have HE := hide (HNO.out (fun e => h3 (congrArg PA.Ev.inter e)))
          clear h3 hse hsx
          go_wp2_with fail
          go_ret
          exact ⟨c_bool HE.out.symm, HB.out⟩
        subst h3
        by_cases h4 : e4 = x4
        rotate_left
        · have t4 : (e4 != x4) = true := by simpa using h4
          have HE := hide (HNO.out (fun e => h4 (congrArg PA.Ev.final e)))
          clear h4 hse hsx
          go_wp2_with fail
          go_ret
          exact ⟨c_bool HE.out.symm, HB.out⟩
        subst h4
        by_cases h6 : et = xt
        rotate_left
        · have t6 : (se.toList == sx.toList) = false := by rw [HTS.out]; simpa using h6
          have t7 : (se.toList != sx.toList) = true := by simp only [bne, t6]; rfl
          have HE := hide (HNO.out (fun e => h6 (congrArg PA.Ev.text e)))
          clear h6 hse hsx
          go_wp2_with fail
          go_ret
          exact ⟨c_bool HE.out.symm, HB.out⟩
        subst h6
        obtain rfl : se = sx := hse.symm.trans hsx
        clear hse hsx
        by_cases h5 : el = xl
        · rw [decide_eq_true h5] at SM
          have HE := hide (HY.out (by rw [h5]))
          clear h5
          go_wp2_with fail
          refine SM.out.mono ?_
          rintro e w2 ⟨rfl, q, rfl⟩
          go_wp2_with fail
          go_roundw
          case rel => exact ⟨k + 1, by omega, by go_num, below_drewN HB.out _, HE⟩
          case measure => simp [intOf]; omega
        · rw [decide_eq_false h5] at SM
          have HE := hide (HNO.out (fun e => h5 (congrArg PA.Ev.params e)))
          clear h5
          go_wp2_with fail
          refine SM.out.mono ?_
          rintro e w2 ⟨rfl, q, rfl⟩
          go_wp2_with fail
          go_ret
          exact ⟨c_bool HE.out.symm, below_drewN HB.out _⟩
    · obtain rfl : k = n := by omega
      have HE := hide (decide_eq_true (show M.map (·.1) = M'.map (·.1) by
        have := HT.out
        rwa [List.take_of_length_le (by rw [List.length_map, HA.out.1]; omega), List.take_of_length_le (by rw [List.length_map, HA'.out.1]; omega)] at this))
      go_wp2_with fail
      go_ret
      exact ⟨c_bool HE.out.symm, b0⟩
end Go.Proofs.YtnnjppgmadmmaaaDoor
