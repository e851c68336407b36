/- linguistkeep's Events, of rows of events that are the same: true. -/
import Derived.Test.YtnnjppgmadmmaaaDoorParseFeed
import Derived.Test.YtnnjppgmadmmaaaDoorSame64
import Derived.Deep.DeepCutAuto
import Derived.BigRegion
set_option maxRecDepth 100000
namespace Go.Proofs.YtnnjppgmadmmaaaDoor
open Go.RowKit
set_option linter.unusedVariables false
/-- the slice (A, n) reads as the events of M -/
def SeenE (w : World) (A : Option Addr) (n : Nat) (M : List (PA.Ev × Value)) : Prop :=
  M.length = n ∧ ∀ k p, M[k]? = some p → ∃ gb, A = some ⟨gb, 0, none⟩ ∧ gb < w.heap.size ∧ (∀ j u, (ecells p.1 p.2)[j]? = some u → w.cell? ⟨gb, k * 7 + j, none⟩ = some u) ∧
    ∃ Ap cp, p.2 = .slice Ap p.1.params.length cp ∧ Seen w w.heap.size Ap p.1.params.length (i64s p.1.params) ∧ p.1.params.length ≤ 1024
theorem ecells_len (e : PA.Ev) (u : Value) : (ecells e u).length = 7 := rfl
theorem mcells_len (M : List (PA.Ev × Value)) : (mcells M).length = M.length * 7 := by
  induction M with
  | nil => rfl
  | cons p M ih => simp only [mcells, List.flatMap_cons, List.length_append, List.length_cons] at ih ⊢; rw [ih, ecells_len]; omega
theorem mcells_at : ∀ (M : List (PA.Ev × Value)) (k j : Nat) (p : PA.Ev × Value) (u : Value), M[k]? = some p → (ecells p.1 p.2)[j]? = some u → (mcells M)[k * 7 + j]? = some u
  | [], k, j, p, u, h, _ => by simp at h
  | q :: M, 0, j, p, u, h, hu => by
    simp at h
    subst h
    have hj : j < 7 := (List.getElem?_eq_some_iff.1 hu).1
    show (ecells q.1 q.2 ++ mcells M)[0 * 7 + j]? = some u
    rw [Nat.zero_mul, Nat.zero_add, List.getElem?_append_left (by rw [ecells_len]; exact hj)]
    exact hu
  | q :: M, k + 1, j, p, u, h, hu => by
    have ih := mcells_at M k j p u (by simpa using h) hu
    show (ecells q.1 q.2 ++ mcells M)[(k + 1) * 7 + j]? = some u
    rw [List.getElem?_append_right (by rw [ecells_len]; omega), ecells_len, show (k + 1) * 7 + j - 7 = k * 7 + j by omega]
    exact ih
theorem seenE_of {w : World} {B B' c : Nat} {A : Option Addr} {M : List (PA.Ev × Value)} (h : w.ownsRow B 24 7 (.slice A M.length c) M.length (mcells M)) (hO : OwnM w B' M) (hb : ∀ p ∈ M, p.1.params.length ≤ 1024) : SeenE w A M.length M := by
  refine ⟨rfl, fun k p hp => ?_⟩
  have hk : k < M.length := (List.getElem?_eq_some_iff.1 hp).1
  rcases h.2 with ⟨hv, h0⟩ | ⟨gb, cap, cur, hv, _, hh, _⟩
  · omega
  · injection hv with h1 h2 h3
    subst h1 h3
    refine ⟨gb, rfl, (Array.getElem?_eq_some_iff.1 hh).1, fun j u hu => ?_, ?_⟩
    · have hj : j < 7 := (List.getElem?_eq_some_iff.1 hu).1
      rw [h.cellAt _ (by omega)]
      exact mcells_at M k j p u hp hu
    · have ho := hO p (List.mem_of_getElem? hp)
      obtain ⟨Ap, cp, hpv, _⟩ := own_form ho
      rw [hpv] at ho
      exact ⟨Ap, cp, hpv, Seen.of_own ho, hb p (List.mem_of_getElem? hp)⟩
theorem SeenE.kept {w w' : World} {A : Option Addr} {n : Nat} {M : List (PA.Ev × Value)} (h : SeenE w A n M) (hb : Below w.heap.size w w') : SeenE w' A n M :=
  ⟨h.1, fun k p hp => by
    obtain ⟨gb, h1, h2, h3, Ap, cp, h4, h5, h6⟩ := h.2 k p hp
    exact ⟨gb, h1, Nat.lt_of_lt_of_le h2 hb.size, fun j u hu => (hb.cell (p := ⟨gb, k * 7 + j, none⟩) h2).trans (h3 j u hu), Ap, cp, h4, (h5.below hb).more hb.size, h6⟩⟩
/-- two events, laid each in a block of its own -/
def TwoEv (W : World) (e : PA.Ev) (u u' : Value) (wr : World) (a b : Value) (wx : World) : Prop :=
  ∃ g1 g2, a = .pointer (some ⟨g1, 0, none⟩) ∧ b = .pointer (some ⟨g2, 0, none⟩) ∧ Box wx g1 24 (ecells e u).toArray ∧ Box wx g2 24 (ecells e u').toArray ∧ Below wr.heap.size wr wx
theorem Box.seven {w : World} {g : Nat} {t : TypeId} {a b c d e f h : Value} (x : Box w g t #[a, b, c, d, e, f, h]) :
    w.cell? ⟨g, 0, none⟩ = some a ∧ w.cell? ⟨g, 1, none⟩ = some b ∧ w.cell? ⟨g, 2, none⟩ = some c ∧ w.cell? ⟨g, 3, none⟩ = some d ∧ w.cell? ⟨g, 4, none⟩ = some e ∧ w.cell? ⟨g, 5, none⟩ = some f ∧ w.cell? ⟨g, 6, none⟩ = some h :=
  ⟨x.cell 0, x.cell 1, x.cell 2, x.cell 3, x.cell 4, x.cell 5, x.cell 6⟩
set_option maxRecDepth 100000 in
set_option maxHeartbeats 4000000 in
theorem events_any (A A' : Option Addr) (n c c' : Nat) (M M' : List (PA.Ev × Value)) (w : World) (h : SeenE w A n M) (h' : SeenE w A' n M') (he : M.map (·.1) = M'.map (·.1)) (hn : n ≤ 1099511627776) :
    Calls Tryd.prog 18 #[.slice A n c, .slice A' n c'] w fun e w' => e = .returned (.bool true) ∧ Below w.heap.size w w' := by
  have HA := hide h
  have HA' := hide h'
  have HE := hide he
  clear h h' he
  go_enter Tryd.func18, Tryd.ntmps18
  go_wp2_with fail
  go_loopw [15] (fun i wr => ∃ k : Nat, k ≤ n ∧ i = .int .i64 k ∧ Below w.heap.size w wr) (fun i _ => n - (intOf i).toNat)
  case atStart => exact ⟨0, Nat.zero_le _, rfl, Below.refl _ _⟩
  case round =>
    obtain ⟨k, hk, rfl, b0⟩ := hrel
    by_cases hlt : k < n
    · obtain ⟨p, hp⟩ : ∃ p, M[k]? = some p := ⟨_, List.getElem?_eq_getElem (by rw [HA.out.1]; exact hlt)⟩
      obtain ⟨p', hp'⟩ : ∃ p, M'[k]? = some p := ⟨_, List.getElem?_eq_getElem (by rw [HA'.out.1]; exact hlt)⟩
      have hpe : p.1 = p'.1 := by
        have h1 : (M.map (·.1))[k]? = some p.1 := by rw [List.getElem?_map, hp]; rfl
        have h2 : (M'.map (·.1))[k]? = some p'.1 := by rw [List.getElem?_map, hp']; rfl
        rw [HE.out, h2] at h1
        exact (Option.some.inj h1).symm
      obtain ⟨ga, rfl, hga, hca, Ap, cp, hpu, hps, hle⟩ := (HA.out.kept b0).2 k p hp
      obtain ⟨ga', rfl, hga', hca', Ap', cp', hpu', hps', _⟩ := (HA'.out.kept b0).2 k p' hp'
      obtain ⟨e, u⟩ := p
      obtain ⟨e', u'⟩ := p'
      simp only [] at hpe hca hca' hpu hpu' hps hps'
      subst hpe hpu hpu'
      obtain ⟨e0, e1, e2, e3, e4, el, et⟩ := e
      simp only [] at hca hca' hps hps'
      have c0 := hca 0 _ rfl
      have c1 := hca 1 _ rfl
      have c2 := hca 2 _ rfl
      have c3 := hca 3 _ rfl
      have c4 := hca 4 _ rfl
      have c5 := hca 5 _ rfl
      have c6 := hca 6 _ rfl
      have d0 := hca' 0 _ rfl
      have d1 := hca' 1 _ rfl
      have d2 := hca' 2 _ rfl
      have d3 := hca' 3 _ rfl
      have d4 := hca' 4 _ rfl
      have d5 := hca' 5 _ rfl
      have d6 := hca' 6 _ rfl
      simp only [Nat.add_zero] at c0 d0
      have HS := hide hps
      have HS' := hide hps'
      clear hca hca' hps hps' hp hp'
      go_upto_region 6 with fail
      go_cut [6, 7] (fun a b wx => TwoEv w ⟨e0, e1, e2, e3, e4, el, et⟩ (.slice Ap el.length cp) (.slice Ap' el.length cp') wr a b wx)
      case first =>
        go_region
        all_goals
          go_wp2_with fail
          go_meet
          refine ⟨_, _, rfl, rfl, ?_, ?_, (((Below.refl _ wr).alloc (Nat.le_refl _) _).alloc (by simp) _).drew⟩
          · first | exact ((Box.fresh rfl).alloc _).drew | exact (Box.fresh (by simp)).drew
          · first | exact ((Box.fresh rfl).alloc _).drew | exact (Box.fresh (by simp)).drew
      case rest =>
        obtain ⟨g1, g2, rfl, rfl, x1, x2, bb⟩ := hcut
        clear c0 c1 c2 c3 c4 c5 c6 d0 d1 d2 d3 d4 d5 d6
        obtain ⟨y0, y1, y2, y3, y4, y5, y6⟩ := Box.seven x1
        obtain ⟨z0, z1, z2, z3, z4, z5, z6⟩ := Box.seven x2
        have SM := hide (same_i64 el Ap Ap' wc.heap.size wc.heap.size el.length cp el.length cp' wc ((HS.out.below bb).more bb.size) ((HS'.out.below bb).more bb.size) (by have : el.length ≤ 1024 := hle; omega))
        have HB := hide (b0.trans (bb.mono b0.size))
        clear x1 x2 bb b0
        go_wp2_with fail
        refine SM.out.mono ?_
        rintro e w2 ⟨rfl, q, rfl⟩
        go_wp2_with fail
        go_roundw
        case rel => exact ⟨k + 1, by omega, by go_num, below_drewN HB.out _⟩
        case measure => simp [intOf]; omega
    · obtain rfl : k = n := by omega
      go_wp2_with fail
      go_ret
      exact ⟨rfl, b0⟩
end Go.Proofs.YtnnjppgmadmmaaaDoor
