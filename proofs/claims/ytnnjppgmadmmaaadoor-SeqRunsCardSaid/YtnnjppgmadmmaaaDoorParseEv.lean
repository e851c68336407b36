/- Events in memory; the contracts of printed, gather, and of one appended event. -/
import Derived.Test.YtnnjppgmadmmaaaDoorParseMem
import Derived.Test.YtnnjppgmadmmaaaDoorUtfPush
import Derived.Laws.BytesArg
set_option maxRecDepth 100000
namespace Go.Proofs.YtnnjppgmadmmaaaDoor
open Go.RowKit
set_option linter.unusedVariables false
/-- the cells of an event; u: where its parameters lie -/
def ecells (e : PA.Ev) (u : Value) : List Value := [.int .i64 e.kind, .int .i32 e.rune, .int .u8 e.priv, .int .u8 e.inter, .int .u8 e.final, u, .string (strOfNums e.text)]
def mcells (M : List (PA.Ev × Value)) : List Value := M.flatMap fun p => ecells p.1 p.2
/-- each event's parameters lie in a row of its own -/
def OwnM (w : World) (B : Nat) (M : List (PA.Ev × Value)) : Prop := ∀ p ∈ M, w.ownsRow B 3 1 p.2 p.1.params.length (i64s p.1.params)
theorem mcells_app (M N : List (PA.Ev × Value)) : mcells (M ++ N) = mcells M ++ mcells N := by simp [mcells]
theorem mcells_one (e : PA.Ev) (u : Value) : mcells [(e, u)] = ecells e u := by simp [mcells]
theorem OwnM.kept {w w' : World} {B : Nat} {M : List (PA.Ev × Value)} {L : List (Option Nat)} (h : OwnM w B M) (k : Kept L w w') (hn : ∀ p ∈ M, ∀ b, p.2.ownBlock = some b → some b ∉ L) : OwnM w' B M :=
  fun p hp => own_kept (h p hp) k (hn p hp)
theorem OwnM.app {w : World} {B : Nat} {M N : List (PA.Ev × Value)} (h : OwnM w B M) (k : OwnM w B N) : OwnM w B (M ++ N) := fun p hp => by
  rcases List.mem_append.1 hp with hp | hp
  · exact h p hp
  · exact k p hp
theorem OwnM.nil (w : World) (B : Nat) : OwnM w B [] := fun p hp => by cases hp
def zev : Value := .agg #[.int .i64 0, .int .i32 0, .int .u8 0, .int .u8 0, .int .u8 0, .slice none 0 0, .string ⟨#[]⟩]
theorem ecells_pr (r : Int) : [.int .i64 1, .int .i32 r, .int .u8 0, .int .u8 0, .int .u8 0, .slice none 0 0, .string ⟨#[]⟩] = ecells (PA.pr r) (.slice none 0 0) := rfl
theorem info_ev : (Tryd.prog.info? 24).map (fun i => (i.zero, i.size, i.bytes)) = some (some zev, 7, 56) := by kernel_rfl
theorem zev_size : zev.cells.size = 7 := rfl
/-- What a call leaves that appends events to v, and makes the parser s'. Q: what vp' is where an event has vp. -/
def Took (B g : Nat) (s' : PA.S) (evs : List PA.Ev) (vp vt v : Value) (n : Nat) (xs : List Value) (Q : Value → Prop) (w : World) (e : Ending) (w' : World) : Prop :=
  ∃ v' vp' vt' M, e = .returned v' ∧ M.map (·.1) = evs ∧ PB w' B g s' vp' vt' ∧ w'.ownsRow B 24 7 v' (n + M.length) (xs ++ mcells M) ∧ OwnM w' B M ∧ (∀ p ∈ M, p.2 = .slice none 0 0 ∨ (p.2 = vp ∧ Q vp')) ∧
    Kept [some g, v.ownBlock, vp.ownBlock, vt.ownBlock] w w' ∧ From w [v.ownBlock] v'.ownBlock ∧ From w [vp.ownBlock] vp'.ownBlock ∧ From w [vt.ownBlock] vt'.ownBlock
theorem own_not_parser {w : World} {B g B' n : Nat} {s : PA.S} {vp vt v : Value} {xs : List Value} (h : PB w B g s vp vt) (hv : w.ownsRow B' 24 7 v n xs) : some g ∉ [v.ownBlock] ∧ (∀ b, vp.ownBlock = some b → some b ∉ [v.ownBlock]) ∧ (∀ b, vt.ownBlock = some b → some b ∉ [v.ownBlock]) :=
  ⟨by simpa using fun e => own_ne_box hv h.box (by decide) e.symm, fun b hb => by simpa using fun e => own_ne_own h.par hv (by decide) hb e.symm, fun b hb => by simpa using fun e => own_ne_own h.txt hv (by decide) hb e.symm⟩
/-- nothing is appended -/
theorem took_none {w w' : World} {B g n : Nat} {s s' : PA.S} {vp vt vp' vt' v : Value} {xs : List Value} {Q : Value → Prop} (hv : w.ownsRow B 24 7 v n xs) (h : PB w B g s vp vt) (hP : PB w' B g s' vp' vt') (hK : Kept [some g, vp.ownBlock, vt.ownBlock] w w') (h1 : From w [vp.ownBlock] vp'.ownBlock) (h2 : From w [vt.ownBlock] vt'.ownBlock) :
    Took B g s' [] vp vt v n xs Q w (.returned v) w' := by
  refine ⟨v, vp', vt', [], rfl, rfl, hP, ?_, OwnM.nil _ _, by simp, hK.more (by simp +contextual), From.mem (by simp), h1, h2⟩
  have := own_kept hv hK (fun b hb => by
    have a := own_ne_box hv h.box (by decide)
    have c := own_ne_own hv h.par (by decide) hb
    have d := own_ne_own hv h.txt (by decide) hb
    simp only [List.mem_cons, List.not_mem_nil, or_false, not_or, Option.some.injEq]
    exact ⟨fun e => a (by rw [hb, e]), fun e => c e.symm, fun e => d e.symm⟩)
  simpa [mcells] using this
/-- one event is appended -/
theorem took_one {w w0 w1 : World} {B g n : Nat} {s : PA.S} {vp vt v v' u : Value} {xs ys : List Value} {e : PA.Ev} (h : PB w B g s vp vt) (hv : w.ownsRow B 24 7 v n xs) (hb : Below w.heap.size w w0) (hg : w0.grownBy w1 v.ownBlock) (hm : Moved w0 v v')
    (hown : w1.ownsRow B 24 7 v' (n + 1) (xs ++ ys)) (hy : ys = ecells e u) {Q : Value → Prop} (hu : (u = .slice none 0 0 ∧ e.params = []) ∨ (u = vp ∧ e.params = s.d.params ∧ Q vp)) :
    Took B g s [e] vp vt v n xs Q w (.returned v') w1 := by
  have k : Kept [v.ownBlock] w w1 := (Kept.of_below hb).grown hg (From.mem (by simp))
  obtain ⟨a, b, c⟩ := own_not_parser h hv
  have hP := h.kept k a b c
  refine ⟨v', vp, vt, [(e, u)], rfl, rfl, hP, ?_, ?_, ?_, k.more (by simp +contextual), (From.moved hm).later hb.size, From.mem (by simp), From.mem (by simp)⟩
  · rw [mcells_one, ← hy]
    exact hown
  · intro p hp
    simp only [List.mem_singleton] at hp
    subst hp
    rcases hu with ⟨rfl, hu⟩ | ⟨rfl, hu, _⟩
    · rw [hu]
      exact World.ownsRow_nil _ _ _ _
    · rw [hu]
      exact hP.par
  · intro p hp
    simp only [List.mem_singleton] at hp
    subst hp
    rcases hu with ⟨rfl, _⟩ | ⟨rfl, _, hq⟩
    · exact .inl rfl
    · exact .inr ⟨rfl, hq⟩
set_option maxHeartbeats 400000 in
theorem printed_any (r : Int) (w : World) : Calls Tryd.prog 50 #[.int .i32 r] w fun e w' => e = .returned (.agg #[.int .i64 1, .int .i32 r, .int .u8 0, .int .u8 0, .int .u8 0, .slice none 0 0, .string ⟨#[]⟩]) ∧ Below w.heap.size w w' := by
  go_enter Tryd.func50, Tryd.ntmps50
  go_wp2_with fail
  refine bodyPost_ret (v := .agg #[.int .i64 1, .int .i32 r, .int .u8 0, .int .u8 0, .int .u8 0, .slice none 0 0, .string ⟨#[]⟩]) (by simp [results, Tryd.results50, go_sem]) rfl ⟨rfl, ?_⟩
  exact (Below.refl _ _).alloc (Nat.le_refl _) _
set_option maxHeartbeats 2000000 in
theorem gather_any (B g : Nat) (s : PA.S) (vp vt : Value) (b : Int) (w : World) (h : PB w B g s vp vt) (hk : s.d.ok) :
    Calls Tryd.prog 60 #[.pointer (some ⟨g, 0, none⟩), .int .u8 b] w (Did w B g (PA.doo s 128 b).1 vp vt) := by
  obtain ⟨i0, hi, hz0, hz1, hz2⟩ := info_parts info_u8
  obtain ⟨k0, k1, k2, k3, k4, k5, k6, k7, k8⟩ := h.box.nine
  have fr := h.box.frozen
  have hlt := h.lt
  have hBw : B ≤ w.heap.size := by have := h.low; omega
  have ht := h.txt
  obtain ⟨A, c, hvt, _⟩ := own_form ht
  have htl := hk.tlen
  have HB := hide h
  have HK := hide hk
  clear h hk k0 k1 k2 k3 k4 k5 k6 k7
  by_cases h4 : s.d.text.length = 4096
  · have E := hide (show (PA.doo s 128 b).1 = ⟨11, s.dec, s.d⟩ by show (if _ then _ else _ : PA.S) = _; rw [if_pos h4])
    rw [h4] at hvt
    rw [hvt] at k8
    have k0 := HB.out.box.cell 0
    clear h4 hvt ht
    go_enter Tryd.func60, Tryd.ntmps60
    go_wp2_with fail
    go_end0
    rw [E.out]
    refine ⟨vp, vt, rfl, HB.out.store 0 _ ?_ HB.out.par HB.out.txt HB.out.pn HB.out.tn, ?_, From.mem (by simp), From.mem (by simp)⟩
    · simp [pcells]
    · exact (Kept.refl _ w).setCell (From.mem (by simp)) _
  · have E := hide (show (PA.doo s 128 b).1 = ⟨s.st, s.dec, ⟨s.d.priv, s.d.inter, s.d.parts, s.d.params, s.d.text ++ [b]⟩⟩ by show (if _ then _ else _ : PA.S) = _; rw [if_neg h4])
    have hne : ((s.d.text.length : Int) == 4096) = false := by simp; omega
    rw [hvt] at k8
    have HV := hide hvt
    clear h4 hvt
    generalize hn : s.d.text.length = n at *
    have HN := hide hn
    clear hn
    go_enter Tryd.func60, Tryd.ntmps60
    go_wp2_with (at_builtin; refine wpList_app1 rfl (.tmp 19) (.tmp 21) 26 rfl B 5 i0 _ 1 Tryd.underlying26 hi hz0 hz1 hz2 rfl (.slice A n c) n _ rfl (HV.out ▸ ht) _ _ _ rfl rfl rfl (by omega) (by omega) hBw ?_; intro v' w1 hown1 hg1 hm1; (obtain ⟨A1, c1, rfl, _⟩ := own_form hown1); (have hb1 := HB.out.box.grown hg1 (fun e => HB.out.tne (by rw [HV.out]; exact e.symm))); (have j8 := hb1.nine.2.2.2.2.2.2.2.2); (have fr1 := hb1.frozen))
    go_end0
    have hv := HV.out
    have hn := HN.out
    have hvp : w1.ownsRow B 3 1 vp s.d.params.length (i64s s.d.params) := HB.out.par.kept hg1 (by
      rw [← hv]
      rcases hq : vp.ownBlock with _ | b
      · exact .inl rfl
      · exact .inr (fun e => own_ne_own HB.out.par HB.out.txt (by decide) hq e.symm))
    have hne1 := own_ne_box hown1 hb1 (by decide)
    have hnp1 := own_ne_box hvp hb1 (by decide)
    rw [E.out]
    subst hv hn
    refine ⟨vp, _, rfl, ⟨?_, own_store hvp hnp1 _, ?_, HB.out.low, HB.out.pn, fun e => by simp at e⟩, ?_, From.mem (by simp), From.moved hm1⟩
    · have := hb1.set 8 (.slice A1 (s.d.text.length + 1) c1)
      simpa [pcells] using this
    · have := own_store hown1 hne1 (p := ⟨g, 8, none⟩) (.slice A1 (s.d.text.length + 1) c1)
      simpa [u8s] using this
    · exact ((Kept.refl _ w).grown hg1 (From.mem (by simp))).setCell (From.mem (by simp)) _
end Go.Proofs.YtnnjppgmadmmaaaDoor
