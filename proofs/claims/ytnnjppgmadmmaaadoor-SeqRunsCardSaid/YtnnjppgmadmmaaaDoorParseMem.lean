/- A parser in memory: its block, the rows that it gathers in; the contracts of begin, semicolon, digit, gather, printed. -/
import Derived.Test.YtnnjppgmadmmaaaDoorKept
import Derived.Test.YtnnjppgmadmmaaaDoorParseSpec
import Derived.Test.YtnnjppgmadmmaaaDoorLists
import Derived.Test.YtnnjppgmadmmaaaDoorEnds
import Derived.WalkSpells
import Derived.WalkLawsBesides
import Derived.BigQuiet
import Derived.Deep.QuietTactic
set_option maxRecDepth 100000
namespace Go.Proofs.YtnnjppgmadmmaaaDoor
open Go.RowKit
set_option linter.unusedVariables false
def i64s (l : List Int) : List Value := l.map (Value.int .i64)
theorem i64s_len (l : List Int) : (i64s l).length = l.length := by simp [i64s]
theorem info_i64 : (Tryd.prog.info? 3).map (fun i => (i.zero, i.size, i.bytes)) = some (some (.int .i64 0), 1, 8) := by kernel_rfl
/-- the cells of a parser -/
def pcells (s : PA.S) (vp vt : Value) : Array Value := #[.int .u8 s.st, .int .i64 s.dec.need, .int .i64 s.dec.have_, .int .i64 s.dec.acc, .int .u8 s.d.priv, .int .u8 s.d.inter, .int .i64 s.d.parts, vp, vt]
/-- block g is the parser s; its parameters lie in vp, its text in vt -/
structure PB (w : World) (B g : Nat) (s : PA.S) (vp vt : Value) : Prop where
  box : Box w g 67 (pcells s vp vt)
  par : w.ownsRow B 3 1 vp s.d.params.length (i64s s.d.params)
  txt : w.ownsRow B 5 1 vt s.d.text.length (u8s s.d.text)
  low : B ≤ g
  pn : s.d.params = [] → vp = .slice none 0 0
  tn : s.d.text = [] → vt = .slice none 0 0
theorem Box.nine {w : World} {g : Nat} {t : TypeId} {a b c d e f h i j : Value} (x : Box w g t #[a, b, c, d, e, f, h, i, j]) :
    w.cell? ⟨g, 0, none⟩ = some a ∧ w.cell? ⟨g, 1, none⟩ = some b ∧ w.cell? ⟨g, 2, none⟩ = some c ∧ w.cell? ⟨g, 3, none⟩ = some d ∧ w.cell? ⟨g, 4, none⟩ = some e ∧ w.cell? ⟨g, 5, none⟩ = some f ∧ w.cell? ⟨g, 6, none⟩ = some h ∧ w.cell? ⟨g, 7, none⟩ = some i ∧ w.cell? ⟨g, 8, none⟩ = some j :=
  ⟨x.cell 0, x.cell 1, x.cell 2, x.cell 3, x.cell 4, x.cell 5, x.cell 6, x.cell 7, x.cell 8⟩
theorem PB.lt {w : World} {B g : Nat} {s : PA.S} {vp vt : Value} (h : PB w B g s vp vt) : g < w.heap.size := h.box.lt
theorem PB.kept {w w' : World} {L : List (Option Nat)} {B g : Nat} {s : PA.S} {vp vt : Value} (h : PB w B g s vp vt) (k : Kept L w w') (hg : some g ∉ L) (hp : ∀ b, vp.ownBlock = some b → some b ∉ L) (ht : ∀ b, vt.ownBlock = some b → some b ∉ L) : PB w' B g s vp vt :=
  ⟨h.box.kept k hg, own_kept h.par k hp, own_kept h.txt k ht, h.low, h.pn, h.tn⟩
theorem PB.below {w w' : World} {B g : Nat} {s : PA.S} {vp vt : Value} (h : PB w B g s vp vt) (hb : Below w.heap.size w w') : PB w' B g s vp vt :=
  h.kept (Kept.of_below (L := []) hb) (by simp) (by simp) (by simp)
theorem PB.alloc {w : World} {B g : Nat} {s : PA.S} {vp vt : Value} (h : PB w B g s vp vt) (o : Obj) : PB (w.alloc o) B g s vp vt := h.below ((Below.refl _ _).alloc (Nat.le_refl _) _)
theorem PB.drewN {w : World} {B g : Nat} {s : PA.S} {vp vt : Value} (h : PB w B g s vp vt) (n : Nat) : PB (w.drewN n) B g s vp vt := ⟨h.box, h.par, h.txt, h.low, h.pn, h.tn⟩
theorem PB.pne {w : World} {B g : Nat} {s : PA.S} {vp vt : Value} (h : PB w B g s vp vt) : vp.ownBlock ≠ some g := own_ne_box h.par h.box (by decide)
theorem PB.tne {w : World} {B g : Nat} {s : PA.S} {vp vt : Value} (h : PB w B g s vp vt) : vt.ownBlock ≠ some g := own_ne_box h.txt h.box (by decide)
/-- one field of the parser is written -/
theorem PB.store {w : World} {B g : Nat} {s s' : PA.S} {vp vt vp' vt' : Value} (h : PB w B g s vp vt) (i : Nat) (u : Value) (hc : (pcells s vp vt).setIfInBounds i u = pcells s' vp' vt')
    (hp : w.ownsRow B 3 1 vp' s'.d.params.length (i64s s'.d.params)) (ht : w.ownsRow B 5 1 vt' s'.d.text.length (u8s s'.d.text)) (pn : s'.d.params = [] → vp' = .slice none 0 0) (tn : s'.d.text = [] → vt' = .slice none 0 0) :
    PB (w.setCell ⟨g, i, none⟩ u) B g s' vp' vt' :=
  ⟨by rw [← hc]; exact h.box.set i u, own_store hp (own_ne_box hp h.box (by decide)) u, own_store ht (own_ne_box ht h.box (by decide)) u, h.low, pn, tn⟩
/-- what becomes of a parser: block g is s' now -/
def Did (w : World) (B g : Nat) (s' : PA.S) (vp vt : Value) (e : Ending) (w' : World) : Prop :=
  ∃ vp' vt', e = .returned (.tuple #[]) ∧ PB w' B g s' vp' vt' ∧ Kept [some g, vp.ownBlock, vt.ownBlock] w w' ∧ From w [vp.ownBlock] vp'.ownBlock ∧ From w [vt.ownBlock] vt'.ownBlock

set_option maxHeartbeats 2000000 in
theorem pbegin_any (B g : Nat) (s : PA.S) (vp vt : Value) (w : World) (h : PB w B g s vp vt) (hk : s.d.ok) (hn : s.d.parts ≤ 1099511627776) :
    Calls Tryd.prog 66 #[.pointer (some ⟨g, 4, none⟩)] w (Did w B g ⟨s.st, s.dec, s.d.begin_⟩ vp vt) := by
  obtain ⟨i0, hi, hz0, hz1, hz2⟩ := info_parts info_i64
  obtain ⟨k0, k1, k2, k3, k4, k5, k6, k7, k8⟩ := h.box.nine
  have fr := h.box.frozen
  have hlt := h.lt
  have hBw : B ≤ w.heap.size := by have := h.low; omega
  have hp := h.par
  have hlen := hk.len
  have hpl : s.d.params.length ≤ 16 := by omega
  have HB := hide h
  have HL := hide hlen
  have eq1 : (s.d.parts : Int) + 1 = ((s.d.parts + 1 : Nat) : Int) := by omega
  have EQ := hide eq1
  clear hlen eq1 h hk
  by_cases hlt16 : s.d.parts < 16
  · have E := hide (show s.d.begin_ = ⟨s.d.priv, s.d.inter, s.d.parts + 1, s.d.params ++ [-1], s.d.text⟩ by unfold PA.D.begin_; rw [if_pos hlt16])
    go_enter Tryd.func66, Tryd.ntmps66
    go_wp2_with (at_builtin; refine wpList_app1 rfl (.tmp 11) (.tmp 12) 22 rfl B 3 i0 _ 8 Tryd.underlying22 hi hz0 hz1 hz2 rfl vp s.d.params.length _ rfl hp _ _ _ rfl rfl rfl (by omega) (by omega) hBw ?_; intro v' w1 hown1 hg1 hm1; (obtain ⟨A1, c1, rfl, _⟩ := own_form hown1); (have hb1 := HB.out.box.grown hg1 (fun e => HB.out.pne e.symm)); (obtain ⟨j0, j1, j2, j3, j4, j5, j6, j7, j8⟩ := hb1.nine); (have fr1 := hb1.frozen))
    go_end0
    have hpn : some g ∉ [vp.ownBlock] := by simpa using fun e => HB.out.pne e.symm
    have hvt : w1.ownsRow B 5 1 vt s.d.text.length (u8s s.d.text) := HB.out.txt.kept hg1 (by
      rcases hq : vt.ownBlock with _ | b
      · exact .inl rfl
      · exact .inr (fun e => own_ne_own HB.out.txt HB.out.par (by decide) hq e.symm))
    have hne1 := own_ne_box hown1 hb1 (by decide)
    have hnt1 := own_ne_box hvt hb1 (by decide)
    rw [E.out]
    refine ⟨_, vt, rfl, ⟨?_, ?_, own_store (own_store hvt hnt1 _) hnt1 _, HB.out.low, fun e => by simp at e, HB.out.tn⟩, ?_, From.moved hm1, From.mem (by simp)⟩
    · have := (hb1.set 7 (.slice A1 (s.d.params.length + 1) c1)).set 6 (.int .i64 ((s.d.parts : Int) + 1))
      simpa [pcells] using this
    · have := own_store (own_store hown1 hne1 (p := ⟨g, 7, none⟩) (.slice A1 (s.d.params.length + 1) c1)) hne1 (p := ⟨g, 6, none⟩) (.int .i64 ((s.d.parts : Int) + 1))
      simpa [i64s] using this
    · exact (((Kept.refl _ w).grown hg1 (From.mem (by simp))).setCell (From.mem (by simp)) _).setCell (From.mem (by simp)) _
  · have E := hide (show s.d.begin_ = ⟨s.d.priv, s.d.inter, s.d.parts + 1, s.d.params, s.d.text⟩ by unfold PA.D.begin_; rw [if_neg hlt16])
    go_enter Tryd.func66, Tryd.ntmps66
    go_wp2_with fail
    go_end0
    rw [E.out]
    refine ⟨vp, vt, rfl, HB.out.store 6 _ ?_ HB.out.par HB.out.txt HB.out.pn HB.out.tn, ?_, From.mem (by simp), From.mem (by simp)⟩
    · simp [pcells]
    · exact (Kept.refl _ w).setCell (From.mem (by simp)) _
theorem Did.mono_kept {w w1 w2 : World} {B g : Nat} {s' : PA.S} {vp vt vp1 vt1 : Value} {e : Ending} (h : Did w1 B g s' vp1 vt1 e w2) (k : Kept [some g, vp.ownBlock, vt.ownBlock] w w1) (hp : From w [vp.ownBlock] vp1.ownBlock) (ht : From w [vt.ownBlock] vt1.ownBlock) :
    Did w B g s' vp vt e w2 := by
  obtain ⟨vp2, vt2, he, hP, hK, h1, h2⟩ := h
  refine ⟨vp2, vt2, he, hP, k.trans hK ?_, h1.trans1 hp k.size, h2.trans1 ht k.size⟩
  intro x hx
  simp only [List.mem_cons, List.not_mem_nil, or_false] at hx
  rcases hx with rfl | rfl | rfl
  · exact From.mem (by simp)
  · exact hp.mono (by simp)
  · exact ht.mono (by simp)
set_option maxHeartbeats 2000000 in
theorem semi_any (B g : Nat) (s : PA.S) (vp vt : Value) (w : World) (h : PB w B g s vp vt) (hk : s.d.ok) (hn : s.d.parts ≤ 1099511627770) :
    Calls Tryd.prog 59 #[.pointer (some ⟨g, 4, none⟩)] w (Did w B g ⟨s.st, s.dec, s.d.semi⟩ vp vt) := by
  obtain ⟨k0, k1, k2, k3, k4, k5, k6, k7, k8⟩ := h.box.nine
  have hfp := PA.first_parts s.d
  have BA := hide (fun w' vp' vt' h' => pbegin_any B g ⟨s.st, s.dec, s.d.first⟩ vp' vt' w' h' (PA.first_ok hk) (by simp only []; omega))
  have B0 := hide (pbegin_any B g s vp vt w h hk (by omega))
  have HB := hide h
  clear h hfp
  by_cases h0 : s.d.parts = 0
  · have E := hide (show s.d.first = s.d.begin_ by unfold PA.D.first; rw [if_pos h0])
    have h0' : ((s.d.parts : Int) == 0) = true := by simp [h0]
    clear h0
    go_enter Tryd.func59, Tryd.ntmps59
    go_wp2_with fail
    refine B0.out.mono ?_
    rintro e w1 ⟨vp1, vt1, rfl, hP, hK, hp1, ht1⟩
    rw [← E.out] at hP
    go_wp2_with fail
    refine (BA.out _ _ _ hP).mono ?_
    intro e w2 hD
    have hD' := hD.mono_kept hK hp1 ht1
    obtain ⟨vp2, vt2, rfl, r⟩ := hD'
    go_wp2_with fail
    go_end0
    exact ⟨vp2, vt2, rfl, r⟩
  · have E := hide (show s.d.first = s.d by unfold PA.D.first; rw [if_neg h0])
    have h0' : ((s.d.parts : Int) == 0) = false := by simpa using h0
    clear h0
    have hP := HB.out
    go_enter Tryd.func59, Tryd.ntmps59
    go_wp2_with fail
    refine (BA.out _ _ _ (by rw [E.out]; exact HB.out)).mono ?_
    rintro e w2 ⟨vp2, vt2, rfl, r⟩
    go_wp2_with fail
    go_end0
    exact ⟨vp2, vt2, rfl, r⟩
theorem put_far (B g m : Nat) (s : PA.S) (vp vt : Value) (n : Int) (w : World) (h : PB w B g s vp vt) (hk : s.d.ok) (hm : s.d.parts = m + 1) (h16 : m + 1 ≤ 16) :
    ∃ c x y, vp = .slice (some ⟨c, 0, none⟩) (m + 1) x ∧ w.cell? ⟨c, m, none⟩ = some (.int .i64 y) ∧ w.frozen? ⟨c, m, none⟩ = false ∧ ¬ c = g ∧ -1 ≤ y ∧ y ≤ 65535 ∧
      s.d.put n = ⟨s.d.priv, s.d.inter, s.d.parts, s.d.params.set m (PA.up y n), s.d.text⟩ ∧
      ∀ u : Int, PB (w.setCell ⟨c, m, none⟩ (.int .i64 u)) B g ⟨s.st, s.dec, ⟨s.d.priv, s.d.inter, s.d.parts, s.d.params.set m u, s.d.text⟩⟩ vp vt := by
  have hlen : s.d.params.length = m + 1 := by have := hk.len; omega
  have hlt : m < s.d.params.length := by omega
  have hp := h.par
  have hnum := hk.nums _ (List.getElem_mem hlt)
  have hgd : s.d.params.getD m 0 = s.d.params[m] := by rw [List.getD_eq_getElem?_getD, List.getElem?_eq_getElem hlt]; rfl
  obtain ⟨A, c, hv, _⟩ := own_form hp
  rcases A with _ | ad
  · subst hv
    have : s.d.params.length = 0 := by
      rcases hp.2 with ⟨_, h⟩ | ⟨_, _, _, hv, _⟩
      · exact h
      · cases hv
    omega
  · have hadr : ∃ b, ad = ⟨b, 0, none⟩ := by
      subst hv
      rcases hp.2 with ⟨hv, _⟩ | ⟨b, _, _, hv, _⟩
      · cases hv
      · injection hv with hv
        injection hv with hv
        exact ⟨b, hv⟩
    obtain ⟨b, rfl⟩ := hadr
    subst hv
    have hne : ¬ b = g := fun e => h.pne (by simp [Value.ownBlock, e])
    refine ⟨b, c, s.d.params[m], by rw [hlen], ?_, hp.frozenAt _, hne, hnum.1, hnum.2, ?_, fun u => ?_⟩
    · rw [hp.cellAt _ (by omega), i64s, List.getElem?_map, List.getElem?_eq_getElem hlt]
      rfl
    · unfold PA.D.put
      rw [if_neg (by omega), hm, Nat.add_sub_cancel, hgd]
    · refine ⟨h.box.far (p := ⟨b, m, none⟩) (fun e => hne e.symm) _, ?_, own_store h.txt (p := ⟨b, m, none⟩) (fun e => own_ne_own hp h.txt (by decide) rfl e) _, h.low, fun e => ?_, h.tn⟩
      · have := (hp.stored m (.int .i64 u)).1
        simpa [i64s, List.map_set] using this
      · exact h.pn (by simpa using e)
theorem digit_end {B g m c x nq : Nat} {s : PA.S} {d : PA.D} {vp vt vt1 : Value} {w w1 : World} {y n u : Int} (HP : ∀ u : Int, PB (w1.setCell ⟨c, m, none⟩ (.int .i64 u)) B g ⟨s.st, s.dec, ⟨d.priv, d.inter, d.parts, d.params.set m u, d.text⟩⟩ (.slice (some ⟨c, 0, none⟩) (m + 1) x) vt1)
    (HK : Kept [some g, vp.ownBlock, vt.ownBlock] w w1) (hp1 : From w [vp.ownBlock] (Value.slice (some ⟨c, 0, none⟩) (m + 1) x).ownBlock) (ht1 : From w [vt.ownBlock] vt1.ownBlock)
    (ED : s.d.digit n = d.put n) (EP : d.put n = ⟨d.priv, d.inter, d.parts, d.params.set m (PA.up y n), d.text⟩) (hu : u = PA.up y n) :
    Did w B g ⟨s.st, s.dec, s.d.digit n⟩ vp vt (.returned (.tuple #[])) ((w1.drewN nq).setCell ⟨c, m, none⟩ (.int .i64 u)) := by
  rw [ED, EP]
  subst hu
  exact ⟨_, _, rfl, (HP _).drewN nq, (HK.drewN nq).setCell (p := ⟨c, m, none⟩) ((hp1.mono (by simp)) : From w _ (some c)) _, hp1, ht1⟩
set_option maxHeartbeats 2000000 in
theorem digit_any (B g : Nat) (s : PA.S) (vp vt : Value) (n : Int) (w : World) (h : PB w B g s vp vt) (hk : s.d.ok) (hn : s.d.parts ≤ 1099511627770) (n0 : 0 ≤ n) (n9 : n ≤ 9) :
    Calls Tryd.prog 58 #[.pointer (some ⟨g, 4, none⟩), .int .i64 n] w (Did w B g ⟨s.st, s.dec, s.d.digit n⟩ vp vt) := by
  obtain ⟨k0, k1, k2, k3, k4, k5, k6, k7, k8⟩ := h.box.nine
  have hfp := PA.first_parts s.d
  have HFK := hide (PA.first_ok hk)
  have B0 := hide (pbegin_any B g s vp vt w h hk (by omega))
  have HB := hide h
  have ED := hide (show s.d.digit n = s.d.first.put n from rfl)
  clear h
  by_cases h0 : s.d.parts = 0
  · have E := hide (show s.d.first = s.d.begin_ by unfold PA.D.first; rw [if_pos h0])
    have h0' : ((s.d.parts : Int) == 0) = true := by simp [h0]
    clear h0 hk
    go_enter Tryd.func58, Tryd.ntmps58
    go_wp2_with fail
    refine B0.out.mono ?_
    rintro e w1 ⟨vp1, vt1, rfl, hP, hK, hp1, ht1⟩
    rw [← E.out] at hP
    clear E B0 HB
    obtain ⟨m, hm⟩ : ∃ m, s.d.first.parts = m + 1 := ⟨s.d.first.parts - 1, by omega⟩
    clear k0 k1 k2 k3 k4 k5 k6 k7 k8 
    have HF := hide hP.box.nine
    have HP := hide hP
    have HK := hide hK
    by_cases h16 : m + 1 ≤ 16
    · obtain ⟨c, x, y, hv, hc, hf, hne, b0, b1, hput, hst⟩ := put_far B g m _ vp1 vt1 n w1 hP HFK.out hm h16
      have HST := hide hst
      have EP := hide hput
      subst hv
      have j6 := hP.box.nine.2.2.2.2.2.2.1
      have j7 := hP.box.nine.2.2.2.2.2.2.2.1
      simp only [hm] at j6
      have hm16 : ¬ (16 : Int) < (m : Int) + 1 := by omega
      clear hst hP hm hK hfp HF hput
      go_wp2_with fail
      go_quiet (fail)
      go_wp2_with fail
      all_goals
        go_end0
        refine digit_end HST.out HK.out hp1 ht1 ED.out EP.out ?_
        unfold PA.up
        first | rw [if_pos (by omega), if_pos (by omega)]; omega | rw [if_neg (by omega), if_pos (by omega)] | (rw [if_neg (by omega), if_neg (by omega)]) | omega
    · have EP := hide (show s.d.first.put n = s.d.first by unfold PA.D.put; rw [if_pos (by omega)])
      have j6 := hP.box.nine.2.2.2.2.2.2.1
      simp only [hm] at j6
      have hm16 : (16 : Int) < (m : Int) + 1 := by omega
      clear hP hm hK hfp HF
      go_wp2_with fail
      go_end0
      rw [ED.out, EP.out]
      exact ⟨_, _, rfl, HP.out, HK.out, hp1, ht1⟩
  · have E := hide (show s.d.first = s.d by unfold PA.D.first; rw [if_neg h0])
    have h0' : ((s.d.parts : Int) == 0) = false := by simpa using h0
    have hP : PB w B g ⟨s.st, s.dec, s.d.first⟩ vp vt := by rw [E.out]; exact HB.out
    have hK : Kept [some g, vp.ownBlock, vt.ownBlock] w w := Kept.refl _ _
    have hp1 : From w [vp.ownBlock] vp.ownBlock := From.mem (by simp)
    have ht1 : From w [vt.ownBlock] vt.ownBlock := From.mem (by simp)
    clear h0 hk E HB B0
    obtain ⟨m, hm⟩ : ∃ m, s.d.first.parts = m + 1 := ⟨s.d.first.parts - 1, by omega⟩
    clear k0 k1 k2 k3 k4 k5 k6 k7 k8 h0'
    have h0q : (((m : Int) + 1) == 0) = false := by simp; omega
    have HF := hide hP.box.nine
    have HP := hide hP
    have HK := hide hK
    by_cases h16 : m + 1 ≤ 16
    · obtain ⟨c, x, y, hv, hc, hf, hne, b0, b1, hput, hst⟩ := put_far B g m _ vp vt n w hP HFK.out hm h16
      have HST := hide hst
      have EP := hide hput
      subst hv
      have j6 := hP.box.nine.2.2.2.2.2.2.1
      have j7 := hP.box.nine.2.2.2.2.2.2.2.1
      simp only [hm] at j6
      have hm16 : ¬ (16 : Int) < (m : Int) + 1 := by omega
      clear hst hP hm hK hfp HF hput
      go_enter Tryd.func58, Tryd.ntmps58
      go_wp2_with fail
      go_quiet (fail)
      go_wp2_with fail
      all_goals
        go_end0
        refine digit_end HST.out HK.out hp1 ht1 ED.out EP.out ?_
        unfold PA.up
        first | rw [if_pos (by omega), if_pos (by omega)]; omega | rw [if_neg (by omega), if_pos (by omega)] | (rw [if_neg (by omega), if_neg (by omega)]) | omega
    · have EP := hide (show s.d.first.put n = s.d.first by unfold PA.D.put; rw [if_pos (by omega)])
      have j6 := hP.box.nine.2.2.2.2.2.2.1
      simp only [hm] at j6
      have hm16 : (16 : Int) < (m : Int) + 1 := by omega
      clear hP hm hK hfp HF
      go_enter Tryd.func58, Tryd.ntmps58
      go_wp2_with fail
      go_end0
      rw [ED.out, EP.out]
      exact ⟨_, _, rfl, HP.out, HK.out, hp1, ht1⟩
end Go.Proofs.YtnnjppgmadmmaaaDoor
