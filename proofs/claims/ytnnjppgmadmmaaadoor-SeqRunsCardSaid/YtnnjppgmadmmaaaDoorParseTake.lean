/- The contract of take: one byte of a parser. -/
import Derived.Test.YtnnjppgmadmmaaaDoorParseDoCsi
import Derived.Test.YtnnjppgmadmmaaaDoorParseMove
import Derived.Deep.DeepCutAuto
set_option maxRecDepth 100000
namespace Go.Proofs.YtnnjppgmadmmaaaDoor
open Go.RowKit
set_option linter.unusedVariables false
theorem Tabs.kept {w w' : World} {L : List (Option Nat)} (h : Tabs w) (k : Kept L w w') (hL : ∀ b, some b ∈ L → 2 ≤ b) : Tabs w' := by
  have hlt := h.lt
  obtain ⟨⟨t, h⟩, ⟨u, g⟩⟩ := h
  exact ⟨⟨t, (k.block _ (by omega) (fun e => by have := hL _ e; omega)).trans h⟩, ⟨u, (k.block _ (by omega) (fun e => by have := hL _ e; omega)).trans g⟩⟩
/-- behind the first test: the held rune that a plain byte ends is printed -/
def Broke (B g : Nat) (s1 : PA.S) (ev : List PA.Ev) (vp vt v : Value) (n : Nat) (xs : List Value) (w : World) (o : Value) (wr : World) : Prop :=
  ∃ M, M.map (·.1) = ev ∧ PB wr B g s1 vp vt ∧ wr.ownsRow B 24 7 o (n + M.length) (xs ++ mcells M) ∧ (∀ p ∈ M, p.2 = .slice none 0 0) ∧ OwnM wr B M ∧ Kept [some g, v.ownBlock] w wr ∧ From w [v.ownBlock] o.ownBlock
/-- behind the second: what is to be done -/
def Midst (B g : Nat) (s : PA.S) (d : PA.D) (a nx : Int) (vp vt : Value) (w : World) (u7 u8 : Value) (wr : World) : Prop :=
  u7 = .int .u8 a ∧ u8 = .int .u8 nx ∧ ∃ vp' vt', PB wr B g ⟨s.st, s.dec, d⟩ vp' vt' ∧ Kept [some g] w wr ∧ (vp' = vp ∨ vp' = .slice none 0 0) ∧ (vt' = vt ∨ vt' = .slice none 0 0)
theorem notin1 {o : Option Nat} {b g : Nat} (h : o ≠ some g) (hb : o = some b) : some b ∉ [some g] := fun hm => by
  simp only [List.mem_singleton, Option.some.injEq] at hm
  exact h (by rw [hb, hm])
/-- the draft is let go -/
def zeroed (w : World) (g : Nat) : World := ((((w.setCell ⟨g, 4, none⟩ (.int .u8 0)).setCell ⟨g, 5, none⟩ (.int .u8 0)).setCell ⟨g, 6, none⟩ (.int .i64 0)).setCell ⟨g, 7, none⟩ (.slice none 0 0)).setCell ⟨g, 8, none⟩ (.slice none 0 0)
theorem zeroed_kept (w : World) (g : Nat) : Kept [some g] w (zeroed w g) :=
  (((((Kept.refl _ w).setCell (p := ⟨g, 4, none⟩) (From.mem (by simp)) _).setCell (p := ⟨g, 5, none⟩) (From.mem (by simp)) _).setCell (p := ⟨g, 6, none⟩) (From.mem (by simp)) _).setCell (p := ⟨g, 7, none⟩) (From.mem (by simp)) _).setCell (p := ⟨g, 8, none⟩) (From.mem (by simp)) _
theorem zeroed_pb {w : World} {B g : Nat} {s : PA.S} {vp vt : Value} (h : PB w B g s vp vt) : PB (zeroed w g) B g ⟨s.st, s.dec, PA.d0⟩ (.slice none 0 0) (.slice none 0 0) :=
  ⟨by
    have := ((((h.box.set 4 (.int .u8 0)).set 5 (.int .u8 0)).set 6 (.int .i64 0)).set 7 (.slice none 0 0)).set 8 (.slice none 0 0)
    simpa [pcells, PA.d0, zeroed] using this, World.ownsRow_nil _ _ _ _, World.ownsRow_nil _ _ _ _, h.low, fun _ => rfl, fun _ => rfl⟩
/-- the end of take: the events of both steps, one behind the other -/
theorem took_both {w w1 w2 w3 : World} {B g n : Nat} {s3 s4 : PA.S} {e1 e2 : List PA.Ev} {M M' : List (PA.Ev × Value)} {vp vt v o v' vp2 vt2 vp3 vt3 vp4 vt4 : Value} {xs : List Value} {a : Int}
    (hM : M.map (·.1) = e1) (hnil : ∀ p ∈ M, p.2 = .slice none 0 0) (hOM : OwnM w1 B M) (hK1 : Kept [some g, v.ownBlock] w w1) (hF : From w [v.ownBlock] o.ownBlock)
    (hp2 : vp2 = vp ∨ vp2 = .slice none 0 0) (ht2 : vt2 = vt ∨ vt2 = .slice none 0 0)
    (hM' : M'.map (·.1) = e2) (hown : w2.ownsRow B 24 7 v' (n + M.length + M'.length) (xs ++ mcells M ++ mcells M')) (hOM' : OwnM w2 B M') (hQ : ∀ p ∈ M', p.2 = .slice none 0 0 ∨ (p.2 = vp2 ∧ IsCsi a vp2 vp3))
    (hK2 : Kept [some g, o.ownBlock, vp2.ownBlock, vt2.ownBlock] w1 w2) (f1 : From w1 [o.ownBlock] v'.ownBlock) (f2 : From w1 [vp2.ownBlock] vp3.ownBlock) (f3 : From w1 [vt2.ownBlock] vt3.ownBlock)
    (hP2 : PB w2 B g s3 vp3 vt3) (hK3 : Kept [some g] w2 w3) (hP3 : PB w3 B g s4 vp4 vt4) (h4 : (vp4 = vp3 ∧ vt4 = vt3 ∧ a ≠ 160) ∨ (vp4 = .slice none 0 0 ∧ vt4 = .slice none 0 0)) :
    Took B g s4 (e1 ++ e2) vp vt v n xs (fun x => x = .slice none 0 0) w (.returned v') w3 := by
  have hn2 : ∀ b, v'.ownBlock = some b → some b ∉ [some g] := fun b hb => notin1 (own_ne_box hown hP2.box (by decide)) hb
  have s01 := hK1.size
  have fp : From w [vp.ownBlock] vp2.ownBlock := by
    rcases hp2 with rfl | rfl
    · exact From.mem (by simp)
    · exact From.none _ _
  have ft : From w [vt.ownBlock] vt2.ownBlock := by
    rcases ht2 with rfl | rfl
    · exact From.mem (by simp)
    · exact From.none _ _
  have fp3 := f2.trans1 fp s01
  have ft3 := f3.trans1 ft s01
  have hK : Kept [some g, v.ownBlock, vp.ownBlock, vt.ownBlock] w w3 := by
    refine ((hK1.more (L' := [some g, v.ownBlock, vp.ownBlock, vt.ownBlock]) (by simp +contextual)).trans hK2 ?_).trans hK3 ?_
    · intro x hx
      simp only [List.mem_cons, List.not_mem_nil, or_false] at hx
      rcases hx with rfl | rfl | rfl | rfl
      · exact From.mem (by simp)
      · exact hF.mono (by simp)
      · exact fp.mono (by simp)
      · exact ft.mono (by simp)
    · intro x hx
      simp only [List.mem_singleton] at hx
      subst hx
      exact From.mem (by simp)
  refine ⟨v', vp4, vt4, M ++ M', rfl, by rw [List.map_append, hM, hM'], hP3, ?_, ?_, ?_, hK, f1.trans1 hF s01, ?_, ?_⟩
  · have := own_kept hown hK3 hn2
    rw [mcells_app, List.length_append, ← Nat.add_assoc, ← List.append_assoc]
    exact this
  · refine OwnM.app (fun p hp => ?_) (fun p hp => ?_)
    · have h := hOM p hp
      rw [hnil p hp] at h ⊢
      exact ⟨h.1, .inl ⟨rfl, by simpa using own_nil h⟩⟩
    · refine own_kept (hOM' p hp) hK3 (fun b hb => notin1 (own_ne_box (hOM' p hp) hP2.box (by decide)) hb)
  · intro p hp
    rcases List.mem_append.1 hp with hp | hp
    · exact .inl (hnil p hp)
    · rcases hQ p hp with hq | ⟨hq, hc⟩
      · exact .inl hq
      · rcases h4 with ⟨_, _, h4⟩ | ⟨h4, _⟩
        · exact absurd hc.2 h4
        · rcases hp2 with h | h
          · exact .inr ⟨hq.trans h, h4⟩
          · exact .inl (hq.trans h)
  · rcases h4 with ⟨rfl, _, _⟩ | ⟨rfl, _⟩
    · exact fp3
    · exact From.none _ _
  · rcases h4 with ⟨_, rfl, _⟩ | ⟨_, rfl⟩
    · exact ft3
    · exact From.none _ _
set_option maxRecDepth 100000 in
set_option maxHeartbeats 8000000 in
theorem take_any (B g : Nat) (s : PA.S) (vp vt v : Value) (n : Nat) (xs : List Value) (b : Int) (w : World) (h : PB w B g s vp vt) (hk : s.ok) (hv : w.ownsRow B 24 7 v n xs) (hn : n ≤ 137438953472) (hpp : s.d.parts ≤ 1099511626000) (h0 : 0 ≤ b) (h1 : b < 256) (hB : 2 ≤ B) (ht : Tabs w) :
    Calls Tryd.prog 38 #[.pointer (some ⟨g, 0, none⟩), v, .int .u8 b] w (Took B g (PA.take s b).1 (PA.take s b).2 vp vt v n xs (fun x => x = .slice none 0 0) w) := by
  obtain ⟨i0, hi, hz0, hz1, hz2⟩ := info_parts info_ev
  obtain ⟨k0, k1, k2, k3, k4, k5, k6, k7, k8⟩ := h.box.nine
  have fr := h.box.frozen
  have hlt := h.lt
  have hBw : B ≤ w.heap.size := by have := h.low; omega
  have HB := hide h
  have HV := hide hv
  have HK := hide hk
  have HT := hide ht
  have CH := hide (held_any s.dec)
  have hbr : PA.brk s b = if b < 128 ∧ 0 < s.dec.need then (⟨s.st, U.z, s.d⟩, [PA.pr 65533]) else (s, []) := rfl
  have EB := hide hbr
  obtain ⟨x, hx⟩ : ∃ x : Bool, decide (b < 128 ∧ 0 < s.dec.need) = x := ⟨_, rfl⟩
  have HX := hide hx
  obtain ⟨r, hr⟩ : ∃ r, PA.take s b = r := ⟨_, rfl⟩
  rw [hr]
  have HR := hide hr
  clear h hv hk ht hbr hx hr k0 k4 k5 k6 k7 k8
  go_enter Tryd.func38, Tryd.ntmps38
  go_upto_region 1 with fail
  go_cut [17] (fun u wr => u = .bool x ∧ Below w.heap.size w wr)
  case first =>
    by_cases hb : b < 128
    · by_cases hh : 0 < s.dec.need
      · have E := hide (show decide (b < 128 ∧ 0 < s.dec.need) = true by simp [hb, hh])
        have hd : decide (0 < s.dec.need) = true := by simp [hh]
        rw [hd] at CH
        go_wp2_with fail
        refine (CH.out _).mono ?_
        rintro e w2 ⟨rfl, rfl⟩
        go_wp2_with fail
        go_meet
        exact ⟨by rw [← HX.out, E.out], (Below.refl _ _).alloc (Nat.le_refl _) _⟩
      · have E := hide (show decide (b < 128 ∧ 0 < s.dec.need) = false by simp [hh])
        have hd : decide (0 < s.dec.need) = false := by simp [hh]
        rw [hd] at CH
        go_wp2_with fail
        refine (CH.out _).mono ?_
        rintro e w2 ⟨rfl, rfl⟩
        go_wp2_with fail
        go_meet
        exact ⟨by rw [← HX.out, E.out], (Below.refl _ _).alloc (Nat.le_refl _) _⟩
    · have E := hide (show decide (b < 128 ∧ 0 < s.dec.need) = false by simp [hb])
      go_wp2_with fail
      go_meet
      exact ⟨by rw [← HX.out, E.out], Below.refl _ _⟩
  case rest =>
    obtain ⟨rfl, bb⟩ := hcut
    have hPc := HB.out.below bb
    have hvc := own_kept HV.out (Kept.of_below (L := []) bb) (by simp)
    obtain ⟨s1, hs1⟩ : ∃ s1, (PA.brk s b).1 = s1 := ⟨_, rfl⟩
    obtain ⟨e1, he1⟩ : ∃ e1, (PA.brk s b).2 = e1 := ⟨_, rfl⟩
    have HS1 := hide hs1
    have HE1 := hide he1
    clear CH k1 k2 k3 fr
    go_upto_if 17 with fail
    go_cut [1] (fun o wr => Broke B g s1 e1 vp vt v n xs w o wr)
    case first =>
      obtain ⟨j0, j1, j2, j3, j4, j5, j6, j7, j8⟩ := hPc.box.nine
      have fr := hPc.box.frozen
      have PC := hide (printed_any 65533)
      rcases x with _ | _
      case true =>
        have hh : b < 128 ∧ 0 < s.dec.need := by simpa using HX.out
        have E1 := HS1.out
        have E2 := HE1.out
        rw [EB.out, if_pos hh] at E1 E2
        have hbz := ((hPc.box.set 1 (.int .i64 0)).set 2 (.int .i64 0)).set 3 (.int .i64 0)
        have hP2 : PB (((wc.setCell ⟨g, 1, none⟩ (.int .i64 0)).setCell ⟨g, 2, none⟩ (.int .i64 0)).setCell ⟨g, 3, none⟩ (.int .i64 0)) B g s1 vp vt := by
          subst E1
          exact ⟨by simpa [pcells, U.z] using hbz, own_store (own_store (own_store hPc.par hPc.pne (p := ⟨g, 1, none⟩) _) hPc.pne (p := ⟨g, 2, none⟩) _) hPc.pne (p := ⟨g, 3, none⟩) _, own_store (own_store (own_store hPc.txt hPc.tne (p := ⟨g, 1, none⟩) _) hPc.tne (p := ⟨g, 2, none⟩) _) hPc.tne (p := ⟨g, 3, none⟩) _, hPc.low, hPc.pn, hPc.tn⟩
        have hv2 := own_store (own_store (own_store hvc (own_ne_box hvc hPc.box (by decide)) (p := ⟨g, 1, none⟩) (.int .i64 0)) (own_ne_box hvc hPc.box (by decide)) (p := ⟨g, 2, none⟩) (.int .i64 0)) (own_ne_box hvc hPc.box (by decide)) (p := ⟨g, 3, none⟩) (.int .i64 0)
        have hK2 : Kept [some g] w (((wc.setCell ⟨g, 1, none⟩ (.int .i64 0)).setCell ⟨g, 2, none⟩ (.int .i64 0)).setCell ⟨g, 3, none⟩ (.int .i64 0)) :=
          (((Kept.of_below bb).setCell (p := ⟨g, 1, none⟩) (From.mem (by simp)) _).setCell (p := ⟨g, 2, none⟩) (From.mem (by simp)) _).setCell (p := ⟨g, 3, none⟩) (From.mem (by simp)) _
        have HP2 := hide hP2
        have HV2 := hide hv2
        have HK2 := hide hK2
        have EE := hide E2
        clear E1 E2 hbz hP2 hv2 hK2 hPc hvc hh
        go_wp2_with fail
        refine (PC.out _).mono ?_
        rintro e w2 ⟨rfl, b2⟩
        have hv3 := own_kept HV2.out (Kept.of_below (L := []) b2) (by simp)
        have hsz2 := b2.size
        have hsz1 := HK2.out.size
        go_wp2_with (at_builtin; refine wpList_appS rfl (.tmp 22) (.tmp 24) 36 rfl B 24 i0 _ 7 56 Tryd.underlying36 hi hz0 hz1 hz2 zev_size (by omega) v n _ rfl hv3 _ _ _ rfl rfl rfl (by intro u hu; simp at hu; (repeat' (first | (rcases hu with rfl | hu) | subst hu)) <;> rfl) (by omega) (by omega) (by omega) ?_; intro v' w3 hown3 hg3 hm3)
        go_meet
        have hK3 : Kept [v.ownBlock] (((wc.setCell ⟨g, 1, none⟩ (.int .i64 0)).setCell ⟨g, 2, none⟩ (.int .i64 0)).setCell ⟨g, 3, none⟩ (.int .i64 0)) w3 := (Kept.of_below b2).grown hg3 (From.mem (by simp))
        obtain ⟨a, b', d⟩ := own_not_parser HP2.out HV2.out
        refine ⟨[(PA.pr 65533, .slice none 0 0)], EE.out, HP2.out.kept hK3 a b' d, ?_, by simp, fun p hp => ?_, (HK2.out.more (by simp)).trans hK3 ?_, (From.moved hm3).later (by omega)⟩
        · rw [mcells_one, ← ecells_pr]
          exact hown3
        · simp only [List.mem_singleton] at hp
          subst hp
          exact World.ownsRow_nil _ _ _ _
        · intro x hx
          simp only [List.mem_singleton] at hx
          subst hx
          exact From.mem (by simp)
      case false =>
        have hh : ¬ (b < 128 ∧ 0 < s.dec.need) := by simpa using HX.out
        have E1 := HS1.out
        have E2 := HE1.out
        rw [EB.out, if_neg hh] at E1 E2
        have HP := hide hPc
        have HVC := hide hvc
        have EA := hide E1
        have EE := hide E2
        clear E1 E2 hPc hvc hh
        go_wp2_with fail
        go_meet
        refine ⟨[], EE.out, ?_, by simpa [mcells] using HVC.out, by simp, OwnM.nil _ _, Kept.of_below bb, From.mem (by simp)⟩
        rw [← EA.out]
        exact HP.out
    case rest =>
      clear hPc hvc
      obtain ⟨M, hM, hP, hown, hnil, hOM, hKa, hF⟩ := hcut
      have ok1 : s1.ok := by rw [← hs1]; exact PA.brk_ok HK.out b
      have hpp1 : s1.d.parts ≤ 1099511626000 := by
        have := PA.brk_parts s b
        rw [hs1] at this
        rw [this]
        exact hpp
      have htk : PA.take s b = (PA.clr (PA.doo (PA.mid s1 b).2 (PA.mid s1 b).1 b).1, e1 ++ (PA.doo (PA.mid s1 b).2 (PA.mid s1 b).1 b).2) := by
        rw [← hs1, ← he1]
        rfl
      have hMlen : M.length ≤ 1 := by
        have := PA.brk_len s b
        rw [he1, ← hM] at this
        simpa using this
      have hL : ∀ q, some q ∈ [some g, v.ownBlock] → 2 ≤ q := fun q hq => by
        simp only [List.mem_cons, List.not_mem_nil, or_false, Option.some.injEq] at hq
        rcases hq with rfl | hq
        · have := HB.out.low; omega
        · have := (HV.out.lt q hq.symm).1; omega
      have HTc := hide (HT.out.kept hKa hL)
      have stb := ok1.st
      have nb := PA.nxt_bd s1.st b stb.1 stb.2 h0 h1
      have MV := hide (fun w' t => moveOf_any s1.st b w' stb.1 stb.2 h0 h1 t)
      have MV2 := hide (fun w' t => moveOf_any (PA.nxt s1.st b) b w' nb.1 nb.2 h0 h1 t)
      have mok := PA.mid_ok ok1 h0 h1
      have mpp := PA.mid_parts s1 b
      have hmid : PA.mid s1 b = if PA.act s1.st b = 192 then (PA.act (PA.nxt s1.st b) b, ⟨PA.nxt (PA.nxt s1.st b) b, s1.dec, PA.d0⟩) else (PA.act s1.st b, ⟨PA.nxt s1.st b, s1.dec, s1.d⟩) := rfl
      have mdec : (PA.mid s1 b).2.dec = s1.dec := by rw [hmid]; split <;> rfl
      generalize PA.mid s1 b = m at *
      obtain ⟨a2, ⟨n2, c2, d2⟩⟩ := m
      simp only [] at mok mpp mdec hmid
      subst mdec
      have HMID := hide hmid
      have HPc := hide hP
      have HOWN := hide hown
      have HOM := hide hOM
      have HKA := hide hKa
      have HMM := hide hM
      have HNIL := hide hnil
      have HMOK := hide mok
      have j0 := hP.box.nine.1
      have EX := hide htk
      generalize PA.act (PA.nxt s1.st b) b = a3 at MV2 HMID
      generalize PA.nxt (PA.nxt s1.st b) b = n3 at MV2 HMID
      generalize PA.act s1.st b = a1 at MV HMID
      generalize PA.nxt s1.st b = n1 at MV MV2 HMID nb
      clear hmid hP hown hOM hKa hM hnil mok htk hs1 he1 HS1 HE1 EB HX bb hL
      go_wp2_with fail
      refine (MV.out _ HTc.out).mono ?_
      rintro e w2 ⟨rfl, b2⟩
      have HP2 := hide (HPc.out.below b2)
      have HTw := hide (HTc.out.keep b2)
      go_upto_if 36 with fail
      go_cut [7, 8] (fun u7 u8 wr => Midst B g s1 d2 a2 n2 vp vt w2 u7 u8 wr)
      case first =>
        obtain ⟨j0, j1, j2, j3, j4, j5, j6, j7, j8⟩ := HP2.out.box.nine
        have fr := HP2.out.box.frozen
        have EMID := HMID.out
        by_cases ha : a1 = 192
        · rw [if_pos ha] at EMID
          subst ha
          have HEM := hide EMID
          have HZ := hide (HTw.out.kept (zeroed_kept w2 g) (fun q hq => by simp only [List.mem_singleton, Option.some.injEq] at hq; subst hq; have := HB.out.low; omega))
          clear EMID
          go_wp2_with fail
          refine (MV2.out _ HZ.out).mono ?_
          rintro e w3 ⟨rfl, b3⟩
          go_wp2_with fail
          go_meet
          have := HEM.out
          simp only [Prod.mk.injEq, PA.S.mk.injEq, true_and] at this
          obtain ⟨rfl, rfl, rfl⟩ := this
          exact ⟨rfl, rfl, _, _, (zeroed_pb HP2.out).below b3, (zeroed_kept w2 g).below b3, .inr rfl, .inr rfl⟩
        · rw [if_neg ha] at EMID
          have ha' : (a1 == 192) = false := by simpa using ha
          have HEM := hide EMID
          clear EMID ha
          go_wp2_with fail
          go_meet
          have := HEM.out
          simp only [Prod.mk.injEq, PA.S.mk.injEq, true_and] at this
          obtain ⟨rfl, rfl, rfl⟩ := this
          exact ⟨rfl, rfl, _, _, HP2.out, Kept.refl _ _, .inl rfl, .inl rfl⟩
      case rest =>
        clear j0
        obtain ⟨rfl, rfl, vp2, vt2, hP2, hK2, hvp, hvt⟩ := hcut
        obtain ⟨ok2, isa, dig, csi⟩ := HMOK.out
        have hPs : PB (wc.setCell ⟨g, 0, none⟩ (.int .u8 n2)) B g ⟨n2, s1.dec, d2⟩ vp2 vt2 := hP2.store 0 _ (by simp [pcells]) hP2.par hP2.txt hP2.pn hP2.tn
        have hKs : Kept [some g] w2 (wc.setCell ⟨g, 0, none⟩ (.int .u8 n2)) := hK2.setCell (p := ⟨g, 0, none⟩) (From.mem (by simp)) _
        have hOw2 := own_kept HOWN.out (Kept.of_below (L := []) b2) (by simp)
        have hOws := own_kept hOw2 hKs (fun q hq => notin1 (own_ne_box hOw2 HP2.out.box (by decide)) hq)
        have hOMs : OwnM (wc.setCell ⟨g, 0, none⟩ (.int .u8 n2)) B M := (HOM.out.kept (Kept.of_below (L := []) b2) (by simp)).kept hKs (fun p hp q hq => by rw [HNIL.out p hp] at hq; simp [Value.ownBlock] at hq)
        have hKas : Kept [some g, v.ownBlock] w (wc.setCell ⟨g, 0, none⟩ (.int .u8 n2)) := (HKA.out.below b2).trans hKs (by
          intro q hq
          simp only [List.mem_singleton] at hq
          subst hq
          exact From.mem (by simp))
        have DO := hide (do_any B g ⟨n2, s1.dec, d2⟩ vp2 vt2 u1 (n + M.length) (xs ++ mcells M) a2 b _ hPs ok2 hOws (by omega) (by simp only []; omega) h0 h1 isa dig)
        have j0 := hP2.box.nine.1
        have fr := hP2.box.frozen
        have HPs := hide hPs
        have HOMs := hide hOMs
        have HKas := hide hKas
        have HC := hide csi
        clear hPs hKs hOw2 hOws hOMs hKas hP2 hK2 ok2 isa dig csi HMID HMOK MV MV2
        obtain ⟨s3, hs3⟩ : ∃ s3, PA.doo ⟨n2, s1.dec, d2⟩ a2 b = s3 := ⟨_, rfl⟩
        rw [hs3] at DO
        have HS3 := hide hs3
        have ES := EX
        clear hs3 EX
        obtain ⟨s3, e3⟩ := s3
        go_wp2_with fail
        refine DO.out.mono ?_
        rintro e w5 ⟨v', vp3, vt3, M', rfl, hM', hP5, hown5, hOM5, hQ5, hK5, f1, f2, f3⟩
        have q0 := hP5.box.nine.1
        have q4 := hP5.box.nine.2.2.2.2.1
        have q5 := hP5.box.nine.2.2.2.2.2.1
        have q6 := hP5.box.nine.2.2.2.2.2.2.1
        have q7 := hP5.box.nine.2.2.2.2.2.2.2.1
        have q8 := hP5.box.nine.2.2.2.2.2.2.2.2
        have qf := hP5.box.frozen
        have e := HR.out.symm.trans ES.out
        rw [HS3.out] at e
        simp only [] at e
        have E := hide e
        have TB := hide (fun (w6 : World) (s4 : PA.S) (vp4 vt4 : Value) (k : Kept [some g] w5 w6) (p : PB w6 B g s4 vp4 vt4) (h4 : (vp4 = vp3 ∧ vt4 = vt3 ∧ a2 ≠ 160) ∨ (vp4 = .slice none 0 0 ∧ vt4 = .slice none 0 0)) =>
          took_both HMM.out HNIL.out HOMs.out HKas.out hF hvp hvt hM' hown5 hOM5 hQ5 hK5 f1 f2 f3 hP5 k p h4)
        have HP5 := hide hP5
        have HV5 := hide (own_form' hown5)
        clear e hM' hown5 hOM5 hQ5 hK5 f1 f2 f3 hP5 j0 fr hvp hvt HMM HNIL HOMs HKas HPs HPc HOWN HOM HKA HTc HP2 HTw DO
        have cs : s3.st = 1 ∨ s3.st = 2 ∨ s3.st = 4 ∨ s3.st = 8 ∨ s3.st = 11 ∨ (PA.lets s3.st = false ∧ (s3.st == 1) = false ∧ (s3.st == 2) = false ∧ (s3.st == 4) = false ∧ (s3.st == 8) = false ∧ (s3.st == 11) = false) := by
          simp [PA.lets]
          omega
        rcases cs with hst | hst | hst | hst | hst | hst
        case inr.inr.inr.inr.inr =>
          obtain ⟨hl, t1, t2, t4, t8, t11⟩ := hst
          have HL := hide hl
          clear hl q4 q5 q6 q7 q8 qf
          go_wp2_with fail
          go_ret
          rw [E.out]
          have hclr : PA.clr s3 = s3 := by unfold PA.clr; rw [HL.out]; rfl
          rw [hclr]
          refine TB.out _ _ _ _ (Kept.refl _ _) HP5.out (.inl ⟨rfl, rfl, fun ha => ?_⟩)
          have h1 : n2 = 1 := HC.out ha
          have h3 := HS3.out
          rw [ha, h1] at h3
          have h5 : s3 = ⟨1, s1.dec, d2⟩ := (congrArg Prod.fst h3).symm
          rw [h5] at t1
          simp at t1
        all_goals
          have hl : PA.lets s3.st = true := by simp [PA.lets, hst]
          rw [hst] at q0
          have HL := hide hl
          have HST := hide hst
          clear hl hst
          go_wp2_with fail
          go_ret
          rw [E.out]
          have hclr : PA.clr s3 = ⟨s3.st, s3.dec, PA.d0⟩ := by unfold PA.clr; rw [HL.out]; rfl
          rw [hclr]
          exact TB.out (zeroed w5 g) _ _ _ (zeroed_kept _ _) (zeroed_pb HP5.out) (.inr ⟨rfl, rfl⟩)
end Go.Proofs.YtnnjppgmadmmaaaDoor
