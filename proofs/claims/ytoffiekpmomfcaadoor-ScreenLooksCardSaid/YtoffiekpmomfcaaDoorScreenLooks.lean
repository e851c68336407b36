/- ScreenLooks: what the user can see of a screen, and what is the same. (written by tools/genscreenlooks.py) -/
import Derived.Test.YtoffiekpmomfcaaDoorScreenRuns
import Derived.Test.YtoffiekpmomfcaaDoorScreenEq
import Derived.Test.YtoffiekpmomfcaaDoorScreenVal
import Derived.Test.YtoffiekpmomfcaaDoorKept
import Derived.Test.YtoffiekpmomfcaaDoorPenEq
import Derived.Test.YtoffiekpmomfcaaDoorGridUse
import Derived.Deep.DeepCutAuto
import Derived.Deep.CutBlock
import Derived.StillTailTactics
set_option maxRecDepth 100000
namespace Go.Proofs.YtoffiekpmomfcaaDoor
open Go.RowKit
set_option linter.unusedVariables false
/-- a screen whose letters lie in a row of a call's own -/
def OwnSc (B : Nat) (S : SN.Sc) (v : Value) (w : World) : Prop := ∃ A c, v = .agg (scA (.slice A (S.g.rows * S.g.cols) c) S) ∧ w.ownsRow B 50 5 (.slice A (S.g.rows * S.g.cols) c) (S.g.rows * S.g.cols) (ccells (PG.cells S.g))
theorem OwnSc.stays {Ts : List TypeId} {B : Nat} {S : SN.Sc} (h : Ts.all (fun x => x != 50) = true) : StaysG Ts (OwnSc B S) :=
  ⟨fun v w w' ⟨A, c, h1, h2⟩ hb => ⟨A, c, h1, own_low h2 hb⟩, fun v w w' g' T' cs' ⟨A, c, h1, h2⟩ hb hT hk => ⟨A, c, h1, own_kept h2 hk (fun b hb' hm => own_ne_box h2 hb (fun e => by
    have := List.all_eq_true.1 h _ hT
    simp [e] at this) (by simp at hm; rw [hb', hm]))⟩⟩
theorem ccells_flag : ∀ (l : List PG.Cl) (i : Nat) (cl : PG.Cl) (f : Int), l[i]? = some cl → (ccells l).set (i * 5 + 4) (.int .i64 f) = ccells (l.set i (PG.rn cl, PG.kd cl, ((PG.pn cl).1, (PG.pn cl).2.1, f)))
  | [], _, _, _, h => by simp at h
  | d :: l, 0, cl, f, h => by
    simp at h
    subst h
    rw [ccells_cons, List.set_cons_zero, ccells_cons]
    rfl
  | d :: l, i + 1, cl, f, h => by
    have h' : l[i]? = some cl := by simpa using h
    rw [ccells_cons, List.set_cons_succ, ccells_cons, ← ccells_flag l i cl f h']
    have e : (i + 1) * 5 + 4 = (c5 d).length + (i * 5 + 4) := by
      show _ = 5 + _
      omega
    rw [e, List.set_append_right _ _ (Nat.le_add_right _ _)]
    simp
/-- one letter's flags in a row of the call's own: read, written -/
theorem own_flag {w : World} {n c i : Nat} {A : Option Addr} {l : List PG.Cl} {cl : PG.Cl} (h : w.ownsRow 0 50 5 (.slice A n c) n (ccells l)) (hl : l[i]? = some cl) :
    ∃ g, A = some ⟨g, 0, none⟩ ∧ n ≤ c ∧ i < n ∧ g < w.heap.size ∧ w.cell? ⟨g, i * 5 + 4, none⟩ = some (.int .i64 (PG.pn cl).2.2) ∧ w.frozen? ⟨g, i * 5 + 4, none⟩ = false ∧
      ∀ f : Int, (w.setCell ⟨g, i * 5 + 4, none⟩ (.int .i64 f)).ownsRow 0 50 5 (.slice A n c) n (ccells (l.set i (PG.rn cl, PG.kd cl, ((PG.pn cl).1, (PG.pn cl).2.1, f)))) := by
  have hlen := h.1
  have hil : i < l.length := (List.getElem?_eq_some_iff.1 hl).1
  have hcl := ccells_len l
  have hin : i < n := by omega
  rcases h.2 with ⟨_, h0⟩ | ⟨g, cap, cur, e, _, hw, hc, hm, hs, ht⟩
  · omega
  · cases e
    have hb : Box w g 50 cur := hw
    have hat : (ccells l)[i * 5 + 4]? = some (.int .i64 (PG.pn cl).2.2) := ccells_at l i 4 cl _ hl rfl
    have hcur : cur[i * 5 + 4]? = some (.int .i64 (PG.pn cl).2.2) := by
      rw [← ht, List.getElem?_take, if_pos (by omega)] at hat
      simpa using hat
    refine ⟨g, rfl, hc, hin, hb.lt, (hb.cell _).trans hcur, hb.frozen _, fun f => ⟨?_, .inr ⟨g, c, cur.setIfInBounds (i * 5 + 4) (.int .i64 f), rfl, Nat.zero_le _, hb.set _ _, hc, hm, by simpa using hs, ?_⟩⟩⟩
    · rw [ccells_len, List.length_set, ← ccells_len]
      exact hlen
    · rw [Array.toList_setIfInBounds, List.take_set, ht, ccells_flag l i cl f hl]
theorem isg_row {w : World} {G : PG.Gr} {s : Value} (h : IsG w G (gv G.rows G.cols s)) : w.ownsRow 0 50 5 s (G.rows * G.cols) (ccells (PG.cells G)) := by
  obtain ⟨s', e, h'⟩ := h
  simp only [gv, Value.agg.injEq] at e
  injection e with e
  simp only [List.cons.injEq] at e
  rw [e.2.2.1]
  exact h'
theorem cell_flag {G : PG.Gr} {i : Nat} {cl : PG.Cl} (hG : PG.RightG G) (h : (PG.cells G)[i]? = some cl) : 0 ≤ (PG.pn cl).2.2 ∧ (PG.pn cl).2.2 ≤ 255 := by
  have hi : i < G.rows * G.cols := by
    have := (List.getElem?_eq_some_iff.1 h).1
    rwa [PG.cells_len] at this
  have hc : 0 < G.cols := hG.2.2.1
  obtain rfl : G.f (i / G.cols) (i % G.cols) = cl := by
    have : (PG.cells G)[i]? = some (G.f (i / G.cols) (i % G.cols)) := by simp [PG.cells, List.getElem?_range hi]
    exact Option.some.inj (this.symm.trans h)
  have hr : i / G.cols < G.rows := (Nat.div_lt_iff_lt_mul hc).2 hi
  exact (C.right_iff.1 ((hG.2.2.2.2 _ hr _ (Nat.mod_lt _ hc)).1)).2.2
theorem xor_256 : ∀ n : Fin 256, bits .xor .i64 ((n.val : Nat) : Int) 1 ≠ ((n.val : Nat) : Int) := by decide +kernel
theorem xor_ne {f : Int} (h : 0 ≤ f ∧ f ≤ 255) : bits .xor .i64 f 1 ≠ f := by
  obtain ⟨n, rfl⟩ : ∃ n : Nat, f = n := ⟨f.toNat, by omega⟩
  exact xor_256 ⟨n, by omega⟩
theorem not_alike {G : PG.Gr} {i : Nat} {cl : PG.Cl} {f : Int} (h : (PG.cells G)[i]? = some cl) (hf : f ≠ (PG.pn cl).2.2) : ¬ PG.Alike G (PG.ofL G.rows G.cols ((PG.cells G).set i (PG.rn cl, PG.kd cl, ((PG.pn cl).1, (PG.pn cl).2.1, f)))) := fun ha => by
  have e := PG.cells_ext ha
  rw [PG.ofL_cells (by rw [List.length_set, PG.cells_len])] at e
  have hi := (List.getElem?_eq_some_iff.1 h).1
  have h2 : ((PG.cells G).set i (PG.rn cl, PG.kd cl, ((PG.pn cl).1, (PG.pn cl).2.1, f)))[i]? = some (PG.rn cl, PG.kd cl, ((PG.pn cl).1, (PG.pn cl).2.1, f)) := by
    rw [List.getElem?_set_self hi]
  rw [← e, h] at h2
  have h3 := Option.some.inj h2
  exact hf (by rw [h3]; rfl)
theorem looks_keys (S : SN.Sc) : (true && (SN.raw S).looks (SN.raw (S.u18 (!S.keys)))) = true := by simp [SN.Rw.looks, SN.raw, SN.Sc.u18]
theorem same_keys (S : SN.Sc) : (true && (SN.raw S).same (SN.raw (S.u18 (!S.keys)))) = false := by cases h : S.keys <;> simp [SN.Rw.same, SN.raw, SN.Sc.u18, h]
theorem looks_shown (S : SN.Sc) : (true && (SN.raw S).looks (SN.raw (S.u17 (!S.shown)))) = false := by cases h : S.shown <;> simp [SN.Rw.looks, SN.raw, SN.Sc.u17, h]
theorem same_shown (S : SN.Sc) : (true && (SN.raw S).same (SN.raw (S.u17 (!S.shown)))) = false := by cases h : S.shown <;> simp [SN.Rw.same, SN.raw, SN.Sc.u17, h]
/-- a store of a whole screen, wherever it comes up -/
theorem exec_store_any {w : World} {g T : Nat} {cs ds : Array Value} (h : Box w g T cs) (hs : cs.size = 29) (hd : ds.size = 29) (h1 : ds.all (·.oneCell') = true) (ρ : Operand → Value) (o : Oper) {y z : Operand} (ho : o.op = .store 32 y z) (hy : ρ y = .pointer (some ⟨g, 0, none⟩)) (hz : ρ z = .agg ds) :
    (execOp ρ o).run Tryd.prog w = .ok .skip (setL w g 0 ds.toList) := by
  unfold execOp
  simp only [ho, hy, hz, Instr.storeAt, Instr.sureAddr, Sem.run_bind, Sem.run_pure, Result.andThen_ok, run_storeVar_mid w g 0 32 ds (h.there (hs.trans hd.symm)) (by rw [size_screen, hd]) h1]
  rw [setCells_setL]
set_option maxHeartbeats 16000000 in
theorem screenLooks_t (kcs : Array Value) (at1 : Int) (i : Nat) (S : SN.Sc) (w : World) (hk13 : kcs.size = 13) (hS : SN.RightS S) (hR5 : S.g.rows ≤ 5) (hK9 : S.g.cols ≤ 9) (hsp : Spans w) (hi : i < S.g.rows * S.g.cols)
    (KS : Hid (∀ w', Below w.heap.size w w' → Calls Tryd.prog 11 #[.agg kcs] w' (GotS w' S)))
    (WI : Hid (∀ w', Calls Tryd.prog 12 #[.int .i64 at1, .int .i64 0, .int .i64 (((S.g.rows * S.g.cols : Nat) : Int) - 1)] w' fun e w'' => e = .returned (.int .i64 (i : Nat)) ∧ w' = w'')) :
    Calls Tryd.prog 5 #[.agg kcs, .int .i64 at1] w fun e w' => e = .returned (.bool true) ∧ Below w.heap.size w w' := by
  have RS := hide hS
  have hN : S.g.rows * S.g.cols ≤ 45 := Nat.mul_le_mul hR5 hK9
  have HSP := hide hsp
  have SLT := hide hsp.lt
  have LO0 := hide (Below.refl w.heap.size w)
  clear hsp
  go_enter Tryd.func5, Tryd.ntmps5
  go_wp2_with (first | (refine wpList_box_ks hk13 rfl _ rfl rfl ?_; intro gk wk hKB hbk hlk) | (refine wpList_load_ks hKB rfl _ rfl rfl ?_))
  have LO1 := hide (LO0.out.trans (hbk.mono LO0.out.size))
  clear LO0 hbk
  refine (KS.out _ LO1.out).mono ?_
  rintro e wb1 ⟨v1, rfl, ⟨x1, rfl, hg1⟩, hb1⟩
  have LO2 := hide (LO1.out.trans (hb1.mono LO1.out.size))
  clear LO1 hb1
  obtain ⟨A1, c1, rfl⟩ := gv_slice hg1
  have HGs1 := hide hg1
  clear hg1
  go_upto_region 2 with (first | (refine wpList_alloc_scr rfl rfl ?_; intro gs wags csgs hBgs hzgs hbgs hlgs) | (refine wpList_store_scr hBgs hzgs rfl _ _ rfl rfl rfl rfl ?_; intro wsgs hSgs hkgs hqgs))
  have le_gs : w.heap.size ≤ gs := by have := LO2.out.size; omega
  have HGs2 := hide (HGs1.out.low hbgs)
  have LO3 := hide (LO2.out.trans (hbgs.mono LO2.out.size))
  clear HGs1 LO2 hbgs
  have HGs3 := hide (HGs2.out.kept hBgs (by decide) hkgs)
  have LO4 := hide (LO3.out.trans (hkgs.toBelow LO3.out.size (fun k hh => by simp at hh; omega)))
  clear HGs2 LO3
  have HSs1 := hide hSgs
  clear hSgs hkgs hBgs hlgs
  go_simp
  go_cut [6, 7, 8] from 6 to 15 (fun u6 u7 u8 wx => ∃ gt gu gw A3 c3, u6 = .pointer (some ⟨gt, 0, none⟩) ∧ u7 = .pointer (some ⟨gu, 0, none⟩) ∧ u8 = .pointer (some ⟨gw, 0, none⟩) ∧ (wsgs.heap.size ≤ gt ∧ wsgs.heap.size ≤ gu ∧ wsgs.heap.size ≤ gw ∧ gt ≠ gu ∧ gt ≠ gw ∧ gu ≠ gw) ∧ SBox wx gt (.slice A1 (S.g.rows * S.g.cols) c1) S ∧ SBox wx gu (.slice A1 (S.g.rows * S.g.cols) c1) S ∧ SBox wx gw (.slice A3 (S.g.rows * S.g.cols) c3) S ∧ wx.ownsRow wsgs.heap.size 50 5 (.slice A3 (S.g.rows * S.g.cols) c3) (S.g.rows * S.g.cols) (ccells (PG.cells S.g)) ∧ Below wsgs.heap.size wsgs wx)
  case first =>
    refine wp_region_gj (n := 96) [] (fun _ => #[]) [(0, 0, 0, 0, 0), (0, 0, 0, 0, 0), (0, 0, 0, 0, 0), (1, 0, 0, 0, 0), (2, 0, 0, 32, 29), (2, 0, 0, 32, 29), (2, 0, 0, 32, 29), (3, 4, 0, 32, 29), (3, 5, 1, 32, 29), (3, 6, 3, 32, 29)] (fun j => [(.agg (scA (.slice A1 (S.g.rows * S.g.cols) c1) S)), (.agg (scA (.slice A1 (S.g.rows * S.g.cols) c1) S)), (.agg (scA (.slice A1 (S.g.rows * S.g.cols) c1) S)), undef, undef, undef, undef, undef, undef, undef].getD j undef) [none, none, none, some (OwnSc wsgs.heap.size S)] (fun _ => 0) (by kernel_rfl) (by kernel_rfl) (by kernel_rfl) rfl (by kernel_rfl) (gno4 rfl) (fun i j h => by revert h; exact gno4 (p := fun _ => _) rfl i) (AllG.none_ (AllG.none_ (AllG.none_ (AllG.some_ (OwnSc.stays (by kernel_rfl)) (AllG.nil _))))) (fun hGS => cases10 ⟨?_, ?_, ?_, ?_, ?_, ?_, ?_, ?_, ?_, ?_⟩) ?_
    · intro L a w' hL hsame hsz hJ hdep hcl
      have hb := hJ.kept.toBelow (Nat.le_refl _) (by simp)
      have e0 : a.eval (.tmp 5) = (.pointer (some ⟨gs, 0, none⟩)) := eval_base hsame (by kernel_rfl)
      have hx := hJ.keptBox ((show Box _ gs 32 (scA (.slice A1 (S.g.rows * S.g.cols) c1) S) from HSs1.out)) (by simp)
      exact Step.val _ rfl rfl (wanted_none rfl) (.agg (scA (.slice A1 (S.g.rows * S.g.cols) c1) S)) w' (fun ρ hρ => exec_load_any hx rfl ρ _ rfl ((hρ _).symm.trans e0)) (hJ.val hGS hcl hL rfl (Below.refl _ _) _ rfl)
    · intro L a w' hL hsame hsz hJ hdep hcl
      have hb := hJ.kept.toBelow (Nat.le_refl _) (by simp)
      have e0 : a.eval (.tmp 5) = (.pointer (some ⟨gs, 0, none⟩)) := eval_base hsame (by kernel_rfl)
      have hx := hJ.keptBox ((show Box _ gs 32 (scA (.slice A1 (S.g.rows * S.g.cols) c1) S) from HSs1.out)) (by simp)
      exact Step.val _ rfl rfl (wanted_none rfl) (.agg (scA (.slice A1 (S.g.rows * S.g.cols) c1) S)) w' (fun ρ hρ => exec_load_any hx rfl ρ _ rfl ((hρ _).symm.trans e0)) (hJ.val hGS hcl hL rfl (Below.refl _ _) _ rfl)
    · intro L a w' hL hsame hsz hJ hdep hcl
      have hb := hJ.kept.toBelow (Nat.le_refl _) (by simp)
      have e0 : a.eval (.tmp 5) = (.pointer (some ⟨gs, 0, none⟩)) := eval_base hsame (by kernel_rfl)
      have hx := hJ.keptBox ((show Box _ gs 32 (scA (.slice A1 (S.g.rows * S.g.cols) c1) S) from HSs1.out)) (by simp)
      exact Step.val _ rfl rfl (wanted_none rfl) (.agg (scA (.slice A1 (S.g.rows * S.g.cols) c1) S)) w' (fun ρ hρ => exec_load_any hx rfl ρ _ rfl ((hρ _).symm.trans e0)) (hJ.val hGS hcl hL rfl (Below.refl _ _) _ rfl)
    · intro L a w' hL hsame hsz hJ hdep hcl
      have hb := hJ.kept.toBelow (Nat.le_refl _) (by simp)
      have e0 : a.eval (.tmp 14) = (.agg (scA (.slice A1 (S.g.rows * S.g.cols) c1) S)) := eval_slot (j := 2) (by kernel_rfl) (hJ.valOf (by decide) (dep_of hdep 2 (by kernel_rfl)) rfl rfl)
      refine Step.call _ rfl rfl (wanted_none rfl) 17 #[.agg (scA (.slice A1 (S.g.rows * S.g.cols) c1) S)] (fun ρ hρ => ?_) ?_
      · skip
        rw [hρ] at e0
        have ef : ρ (.func 17) = .func (.func 17) #[] #[] := (hρ _).symm
        clear hJ hsame hdep hcl hρ hsz hb
        go_simp
      · refine (scopy_is S _ RS.out _ ⟨_, rfl, (HGs3.out.low hb)⟩).mono ?_
        rintro e w2 ⟨x, rfl, ho, bb⟩
        obtain ⟨A, c, rfl, _⟩ := own_form' ho
        exact ⟨_, rfl, hJ.pred hGS hcl hL rfl bb _ ⟨A, c, rfl, own_base' ho hb.size⟩⟩
    · intro L a w' hL hsame hsz hJ hdep hcl
      have hb := hJ.kept.toBelow (Nat.le_refl _) (by simp)
      refine Step.val _ rfl rfl (wanted_none rfl) (.pointer (some ⟨w'.heap.size, 0, none⟩)) (w'.alloc (.cells #[.int .i64 0, .int .i64 0, .slice none 0 0, .int .i64 0, .int .i64 0, .bool false, .int .i64 0, .int .i64 0, .int .i64 0, .int .i64 0, .int .i64 0, .int .u64 0, .int .u8 0, .int .u8 0, .int .i64 0, .bool false, .bool false, .bool false, .bool false, .bool false, .int .i64 0, .int .i64 0, .int .i64 0, .int .i64 0, .int .i64 0, .int .u8 0, .int .u8 0, .int .i64 0, .bool false] 32)) (fun ρ hρ => ?_) (hJ.box hGS hcl hL rfl 32 rfl #[.int .i64 0, .int .i64 0, .slice none 0 0, .int .i64 0, .int .i64 0, .bool false, .int .i64 0, .int .i64 0, .int .i64 0, .int .i64 0, .int .i64 0, .int .u64 0, .int .u8 0, .int .u8 0, .int .i64 0, .bool false, .bool false, .bool false, .bool false, .bool false, .int .i64 0, .int .i64 0, .int .i64 0, .int .i64 0, .int .i64 0, .int .u8 0, .int .u8 0, .int .i64 0, .bool false] rfl)
      clear hJ hsame hdep hcl hρ hsz hb
      go_simp
    · intro L a w' hL hsame hsz hJ hdep hcl
      have hb := hJ.kept.toBelow (Nat.le_refl _) (by simp)
      refine Step.val _ rfl rfl (wanted_none rfl) (.pointer (some ⟨w'.heap.size, 0, none⟩)) (w'.alloc (.cells #[.int .i64 0, .int .i64 0, .slice none 0 0, .int .i64 0, .int .i64 0, .bool false, .int .i64 0, .int .i64 0, .int .i64 0, .int .i64 0, .int .i64 0, .int .u64 0, .int .u8 0, .int .u8 0, .int .i64 0, .bool false, .bool false, .bool false, .bool false, .bool false, .int .i64 0, .int .i64 0, .int .i64 0, .int .i64 0, .int .i64 0, .int .u8 0, .int .u8 0, .int .i64 0, .bool false] 32)) (fun ρ hρ => ?_) (hJ.box hGS hcl hL rfl 32 rfl #[.int .i64 0, .int .i64 0, .slice none 0 0, .int .i64 0, .int .i64 0, .bool false, .int .i64 0, .int .i64 0, .int .i64 0, .int .i64 0, .int .i64 0, .int .u64 0, .int .u8 0, .int .u8 0, .int .i64 0, .bool false, .bool false, .bool false, .bool false, .bool false, .int .i64 0, .int .i64 0, .int .i64 0, .int .i64 0, .int .i64 0, .int .u8 0, .int .u8 0, .int .i64 0, .bool false] rfl)
      clear hJ hsame hdep hcl hρ hsz hb
      go_simp
    · intro L a w' hL hsame hsz hJ hdep hcl
      have hb := hJ.kept.toBelow (Nat.le_refl _) (by simp)
      refine Step.val _ rfl rfl (wanted_none rfl) (.pointer (some ⟨w'.heap.size, 0, none⟩)) (w'.alloc (.cells #[.int .i64 0, .int .i64 0, .slice none 0 0, .int .i64 0, .int .i64 0, .bool false, .int .i64 0, .int .i64 0, .int .i64 0, .int .i64 0, .int .i64 0, .int .u64 0, .int .u8 0, .int .u8 0, .int .i64 0, .bool false, .bool false, .bool false, .bool false, .bool false, .int .i64 0, .int .i64 0, .int .i64 0, .int .i64 0, .int .i64 0, .int .u8 0, .int .u8 0, .int .i64 0, .bool false] 32)) (fun ρ hρ => ?_) (hJ.box hGS hcl hL rfl 32 rfl #[.int .i64 0, .int .i64 0, .slice none 0 0, .int .i64 0, .int .i64 0, .bool false, .int .i64 0, .int .i64 0, .int .i64 0, .int .i64 0, .int .i64 0, .int .u64 0, .int .u8 0, .int .u8 0, .int .i64 0, .bool false, .bool false, .bool false, .bool false, .bool false, .int .i64 0, .int .i64 0, .int .i64 0, .int .i64 0, .int .i64 0, .int .u8 0, .int .u8 0, .int .i64 0, .bool false] rfl)
      clear hJ hsame hdep hcl hρ hsz hb
      go_simp
    · intro L a w' hL hsame hsz hJ hdep hcl
      have hb := hJ.kept.toBelow (Nat.le_refl _) (by simp)
      have hsv := hJ.valOf (j := 0) (by decide) (dep_of hdep 0 (by kernel_rfl)) rfl rfl
      have es : a.eval (.tmp 12) = (.agg (scA (.slice A1 (S.g.rows * S.g.cols) c1) S)) := eval_slot (j := 0) (by kernel_rfl) hsv
      have la := dep_of hdep 4 (by kernel_rfl)
      obtain ⟨g, cs, hg, hg0, hx, hs⟩ := hJ.boxOf (j := 4) (by decide) la rfl
      have ea : a.eval (.tmp 6) = .pointer (some ⟨g, 0, none⟩) := eval_slot (j := 4) (by kernel_rfl) hg
      exact Step.skip _ rfl (wanted_none rfl) _ (fun ρ hρ => exec_store_any hx hs rfl (scA_one rfl _) ρ _ rfl ((hρ _).symm.trans ea) ((hρ _).symm.trans es)) (hJ.put hGS hcl hL rfl la (dep_of hdep 0 (by kernel_rfl)) hg rfl hsv)
    · intro L a w' hL hsame hsz hJ hdep hcl
      have hb := hJ.kept.toBelow (Nat.le_refl _) (by simp)
      have hsv := hJ.valOf (j := 1) (by decide) (dep_of hdep 1 (by kernel_rfl)) rfl rfl
      have es : a.eval (.tmp 13) = (.agg (scA (.slice A1 (S.g.rows * S.g.cols) c1) S)) := eval_slot (j := 1) (by kernel_rfl) hsv
      have la := dep_of hdep 5 (by kernel_rfl)
      obtain ⟨g, cs, hg, hg0, hx, hs⟩ := hJ.boxOf (j := 5) (by decide) la rfl
      have ea : a.eval (.tmp 7) = .pointer (some ⟨g, 0, none⟩) := eval_slot (j := 5) (by kernel_rfl) hg
      exact Step.skip _ rfl (wanted_none rfl) _ (fun ρ hρ => exec_store_any hx hs rfl (scA_one rfl _) ρ _ rfl ((hρ _).symm.trans ea) ((hρ _).symm.trans es)) (hJ.put hGS hcl hL rfl la (dep_of hdep 1 (by kernel_rfl)) hg rfl hsv)
    · intro L a w' hL hsame hsz hJ hdep hcl
      have hb := hJ.kept.toBelow (Nat.le_refl _) (by simp)
      obtain ⟨A3', c3', hv3, ho3⟩ := (show (OwnSc wsgs.heap.size S) (valOf _ 3 a) w' from hJ.predOf (by decide) (dep_of hdep 3 (by kernel_rfl)) rfl)
      have es : a.eval (.tmp 15) = .agg (scA (.slice A3' (S.g.rows * S.g.cols) c3') S) := eval_slot (j := 3) (by kernel_rfl) hv3
      have la := dep_of hdep 6 (by kernel_rfl)
      obtain ⟨g, cs, hg, hg0, hx, hs⟩ := hJ.boxOf (j := 6) (by decide) la rfl
      have ea : a.eval (.tmp 8) = .pointer (some ⟨g, 0, none⟩) := eval_slot (j := 6) (by kernel_rfl) hg
      exact Step.skip _ rfl (wanted_none rfl) _ (fun ρ hρ => exec_store_any hx hs rfl (scA_one rfl _) ρ _ rfl ((hρ _).symm.trans ea) ((hρ _).symm.trans es)) (hJ.put hGS hcl hL rfl la (dep_of hdep 3 (by kernel_rfl)) hg rfl hv3)
    · intro u w' hF
      change Exit.then _ _ Exit.normal (Act.put (Act.put (Act.put (Act.put (Act.put (Act.put (Act.put (Act.put (Act.put (Act.put (putAll _ u 0 _) (some 12) (u 0)) (some 13) (u 1)) (some 14) (u 2)) (some 15) (u 3)) (some 6) (u 4)) (some 7) (u 5)) (some 8) (u 6)) none (u 7)) none (u 8)) none (u 9)) _
      simp only [putAll]
      obtain ⟨gt, ft, lt0, hB1⟩ := hF.fin3 (j := 7) (a := 4) (v := 0) (by decide) rfl rfl rfl (by decide) rfl (by decide) rfl rfl
      obtain ⟨gu, fu, lu0, hB2⟩ := hF.fin3 (j := 8) (a := 5) (v := 1) (by decide) rfl rfl rfl (by decide) rfl (by decide) rfl rfl
      obtain ⟨A3, c3, f3, ho3⟩ := (show OwnSc wsgs.heap.size S (u 3) w' from hF.fin1 (j := 3) (by decide) rfl)
      obtain ⟨gw, csv, fv, lv0, _, _⟩ := (hF.all 6 (by decide) rfl).2.2.1 rfl
      obtain ⟨gw0, csv', fv', fs', hB3⟩ := (hF.all 9 (by decide) rfl).2.2.2.1 rfl
      obtain rfl : gw0 = gw := by
        have := fv'.symm.trans fv
        cases this
        rfl
      obtain rfl : csv' = scA (.slice A3 (S.g.rows * S.g.cols) c3) S := by
        have := fs'.symm.trans f3
        cases this
        rfl
      have n45 := hF.dist 4 5 rfl rfl rfl rfl (by decide)
      have n46 := hF.dist 4 6 rfl rfl rfl rfl (by decide)
      have n56 := hF.dist 5 6 rfl rfl rfl rfl (by decide)
      have hk := hF.kept.toBelow (Nat.le_refl _) (by simp)
      clear hF fv' fs'
      generalize u 0 = y0
      generalize u 1 = y1
      generalize u 2 = y2
      generalize u 3 = y3 at f3 ⊢
      generalize u 4 = y4 at ft n45 n46 ⊢
      generalize u 5 = y5 at fu n45 n56 ⊢
      generalize u 6 = y6 at fv n46 n56 ⊢
      generalize u 7 = y7
      generalize u 8 = y8
      generalize u 9 = y9
      subst f3 ft fu fv
      have m1 : gt ≠ gu := fun e => n45 (by rw [e])
      have m2 : gt ≠ gw0 := fun e => n46 (by rw [e])
      have m3 : gu ≠ gw0 := fun e => n56 (by rw [e])
      clear n45 n46 n56
      go_simp
      go_step
      go_meet
      exact ⟨gt, gu, gw0, A3, c3, rfl, rfl, rfl, ⟨lt0, lu0, lv0, m1, m2, m3⟩, hB1, hB2, hB3, ho3, hk⟩
  case rest =>
    obtain ⟨gt, gu, gw, A3, c3, rfl, rfl, rfl, ⟨lt0, lu0, lv0, m1, m2, m3⟩, hBt, hBu, hBv, ho3, hb4⟩ := hcut
    have lts := HSs1.out.lt
    have ne_gs_gt : gs ≠ gt := by omega
    have ne_gs_gu : gs ≠ gu := by omega
    have ne_gs_gw : gs ≠ gw := by omega
    have ne_gt_gu := m1
    have ne_gt_gw := m2
    have ne_gu_gw := m3
    have lsz := LO4.out.size
    have le_gt : w.heap.size ≤ gt := by omega
    have le_gu : w.heap.size ≤ gu := by omega
    have le_gw : w.heap.size ≤ gw := by omega
    have HA1 := hide (fun b (h : ((.slice A1 (S.g.rows * S.g.cols) c1) : Value).ownBlock = some b) => (show b < wsgs.heap.size from by obtain ⟨_, _, _, _, _, h2⟩ := own_form' (isg_row HGs3.out); exact (h2 b h).2))
    have HA3 := hide (fun b (h : ((.slice A3 (S.g.rows * S.g.cols) c3) : Value).ownBlock = some b) => (show wsgs.heap.size ≤ b from by obtain ⟨_, _, _, _, _, h2⟩ := own_form' ho3; exact (h2 b h).1))
    have HSs2 := hide (HSs1.out.below hb4 HSs1.out.lt)
    have HGs4 := hide (HGs3.out.low hb4)
    have LO5 := hide (LO4.out.trans (hb4.mono LO4.out.size))
    clear HSs1 HGs3 LO4 hb4
    have HSt1 := hide (show SBox _ gt _ S from hBt)
    clear hBt
    have HSu1 := hide (show SBox _ gu _ S from hBu)
    clear hBu
    have HSv1 := hide (show SBox _ gw _ S from hBv)
    clear hBv
    have HGv1 : Hid (IsG wc S.g (gv S.g.rows S.g.cols (.slice A3 (S.g.rows * S.g.cols) c3))) := hide ⟨_, rfl, own_base' ho3 (Nat.zero_le _)⟩
    clear ho3 lts lt0 lu0 lv0
    generalize wc = wz at *
    go_upto_region 3 with fail
    go_cut [] from 16 to 23 (fun wx => SBox wx gt (.slice A1 (S.g.rows * S.g.cols) c1) (S.u18 (!S.keys)) ∧ SBox wx gu (.slice A1 (S.g.rows * S.g.cols) c1) (S.u17 (!S.shown)) ∧ Kept [some gt, some gu] wz wx)
    case first =>
      have k18 := HSt1.out.c18
      have z18 := HSt1.out.fz 18
      have k17 := HSu1.out.c17
      have z17 := HSu1.out.fz 17
      go_region
      all_goals
        go_wp2_with fail
        go_meet
        exact ⟨Box.drew ((HSt1.out.set18 _).far (p := ⟨gu, 17, none⟩) m1 _), Box.drew ((HSu1.out.far (p := ⟨gt, 18, none⟩) (Ne.symm m1) _).set17 _), ((((Kept.refl [some gt, some gu] wz).setCell (p := ⟨gt, 18, none⟩) (From.mem (by simp)) _).setCell (p := ⟨gu, 17, none⟩) (From.mem (by simp)) _).drew)⟩
    case rest =>
      obtain ⟨hBt, hBu, hkk⟩ := hcut
      have hnr : NoRow wz [some gt, some gu] := fun x hx => by
        simp at hx
        rcases hx with rfl | rfl
        · exact ⟨_, _, HSt1.out, by decide⟩
        · exact ⟨_, _, HSu1.out, by decide⟩
      have HSs3 := hide (HSs2.out.kept hkk (by simp; exact ⟨by first | exact ne_gs_gt | exact Ne.symm ne_gt_gs, by first | exact ne_gs_gu | exact Ne.symm ne_gu_gs⟩))
      have HSv2 := hide (HSv1.out.kept hkk (by simp; exact ⟨by first | exact ne_gw_gt | exact Ne.symm ne_gt_gw, by first | exact ne_gw_gu | exact Ne.symm ne_gu_gw⟩))
      have HGs5 := hide (HGs4.out.keptS hnr hkk)
      have HGv2 := hide (HGv1.out.keptS hnr hkk)
      have LO6 := hide (LO5.out.trans (hkk.toBelow LO5.out.size (fun k hh => by simp at hh; omega)))
      clear HSs2 HSv1 HGs4 HGv1 LO5
      clear HSt1 HSu1
      have HSt2 := hide hBt
      clear hBt
      have HSu2 := hide hBu
      clear hBu
      clear hkk hnr
      generalize wc = wy at *
      have k_gw_2 := (show _ = some ((.slice A3 (S.g.rows * S.g.cols) c3) : Value) from HSv2.out.c2)
      have k_gs_2 := (show _ = some ((.slice A1 (S.g.rows * S.g.cols) c1) : Value) from HSs3.out.c2)
      go_wp2_with fail
      clear k_gw_2 k_gs_2
      refine (WI.out _).mono ?_
      rintro e w' ⟨rfl, rfl⟩
      obtain ⟨cl, hcl⟩ : ∃ cl, (PG.cells S.g)[i]? = some cl := ⟨_, List.getElem?_eq_getElem (by rw [PG.cells_len]; exact hi)⟩
      obtain ⟨g3, rfl, hn3, _, hg3, hc3, hz3, hput⟩ := own_flag (isg_row HGv2.out) hcl
      have k_gw_2 := (show _ = some ((.slice (some ⟨g3, 0, none⟩) (S.g.rows * S.g.cols) c3) : Value) from HSv2.out.c2)
      have hiI : (i : Int) < (S.g.rows : Int) * (S.g.cols : Int) := by rw [← Int.natCast_mul]; omega
      have HPUT := hide hput
      clear hput
      go_upto_region 7 with fail
      go_cut [] from 40 to 55 (fun wx => ∃ f : Int, f ≠ (PG.pn cl).2.2 ∧ wx.ownsRow 0 50 5 (.slice (some ⟨g3, 0, none⟩) (S.g.rows * S.g.cols) c3) (S.g.rows * S.g.cols) (ccells ((PG.cells S.g).set i (PG.rn cl, PG.kd cl, ((PG.pn cl).1, (PG.pn cl).2.1, f)))) ∧ Kept [some g3] wy wx)
      case first =>
        go_still_tail 13, (by kernel_rfl)
        change wpList _ _ _ _ _ wy.drew
        go_wp2_with fail
        go_meet
        exact ⟨_, xor_ne (cell_flag RS.out.g hcl), own_kept (HPUT.out _) (L := []) (Kept.refl [] _).drew (fun _ _ hm => by simp at hm), ((Kept.refl [some g3] wy).setCell (p := ⟨g3, i * 5 + 4, none⟩) (From.mem (by simp)) _).drew⟩
      case rest =>
        obtain ⟨f, hf, hown, hkw⟩ := hcut
        have le_3 := HA3.out g3 rfl
        have le_g3 : w.heap.size ≤ g3 := by omega
        have x_gs : gs ≠ g3 := fun e => own_ne_box (isg_row HGv2.out) HSs3.out (by decide) (by rw [e]; rfl)
        have x_gt : gt ≠ g3 := fun e => own_ne_box (isg_row HGv2.out) HSt2.out (by decide) (by rw [e]; rfl)
        have x_gu : gu ≠ g3 := fun e => own_ne_box (isg_row HGv2.out) HSu2.out (by decide) (by rw [e]; rfl)
        have x_gw : gw ≠ g3 := fun e => own_ne_box (isg_row HGv2.out) HSv2.out (by decide) (by rw [e]; rfl)
        have HSs4 := hide (HSs3.out.kept hkw (by simp; exact x_gs))
        have HSt3 := hide (HSt2.out.kept hkw (by simp; exact x_gt))
        have HSu3 := hide (HSu2.out.kept hkw (by simp; exact x_gu))
        have HSv3 := hide (HSv2.out.kept hkw (by simp; exact x_gw))
        have HGs6 : Hid (IsG wc S.g (gv S.g.rows S.g.cols (.slice A1 (S.g.rows * S.g.cols) c1))) := hide ⟨_, rfl, own_kept (isg_row HGs5.out) hkw (fun b hb hm => by have := HA1.out b hb; simp at hm; omega)⟩
        have LO7 := hide (LO6.out.trans (hkw.toBelow LO6.out.size (fun k hh => by simp at hh; omega)))
        obtain ⟨GQ, hGQ⟩ : ∃ G, (PG.ofL S.g.rows S.g.cols ((PG.cells S.g).set i (PG.rn cl, PG.kd cl, ((PG.pn cl).1, (PG.pn cl).2.1, f)))) = G := ⟨_, rfl⟩
        have hq : IsG wc (PG.ofL S.g.rows S.g.cols ((PG.cells S.g).set i (PG.rn cl, PG.kd cl, ((PG.pn cl).1, (PG.pn cl).2.1, f)))) (gv S.g.rows S.g.cols (.slice (some ⟨g3, 0, none⟩) (S.g.rows * S.g.cols) c3)) := ⟨_, rfl, by rw [PG.ofL_cells (by rw [List.length_set, PG.cells_len])]; exact hown⟩
        have HNA := hide (not_alike hcl hf)
        have hqr : GQ.rows = S.g.rows := hGQ ▸ rfl
        have hqc : GQ.cols = S.g.cols := hGQ ▸ rfl
        rw [hGQ] at hq HNA
        have HGq1 := hide hq
        clear hq hGQ hown hkw HSs3 HSt2 HSu2 HSv2 HGs5 LO6 HGv2
        generalize wc = wq at *
        go_wp2_with (first | (refine wpList_load_scrG HSs4.out _ rfl (by rfl) rfl ?_) | (refine wpList_load_scrG HSt3.out _ rfl (by rfl) rfl ?_) | (refine wpList_load_scrG HSu3.out _ rfl (by rfl) rfl ?_) | (refine wpList_load_scrG HSv3.out _ rfl (by rfl) rfl ?_))
        refine (slooks_raw (SN.raw S) (SN.raw (S.u18 (!S.keys))) _ _ true true ⟨fun _ => PG.Alike.refl _, fun _ => rfl⟩ (looks_keys S) RS.out.g _ HGs6.out HGs6.out).mono ?_
        rintro e wr1 ⟨rfl, hr1⟩
        have HSs5 := hide (HSs4.out.below hr1 HSs4.out.lt)
        have HSt4 := hide (HSt3.out.below hr1 HSt3.out.lt)
        have HSu4 := hide (HSu3.out.below hr1 HSu3.out.lt)
        have HSv4 := hide (HSv3.out.below hr1 HSv3.out.lt)
        have HGs7 := hide (HGs6.out.low hr1)
        have HGq2 := hide (HGq1.out.low hr1)
        have LO8 := hide (LO7.out.trans (hr1.mono LO7.out.size))
        clear HSs4 HSt3 HSu3 HSv3 HGs6 HGq1 LO7 hr1
        go_wp2_with (first | (refine wpList_load_scrG HSs5.out _ rfl (by rfl) rfl ?_) | (refine wpList_load_scrG HSt4.out _ rfl (by rfl) rfl ?_) | (refine wpList_load_scrG HSu4.out _ rfl (by rfl) rfl ?_) | (refine wpList_load_scrG HSv4.out _ rfl (by rfl) rfl ?_))
        refine (ssame_raw (SN.raw S) (SN.raw (S.u18 (!S.keys))) _ _ true false ⟨fun _ => PG.Alike.refl _, fun _ => rfl⟩ (same_keys S) RS.out.g _ HGs7.out HGs7.out).mono ?_
        rintro e wr2 ⟨rfl, hr2⟩
        have HSs6 := hide (HSs5.out.below hr2 HSs5.out.lt)
        have HSt5 := hide (HSt4.out.below hr2 HSt4.out.lt)
        have HSu5 := hide (HSu4.out.below hr2 HSu4.out.lt)
        have HSv5 := hide (HSv4.out.below hr2 HSv4.out.lt)
        have HGs8 := hide (HGs7.out.low hr2)
        have HGq3 := hide (HGq2.out.low hr2)
        have LO9 := hide (LO8.out.trans (hr2.mono LO8.out.size))
        clear HSs5 HSt4 HSu4 HSv4 HGs7 HGq2 LO8 hr2
        go_wp2_with (first | (refine wpList_load_scrG HSs6.out _ rfl (by rfl) rfl ?_) | (refine wpList_load_scrG HSt5.out _ rfl (by rfl) rfl ?_) | (refine wpList_load_scrG HSu5.out _ rfl (by rfl) rfl ?_) | (refine wpList_load_scrG HSv5.out _ rfl (by rfl) rfl ?_))
        refine (slooks_raw (SN.raw S) (SN.raw (S.u17 (!S.shown))) _ _ true false ⟨fun _ => PG.Alike.refl _, fun _ => rfl⟩ (looks_shown S) RS.out.g _ HGs8.out HGs8.out).mono ?_
        rintro e wr3 ⟨rfl, hr3⟩
        have HSs7 := hide (HSs6.out.below hr3 HSs6.out.lt)
        have HSt6 := hide (HSt5.out.below hr3 HSt5.out.lt)
        have HSu6 := hide (HSu5.out.below hr3 HSu5.out.lt)
        have HSv6 := hide (HSv5.out.below hr3 HSv5.out.lt)
        have HGs9 := hide (HGs8.out.low hr3)
        have HGq4 := hide (HGq3.out.low hr3)
        have LO10 := hide (LO9.out.trans (hr3.mono LO9.out.size))
        clear HSs6 HSt5 HSu5 HSv5 HGs8 HGq3 LO9 hr3
        go_wp2_with (first | (refine wpList_load_scrG HSs7.out _ rfl (by rfl) rfl ?_) | (refine wpList_load_scrG HSt6.out _ rfl (by rfl) rfl ?_) | (refine wpList_load_scrG HSu6.out _ rfl (by rfl) rfl ?_) | (refine wpList_load_scrG HSv6.out _ rfl (by rfl) rfl ?_))
        refine (ssame_raw (SN.raw S) (SN.raw (S.u17 (!S.shown))) _ _ true false ⟨fun _ => PG.Alike.refl _, fun _ => rfl⟩ (same_shown S) RS.out.g _ HGs9.out HGs9.out).mono ?_
        rintro e wr4 ⟨rfl, hr4⟩
        have HSs8 := hide (HSs7.out.below hr4 HSs7.out.lt)
        have HSt7 := hide (HSt6.out.below hr4 HSt6.out.lt)
        have HSu7 := hide (HSu6.out.below hr4 HSu6.out.lt)
        have HSv7 := hide (HSv6.out.below hr4 HSv6.out.lt)
        have HGs10 := hide (HGs9.out.low hr4)
        have HGq5 := hide (HGq4.out.low hr4)
        have LO11 := hide (LO10.out.trans (hr4.mono LO10.out.size))
        clear HSs7 HSt6 HSu6 HSv6 HGs9 HGq4 LO10 hr4
        have eV : rwA (.slice (some ⟨g3, 0, none⟩) (S.g.rows * S.g.cols) c3) { SN.raw S with g := GQ } = scA (.slice (some ⟨g3, 0, none⟩) (S.g.rows * S.g.cols) c3) S := by show rwA _ _ = rwA _ (SN.raw S); unfold rwA; rw [show ({ SN.raw S with g := GQ } : SN.Rw).g = GQ from rfl, hqr, hqc]; rfl
        have LV := hide (fun w' h h' => slooks_raw (SN.raw S) { SN.raw S with g := GQ } (.slice A1 (S.g.rows * S.g.cols) c1) (.slice (some ⟨g3, 0, none⟩) (S.g.rows * S.g.cols) c3) false false ⟨fun h => (nomatch h), fun h => absurd h HNA.out⟩ rfl RS.out.g w' h h')
        have SV := hide (fun w' h h' => ssame_raw (SN.raw S) { SN.raw S with g := GQ } (.slice A1 (S.g.rows * S.g.cols) c1) (.slice (some ⟨g3, 0, none⟩) (S.g.rows * S.g.cols) c3) false false ⟨fun h => (nomatch h), fun h => absurd h HNA.out⟩ rfl RS.out.g w' h h')
        rw [eV] at LV SV
        go_wp2_with (first | (refine wpList_load_scrG HSs8.out _ rfl (by rfl) rfl ?_) | (refine wpList_load_scrG HSt7.out _ rfl (by rfl) rfl ?_) | (refine wpList_load_scrG HSu7.out _ rfl (by rfl) rfl ?_) | (refine wpList_load_scrG HSv7.out _ rfl (by rfl) rfl ?_))
        refine (LV.out _ HGs10.out (show IsG _ GQ (gv GQ.rows GQ.cols (.slice (some ⟨g3, 0, none⟩) (S.g.rows * S.g.cols) c3)) from by rw [hqr, hqc]; exact HGq5.out)).mono ?_
        rintro e wr5 ⟨rfl, hr5⟩
        have HSs9 := hide (HSs8.out.below hr5 HSs8.out.lt)
        have HSt8 := hide (HSt7.out.below hr5 HSt7.out.lt)
        have HSu8 := hide (HSu7.out.below hr5 HSu7.out.lt)
        have HSv8 := hide (HSv7.out.below hr5 HSv7.out.lt)
        have HGs11 := hide (HGs10.out.low hr5)
        have HGq6 := hide (HGq5.out.low hr5)
        have LO12 := hide (LO11.out.trans (hr5.mono LO11.out.size))
        clear HSs8 HSt7 HSu7 HSv7 HGs10 HGq5 LO11 hr5
        go_wp2_with (first | (refine wpList_load_scrG HSs9.out _ rfl (by rfl) rfl ?_) | (refine wpList_load_scrG HSt8.out _ rfl (by rfl) rfl ?_) | (refine wpList_load_scrG HSu8.out _ rfl (by rfl) rfl ?_) | (refine wpList_load_scrG HSv8.out _ rfl (by rfl) rfl ?_))
        refine (SV.out _ HGs11.out (show IsG _ GQ (gv GQ.rows GQ.cols (.slice (some ⟨g3, 0, none⟩) (S.g.rows * S.g.cols) c3)) from by rw [hqr, hqc]; exact HGq6.out)).mono ?_
        rintro e wr6 ⟨rfl, hr6⟩
        have HSs10 := hide (HSs9.out.below hr6 HSs9.out.lt)
        have HSt9 := hide (HSt8.out.below hr6 HSt8.out.lt)
        have HSu9 := hide (HSu8.out.below hr6 HSu8.out.lt)
        have HSv9 := hide (HSv8.out.below hr6 HSv8.out.lt)
        have HGs12 := hide (HGs11.out.low hr6)
        have HGq7 := hide (HGq6.out.low hr6)
        have LO13 := hide (LO12.out.trans (hr6.mono LO12.out.size))
        clear HSs9 HSt8 HSu8 HSv8 HGs11 HGq6 LO12 hr6
        go_wp2_with (first | (refine wpList_load_scrG HSs10.out _ rfl (by rfl) rfl ?_) | (refine wpList_load_scrG HSt9.out _ rfl (by rfl) rfl ?_) | (refine wpList_load_scrG HSu9.out _ rfl (by rfl) rfl ?_) | (refine wpList_load_scrG HSv9.out _ rfl (by rfl) rfl ?_))
        refine (sright_is S _ RS.out _ HGs12.out (HSP.out.below LO13.out (by exact SLT.out))).mono ?_
        rintro e wr7 ⟨rfl, hr7⟩
        have HSs11 := hide (HSs10.out.below hr7 HSs10.out.lt)
        have HSt10 := hide (HSt9.out.below hr7 HSt9.out.lt)
        have HSu10 := hide (HSu9.out.below hr7 HSu9.out.lt)
        have HSv10 := hide (HSv9.out.below hr7 HSv9.out.lt)
        have HGs13 := hide (HGs12.out.low hr7)
        have HGq8 := hide (HGq7.out.low hr7)
        have LO14 := hide (LO13.out.trans (hr7.mono LO13.out.size))
        clear HSs10 HSt9 HSu9 HSv9 HGs12 HGq7 LO13 hr7
        go_wp2_with fail
        refine (screenRuns_any _ (HSP.out.below LO14.out (by exact SLT.out))).mono ?_
        rintro e wr9 ⟨rfl, hr9⟩
        have HSs12 := hide (HSs11.out.below hr9 HSs11.out.lt)
        have HSt11 := hide (HSt10.out.below hr9 HSt10.out.lt)
        have HSu11 := hide (HSu10.out.below hr9 HSu10.out.lt)
        have HSv11 := hide (HSv10.out.below hr9 HSv10.out.lt)
        have HGs14 := hide (HGs13.out.low hr9)
        have HGq9 := hide (HGq8.out.low hr9)
        have LO15 := hide (LO14.out.trans (hr9.mono LO14.out.size))
        clear HSs11 HSt10 HSu10 HSv10 HGs13 HGq8 LO14 hr9
        go_wp2_with fail
        go_ret
        exact ⟨rfl, LO15.out⟩
end Go.Proofs.YtoffiekpmomfcaaDoor
