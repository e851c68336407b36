/- The document's own mode as a call, its loop of modes, its Do of 'ESC [ ? .. h' and '.. l'. -/
import Derived.Test.YtdcdinlppjlmfaaDoorSourceSpec
import Derived.Test.YtdcdinlppjlmfaaDoorRefMode
import Derived.Deep.DeepCutAuto
set_option maxRecDepth 100000
namespace Go.Proofs.YtdcdinlppjlmfaaDoor
open Go Go.RowKit
set_option linter.unusedVariables false
/-- a call that gives back the same cells -/
theorem got_same {w w' : World} {A : Option Addr} {n c : Nat} {s t : SN.Sc} {e : Ending} (hg : IsG w s.g (gv s.g.rows s.g.cols (.slice A n c))) (ht : t.g = s.g) (h : e = .returned (.agg (scA (.slice A n c) t)) ∧ Below w.heap.size w w') : GotS w t e w' :=
  ⟨_, h.1, ⟨_, rfl, by rw [ht]; exact hg.low h.2⟩, h.2⟩
theorem rmode_got (s : SN.Sc) (v : Value) (n : Int) (on : Bool) (w : World) (hs : SN.RightS s) (h : IsS w s v) : Calls Tryd.prog 52 #[v, .int .i64 n, .bool on] w (GotS w (SN.modeS s n on)) := by
  obtain ⟨x, rfl, hg⟩ := h
  obtain ⟨A, cp, rfl⟩ := gv_slice hg
  exact (rmode_is _ s _ n on w rfl hs rfl).mono fun e w' h => got_same (t := SN.modeS s n on) hg (SN.mode_g s n on) h
theorem SN.modes_g (s : SN.Sc) (on : Bool) : ∀ l : List Int, (SN.modesS s on l).g = s.g := by
  intro l
  unfold SN.modesS
  induction l generalizing s with
  | nil => rfl
  | cons x l ih => exact (ih (SN.modeS s x on)).trans (SN.mode_g s x on)
theorem SN.modes_snoc (s : SN.Sc) (on : Bool) {l : List Int} {j : Nat} {x : Int} (h : l[j]? = some x) : SN.modesS s on (l.take (j + 1)) = SN.modeS (SN.modesS s on (l.take j)) x on := by
  unfold SN.modesS
  rw [List.take_add_one, h]
  simp
set_option maxHeartbeats 8000000 in
theorem rcsi_h (s : SN.Sc) (v : Value) (kd rn : Int) (Ae : Option Addr) (n c B : Nat) (tx : ByteArray) (l : List Int) (w : World) (hs : SN.RightS s) (hl : Seen w B Ae n (l.map (Value.int .i64))) (hB : B ≤ w.heap.size) (hn : n ≤ 100) (hnc : n ≤ c) (hlb : ∀ x ∈ l, -1 ≤ x ∧ x ≤ 65535) (h : IsS w s v) :
    Calls Tryd.prog 30 #[v, .agg #[.int .i64 kd, .int .i32 rn, .int .u8 63, .int .u8 0, .int .u8 104, .slice Ae n c, .string tx]] w (GotS w (SN.modesS s true l)) := by
  obtain ⟨x, rfl, hg⟩ := h
  obtain ⟨A, cp, rfl⟩ := gv_slice hg
  have HG := hide hg
  have hgr := hs.g.2.1
  have hgc := hs.g.2.2.2.1
  have hR1 := hs.g.1
  have hK1 := hs.g.2.2.1
  have HS := hide hs
  have HL := hide hl
  have hlen : l.length = n := by have := hl.1; simpa using this
  have HLN := hide hlen
  clear hs hg hl hlb hlen
  go_enter Tryd.func30, Tryd.ntmps30
  go_upto_region 1 with (first | (refine wpList_box_scr rfl _ rfl rfl ?_; intro g w1 hB1 hb1 hg1) | (refine wpList_alloc_scr rfl rfl ?_; intro gR w2 csR hR hsR hb2 hgR))
  have hE1 := Box.new w1 49 #[.int .i64 kd, .int .i32 rn, .int .u8 63, .int .u8 0, .int .u8 104, .slice Ae n c, .string tx]
  have hbE := hb1.alloc hb1.size (.cells #[.int .i64 kd, .int .i32 rn, .int .u8 63, .int .u8 0, .int .u8 104, .slice Ae n c, .string tx] 49)
  have hgE : w1.heap.size < (w1.alloc (.cells #[.int .i64 kd, .int .i32 rn, .int .u8 63, .int .u8 0, .int .u8 104, .slice Ae n c, .string tx] 49)).heap.size := by simp
  have hgB : g < (w1.alloc (.cells #[.int .i64 kd, .int .i32 rn, .int .u8 63, .int .u8 0, .int .u8 104, .slice Ae n c, .string tx] 49)).heap.size := by have := hB1.lt; omega
  have hgE0 : g ≠ w1.heap.size := by have := hB1.lt; omega
  have hne : gR ≠ g := by have := hgB; omega
  have hneE : gR ≠ w1.heap.size := by have := hgE; omega
  have HB2 := hide ((hB1.alloc (.cells #[.int .i64 kd, .int .i32 rn, .int .u8 63, .int .u8 0, .int .u8 104, .slice Ae n c, .string tx] 49)).below hb2 hgB)
  have HE2 := hide (hE1.below hb2 hgE)
  have HW2 := hide (hbE.trans (hb2.mono hbE.size))
  have HR2 := hide hR
  have HG2 := hide (HG.out.low HW2.out)
  have hgR' : w.heap.size ≤ gR := by have := hbE.size; omega
  generalize w1.heap.size = gE at HE2 hgE0 hneE ⊢
  clear hE1 hbE hgE hgB hB1 hb1 hb2 hR hgR HG
  have e0 : w2.cell? ⟨gE, 0, none⟩ = some (.int .i64 kd) := HE2.out.cell 0
  have e1 : w2.cell? ⟨gE, 1, none⟩ = some (.int .i32 rn) := HE2.out.cell 1
  have e2 : w2.cell? ⟨gE, 2, none⟩ = some (.int .u8 63) := HE2.out.cell 2
  have e3 : w2.cell? ⟨gE, 3, none⟩ = some (.int .u8 0) := HE2.out.cell 3
  have e4 : w2.cell? ⟨gE, 4, none⟩ = some (.int .u8 104) := HE2.out.cell 4
  have e5 : w2.cell? ⟨gE, 5, none⟩ = some (.slice Ae n c) := HE2.out.cell 5
  have e6 : w2.cell? ⟨gE, 6, none⟩ = some (.string tx) := HE2.out.cell 6
  go_wp2_with fail
  go_loopw [35] (fun i wr => ∃ j : Nat, j ≤ n ∧ i = .int .i64 j ∧ Hid (∃ A0 c0, SBox wr g (.slice A0 (s.g.rows * s.g.cols) c0) (SN.modesS s true (l.take j)) ∧ IsG wr s.g (gv s.g.rows s.g.cols (.slice A0 (s.g.rows * s.g.cols) c0))) ∧ Hid (Box wr gE 49 #[.int .i64 kd, .int .i32 rn, .int .u8 63, .int .u8 0, .int .u8 104, .slice Ae n c, .string tx]) ∧ Hid (Box wr gR 32 csR) ∧ Hid (Below w.heap.size w wr)) (fun i _ => n - (intOf i).toNat)
  case atStart => exact ⟨0, Nat.zero_le _, rfl, hide ⟨A, cp, (show SBox w2 g _ (SN.modesS s true (l.take 0)) from HB2.out), HG2.out⟩, HE2, HR2, HW2⟩
  case round =>
    obtain ⟨j, hj, rfl, HX, HE, HR, HW⟩ := hrel
    obtain ⟨A4, c4, hB4, hG4⟩ := HX.out
    have HB4 := hide hB4
    have HG4 := hide hG4
    clear HX hB4 hG4 e0 e1 e2 e3 e4 e5 e6 HB2 HE2 HR2 HW2 HG2
    by_cases hjn : j < n
    · obtain ⟨ad, u, had, hlt, hu, hcell⟩ := (HL.out.below (HW.out.mono hB)).at_ hjn
      subst had
      rw [List.getElem?_map] at hu
      obtain ⟨y, hy, rfl⟩ := Option.map_eq_some_iff.1 hu
      have HY := hide hy
      clear hu hy
      have HTE := hide (SN.modes_snoc s true HY.out)
      have HTG := hide (SN.modes_g s true (l.take (j + 1)))
      have HTG0 := hide (SN.modes_g s true (l.take j))
      have MD := hide (fun w' v' h => rmode_got (SN.modesS s true (l.take j)) v' y true w' (SN.right_modesS HS.out true (l.take j)) h)
      rw [← HTE.out] at MD
      obtain ⟨T1, hT1⟩ : ∃ T1, (SN.modesS s true (l.take (j + 1))) = T1 := ⟨_, rfl⟩
      obtain ⟨T0, hT0⟩ : ∃ T0, (SN.modesS s true (l.take j)) = T0 := ⟨_, rfl⟩
      rw [hT1] at MD HTG
      rw [hT0] at MD HTG0 HB4
      have ET1 := hide hT1
      clear hT1 hT0
      have e0 : wr.cell? ⟨gE, 0, none⟩ = some (.int .i64 kd) := HE.out.cell 0
      have e1 : wr.cell? ⟨gE, 1, none⟩ = some (.int .i32 rn) := HE.out.cell 1
      have e2 : wr.cell? ⟨gE, 2, none⟩ = some (.int .u8 63) := HE.out.cell 2
      have e3 : wr.cell? ⟨gE, 3, none⟩ = some (.int .u8 0) := HE.out.cell 3
      have e4 : wr.cell? ⟨gE, 4, none⟩ = some (.int .u8 104) := HE.out.cell 4
      have e5 : wr.cell? ⟨gE, 5, none⟩ = some (.slice (some ad) n c) := HE.out.cell 5
      have e6 : wr.cell? ⟨gE, 6, none⟩ = some (.string tx) := HE.out.cell 6
      go_wp2_with (refine wpList_load_scr HB4.out rfl _ rfl rfl ?_)
      refine (MD.out _ _ ⟨_, rfl, by rw [HTG0.out]; exact HG4.out⟩).mono ?_
      rintro e w5 ⟨v5, rfl, ⟨x5, rfl, hg5⟩, hb5⟩
      rw [HTG.out] at hg5
      obtain ⟨A5, c5, rfl⟩ := gv_slice hg5
      have HB5 := hide (HB4.out.below hb5 HB4.out.lt)
      have HE5 := hide (HE.out.below hb5 HE.out.lt)
      have HR5 := hide (HR.out.below hb5 HR.out.lt)
      have HW5 := hide (HW.out.trans (hb5.mono HW.out.size))
      have HG5 := hide hg5
      clear hg5 hb5 HB4 HG4 HE HR HW e0 e1 e2 e3 e4 e5 e6 hcell
      go_wp2_with (refine wpList_store_scr HB5.out rfl rfl _ _ rfl rfl rfl rfl ?_; intro w6 hB6 hk6 hs6)
      go_roundw
      case rel =>
        refine ⟨j + 1, by omega, by go_num, hide ⟨A5, c5, by rw [ET1.out]; exact hB6, HG5.out.kept HB5.out (by decide) hk6⟩, hide (HE5.out.kept hk6 (by simp; exact Ne.symm hgE0)), hide (HR5.out.kept hk6 (by simp; exact hne)), hide (HW5.out.trans (hk6.toBelow HW5.out.size (fun k hh => by simp at hh; omega)))⟩
      case measure => simp [intOf]; omega
    · have hjl : j = n := by omega
      have HTN := hide (show (SN.modesS s true (l.take j)) = (SN.modesS s true l) by rw [hjl, ← HLN.out, List.take_length])
      have HTG := hide (show (SN.modesS s true l).g = s.g from SN.modes_g s true l)
      have HN := hide (show SBox wr g (.slice A4 (s.g.rows * s.g.cols) c4) (SN.modesS s true l) by rw [← HTN.out]; exact HB4.out)
      obtain ⟨TT, hTT⟩ : ∃ TT, TT = (SN.modesS s true l) := ⟨_, rfl⟩
      rw [← hTT] at HN HTG
      have ETT := hide hTT
      clear HB4 HTN hTT
      have hjn2 : ¬ (j : Int) < (n : Int) := by omega
      clear hjl
      go_wp2_with (first | (refine wpList_load_scr HN.out rfl _ rfl rfl ?_) | (refine wpList_store_scr HR.out hsR rfl _ _ rfl rfl rfl rfl ?_; intro w8 hB8 hk8 hs8))
      exact bodyPost_ret (results_scr rfl rfl hB8) rfl ⟨_, rfl, ⟨_, by rw [ETT.out], by rw [← ETT.out, HTG.out]; exact HG4.out.kept HR.out (by decide) hk8⟩, HW.out.trans (hk8.toBelow HW.out.size (fun k hh => by simp at hh; omega))⟩
set_option maxHeartbeats 8000000 in
theorem rcsi_l (s : SN.Sc) (v : Value) (kd rn : Int) (Ae : Option Addr) (n c B : Nat) (tx : ByteArray) (l : List Int) (w : World) (hs : SN.RightS s) (hl : Seen w B Ae n (l.map (Value.int .i64))) (hB : B ≤ w.heap.size) (hn : n ≤ 100) (hnc : n ≤ c) (hlb : ∀ x ∈ l, -1 ≤ x ∧ x ≤ 65535) (h : IsS w s v) :
    Calls Tryd.prog 30 #[v, .agg #[.int .i64 kd, .int .i32 rn, .int .u8 63, .int .u8 0, .int .u8 108, .slice Ae n c, .string tx]] w (GotS w (SN.modesS s false l)) := by
  obtain ⟨x, rfl, hg⟩ := h
  obtain ⟨A, cp, rfl⟩ := gv_slice hg
  have HG := hide hg
  have hgr := hs.g.2.1
  have hgc := hs.g.2.2.2.1
  have hR1 := hs.g.1
  have hK1 := hs.g.2.2.1
  have HS := hide hs
  have HL := hide hl
  have hlen : l.length = n := by have := hl.1; simpa using this
  have HLN := hide hlen
  clear hs hg hl hlb hlen
  go_enter Tryd.func30, Tryd.ntmps30
  go_upto_region 1 with (first | (refine wpList_box_scr rfl _ rfl rfl ?_; intro g w1 hB1 hb1 hg1) | (refine wpList_alloc_scr rfl rfl ?_; intro gR w2 csR hR hsR hb2 hgR))
  have hE1 := Box.new w1 49 #[.int .i64 kd, .int .i32 rn, .int .u8 63, .int .u8 0, .int .u8 108, .slice Ae n c, .string tx]
  have hbE := hb1.alloc hb1.size (.cells #[.int .i64 kd, .int .i32 rn, .int .u8 63, .int .u8 0, .int .u8 108, .slice Ae n c, .string tx] 49)
  have hgE : w1.heap.size < (w1.alloc (.cells #[.int .i64 kd, .int .i32 rn, .int .u8 63, .int .u8 0, .int .u8 108, .slice Ae n c, .string tx] 49)).heap.size := by simp
  have hgB : g < (w1.alloc (.cells #[.int .i64 kd, .int .i32 rn, .int .u8 63, .int .u8 0, .int .u8 108, .slice Ae n c, .string tx] 49)).heap.size := by have := hB1.lt; omega
  have hgE0 : g ≠ w1.heap.size := by have := hB1.lt; omega
  have hne : gR ≠ g := by have := hgB; omega
  have hneE : gR ≠ w1.heap.size := by have := hgE; omega
  have HB2 := hide ((hB1.alloc (.cells #[.int .i64 kd, .int .i32 rn, .int .u8 63, .int .u8 0, .int .u8 108, .slice Ae n c, .string tx] 49)).below hb2 hgB)
  have HE2 := hide (hE1.below hb2 hgE)
  have HW2 := hide (hbE.trans (hb2.mono hbE.size))
  have HR2 := hide hR
  have HG2 := hide (HG.out.low HW2.out)
  have hgR' : w.heap.size ≤ gR := by have := hbE.size; omega
  generalize w1.heap.size = gE at HE2 hgE0 hneE ⊢
  clear hE1 hbE hgE hgB hB1 hb1 hb2 hR hgR HG
  have e0 : w2.cell? ⟨gE, 0, none⟩ = some (.int .i64 kd) := HE2.out.cell 0
  have e1 : w2.cell? ⟨gE, 1, none⟩ = some (.int .i32 rn) := HE2.out.cell 1
  have e2 : w2.cell? ⟨gE, 2, none⟩ = some (.int .u8 63) := HE2.out.cell 2
  have e3 : w2.cell? ⟨gE, 3, none⟩ = some (.int .u8 0) := HE2.out.cell 3
  have e4 : w2.cell? ⟨gE, 4, none⟩ = some (.int .u8 108) := HE2.out.cell 4
  have e5 : w2.cell? ⟨gE, 5, none⟩ = some (.slice Ae n c) := HE2.out.cell 5
  have e6 : w2.cell? ⟨gE, 6, none⟩ = some (.string tx) := HE2.out.cell 6
  go_wp2_with fail
  go_loopw [35] (fun i wr => ∃ j : Nat, j ≤ n ∧ i = .int .i64 j ∧ Hid (∃ A0 c0, SBox wr g (.slice A0 (s.g.rows * s.g.cols) c0) (SN.modesS s false (l.take j)) ∧ IsG wr s.g (gv s.g.rows s.g.cols (.slice A0 (s.g.rows * s.g.cols) c0))) ∧ Hid (Box wr gE 49 #[.int .i64 kd, .int .i32 rn, .int .u8 63, .int .u8 0, .int .u8 108, .slice Ae n c, .string tx]) ∧ Hid (Box wr gR 32 csR) ∧ Hid (Below w.heap.size w wr)) (fun i _ => n - (intOf i).toNat)
  case atStart => exact ⟨0, Nat.zero_le _, rfl, hide ⟨A, cp, (show SBox w2 g _ (SN.modesS s false (l.take 0)) from HB2.out), HG2.out⟩, HE2, HR2, HW2⟩
  case round =>
    obtain ⟨j, hj, rfl, HX, HE, HR, HW⟩ := hrel
    obtain ⟨A4, c4, hB4, hG4⟩ := HX.out
    have HB4 := hide hB4
    have HG4 := hide hG4
    clear HX hB4 hG4 e0 e1 e2 e3 e4 e5 e6 HB2 HE2 HR2 HW2 HG2
    by_cases hjn : j < n
    · obtain ⟨ad, u, had, hlt, hu, hcell⟩ := (HL.out.below (HW.out.mono hB)).at_ hjn
      subst had
      rw [List.getElem?_map] at hu
      obtain ⟨y, hy, rfl⟩ := Option.map_eq_some_iff.1 hu
      have HY := hide hy
      clear hu hy
      have HTE := hide (SN.modes_snoc s false HY.out)
      have HTG := hide (SN.modes_g s false (l.take (j + 1)))
      have HTG0 := hide (SN.modes_g s false (l.take j))
      have MD := hide (fun w' v' h => rmode_got (SN.modesS s false (l.take j)) v' y false w' (SN.right_modesS HS.out false (l.take j)) h)
      rw [← HTE.out] at MD
      obtain ⟨T1, hT1⟩ : ∃ T1, (SN.modesS s false (l.take (j + 1))) = T1 := ⟨_, rfl⟩
      obtain ⟨T0, hT0⟩ : ∃ T0, (SN.modesS s false (l.take j)) = T0 := ⟨_, rfl⟩
      rw [hT1] at MD HTG
      rw [hT0] at MD HTG0 HB4
      have ET1 := hide hT1
      clear hT1 hT0
      have e0 : wr.cell? ⟨gE, 0, none⟩ = some (.int .i64 kd) := HE.out.cell 0
      have e1 : wr.cell? ⟨gE, 1, none⟩ = some (.int .i32 rn) := HE.out.cell 1
      have e2 : wr.cell? ⟨gE, 2, none⟩ = some (.int .u8 63) := HE.out.cell 2
      have e3 : wr.cell? ⟨gE, 3, none⟩ = some (.int .u8 0) := HE.out.cell 3
      have e4 : wr.cell? ⟨gE, 4, none⟩ = some (.int .u8 108) := HE.out.cell 4
      have e5 : wr.cell? ⟨gE, 5, none⟩ = some (.slice (some ad) n c) := HE.out.cell 5
      have e6 : wr.cell? ⟨gE, 6, none⟩ = some (.string tx) := HE.out.cell 6
      go_wp2_with (refine wpList_load_scr HB4.out rfl _ rfl rfl ?_)
      refine (MD.out _ _ ⟨_, rfl, by rw [HTG0.out]; exact HG4.out⟩).mono ?_
      rintro e w5 ⟨v5, rfl, ⟨x5, rfl, hg5⟩, hb5⟩
      rw [HTG.out] at hg5
      obtain ⟨A5, c5, rfl⟩ := gv_slice hg5
      have HB5 := hide (HB4.out.below hb5 HB4.out.lt)
      have HE5 := hide (HE.out.below hb5 HE.out.lt)
      have HR5 := hide (HR.out.below hb5 HR.out.lt)
      have HW5 := hide (HW.out.trans (hb5.mono HW.out.size))
      have HG5 := hide hg5
      clear hg5 hb5 HB4 HG4 HE HR HW e0 e1 e2 e3 e4 e5 e6 hcell
      go_wp2_with (refine wpList_store_scr HB5.out rfl rfl _ _ rfl rfl rfl rfl ?_; intro w6 hB6 hk6 hs6)
      go_roundw
      case rel =>
        refine ⟨j + 1, by omega, by go_num, hide ⟨A5, c5, by rw [ET1.out]; exact hB6, HG5.out.kept HB5.out (by decide) hk6⟩, hide (HE5.out.kept hk6 (by simp; exact Ne.symm hgE0)), hide (HR5.out.kept hk6 (by simp; exact hne)), hide (HW5.out.trans (hk6.toBelow HW5.out.size (fun k hh => by simp at hh; omega)))⟩
      case measure => simp [intOf]; omega
    · have hjl : j = n := by omega
      have HTN := hide (show (SN.modesS s false (l.take j)) = (SN.modesS s false l) by rw [hjl, ← HLN.out, List.take_length])
      have HTG := hide (show (SN.modesS s false l).g = s.g from SN.modes_g s false l)
      have HN := hide (show SBox wr g (.slice A4 (s.g.rows * s.g.cols) c4) (SN.modesS s false l) by rw [← HTN.out]; exact HB4.out)
      obtain ⟨TT, hTT⟩ : ∃ TT, TT = (SN.modesS s false l) := ⟨_, rfl⟩
      rw [← hTT] at HN HTG
      have ETT := hide hTT
      clear HB4 HTN hTT
      have hjn2 : ¬ (j : Int) < (n : Int) := by omega
      clear hjl
      go_wp2_with (first | (refine wpList_load_scr HN.out rfl _ rfl rfl ?_) | (refine wpList_store_scr HR.out hsR rfl _ _ rfl rfl rfl rfl ?_; intro w8 hB8 hk8 hs8))
      exact bodyPost_ret (results_scr rfl rfl hB8) rfl ⟨_, rfl, ⟨_, by rw [ETT.out], by rw [← ETT.out, HTG.out]; exact HG4.out.kept HR.out (by decide) hk8⟩, HW.out.trans (hk8.toBelow HW.out.size (fun k hh => by simp at hh; omega))⟩
set_option maxHeartbeats 4000000 in
theorem rdo_of (s t : SN.Sc) (v : Value) (rn pv it fn : Int) (Ae : Option Addr) (n c B : Nat) (tx : ByteArray) (l : List Int) (w : World) (hs : SN.RightS s) (hl : Seen w B Ae n (l.map (Value.int .i64))) (hB : B ≤ w.heap.size) (hn : n ≤ 100) (hnc : n ≤ c) (hlb : ∀ x ∈ l, -1 ≤ x ∧ x ≤ 65535) (h : IsS w s v)
    (C : ∀ w' v', Below w.heap.size w w' → IsS w' s v' → Calls Tryd.prog 30 #[v', .agg #[.int .i64 4, .int .i32 rn, .int .u8 pv, .int .u8 it, .int .u8 fn, .slice Ae n c, .string tx]] w' (GotS w' t)) :
    Calls Tryd.prog 14 #[v, .agg #[.int .i64 4, .int .i32 rn, .int .u8 pv, .int .u8 it, .int .u8 fn, .slice Ae n c, .string tx]] w (GotS w t) := by
  obtain ⟨x, rfl, hg⟩ := h
  obtain ⟨A, cp, rfl⟩ := gv_slice hg
  have HG := hide hg
  have AT := hide (fun w' v' (hb : Below w.heap.size w w') (h : IsS w' s v') => C w' v' hb h)
  clear C
  clear hs hg hl hlb
  go_enter Tryd.func14, Tryd.ntmps14
  go_upto_region 1 with (first | (refine wpList_box_scr rfl _ rfl rfl ?_; intro g w1 hB1 hb1 hg1) | (refine wpList_alloc_scr rfl rfl ?_; intro gR w2 csR hR hsR hb2 hgR))
  have hE1 := Box.new w1 49 #[.int .i64 4, .int .i32 rn, .int .u8 pv, .int .u8 it, .int .u8 fn, .slice Ae n c, .string tx]
  have hbE := hb1.alloc hb1.size (.cells #[.int .i64 4, .int .i32 rn, .int .u8 pv, .int .u8 it, .int .u8 fn, .slice Ae n c, .string tx] 49)
  have hgE : w1.heap.size < (w1.alloc (.cells #[.int .i64 4, .int .i32 rn, .int .u8 pv, .int .u8 it, .int .u8 fn, .slice Ae n c, .string tx] 49)).heap.size := by simp
  have hgB : g < (w1.alloc (.cells #[.int .i64 4, .int .i32 rn, .int .u8 pv, .int .u8 it, .int .u8 fn, .slice Ae n c, .string tx] 49)).heap.size := by have := hB1.lt; omega
  have hgE0 : g ≠ w1.heap.size := by have := hB1.lt; omega
  have hne : gR ≠ g := by have := hgB; omega
  have hneE : gR ≠ w1.heap.size := by have := hgE; omega
  have HB2 := hide ((hB1.alloc (.cells #[.int .i64 4, .int .i32 rn, .int .u8 pv, .int .u8 it, .int .u8 fn, .slice Ae n c, .string tx] 49)).below hb2 hgB)
  have HE2 := hide (hE1.below hb2 hgE)
  have HW2 := hide (hbE.trans (hb2.mono hbE.size))
  have HR2 := hide hR
  have HG2 := hide (HG.out.low HW2.out)
  have hgR' : w.heap.size ≤ gR := by have := hbE.size; omega
  generalize w1.heap.size = gE at HE2 hgE0 hneE ⊢
  clear hE1 hbE hgE hgB hB1 hb1 hb2 hR hgR HG
  have e0 : w2.cell? ⟨gE, 0, none⟩ = some (.int .i64 4) := HE2.out.cell 0
  have e1 : w2.cell? ⟨gE, 1, none⟩ = some (.int .i32 rn) := HE2.out.cell 1
  have e2 : w2.cell? ⟨gE, 2, none⟩ = some (.int .u8 pv) := HE2.out.cell 2
  have e3 : w2.cell? ⟨gE, 3, none⟩ = some (.int .u8 it) := HE2.out.cell 3
  have e4 : w2.cell? ⟨gE, 4, none⟩ = some (.int .u8 fn) := HE2.out.cell 4
  have e5 : w2.cell? ⟨gE, 5, none⟩ = some (.slice Ae n c) := HE2.out.cell 5
  have e6 : w2.cell? ⟨gE, 6, none⟩ = some (.string tx) := HE2.out.cell 6
  go_wp2_with (refine wpList_load_scr HB2.out rfl _ rfl rfl ?_)
  refine (AT.out _ _ HW2.out ⟨_, rfl, HG2.out⟩).mono ?_
  rintro e w7 ⟨v7, rfl, ⟨x7, rfl, hg7⟩, hb7⟩
  obtain ⟨A7, c7, rfl⟩ := gv_slice hg7
  have HR7 := hide (HR2.out.below hb7 HR2.out.lt)
  have HW7 := hide (HW2.out.trans (hb7.mono HW2.out.size))
  have HG7 := hide hg7
  clear e0 e1 e2 e3 e4 e5 e6
  clear hb7 hg7 HB2 HR2 HW2 HG2 HE2
  go_wp2_with (refine wpList_store_scr HR7.out hsR rfl _ _ rfl rfl rfl rfl ?_; intro w8 hB8 hk8 hs8)
  exact bodyPost_ret (results_scr rfl rfl hB8) rfl ⟨_, rfl, ⟨_, rfl, HG7.out.kept HR7.out (by decide) hk8⟩, HW7.out.trans (hk8.toBelow HW7.out.size (fun k hh => by simp at hh; omega))⟩
/-- one mode, on or off -/
theorem rdo_mode (s : SN.Sc) (v : Value) (m fn : Int) (on : Bool) (rn : Int) (Ae : Option Addr) (c B : Nat) (tx : ByteArray) (w : World) (hs : SN.RightS s) (hl : Seen w B Ae 1 (([m] : List Int).map (Value.int .i64))) (hB : B ≤ w.heap.size) (hc : 1 ≤ c) (hm : -1 ≤ m ∧ m ≤ 65535) (hf : (if on = true then (104 : Int) else 108) = fn) (h : IsS w s v) :
    Calls Tryd.prog 14 #[v, .agg #[.int .i64 4, .int .i32 rn, .int .u8 63, .int .u8 0, .int .u8 fn, .slice Ae 1 c, .string tx]] w (GotS w (SN.modeS s m on)) := by
  have hlb : ∀ x ∈ ([m] : List Int), -1 ≤ x ∧ x ≤ 65535 := fun x hx => by
    simp at hx
    subst hx
    exact hm
  cases on with
  | true =>
    obtain rfl : (104 : Int) = fn := hf
    exact rdo_of s _ v rn 63 0 104 Ae 1 c B tx [m] w hs hl hB (by omega) hc hlb h (fun w' v' hb h' => rcsi_h s v' 4 rn Ae 1 c B tx [m] w' hs (hl.below (hb.mono hB)) (Nat.le_trans hB hb.size) (by omega) hc hlb h')
  | false =>
    obtain rfl : (108 : Int) = fn := hf
    exact rdo_of s _ v rn 63 0 108 Ae 1 c B tx [m] w hs hl hB (by omega) hc hlb h (fun w' v' hb h' => rcsi_l s v' 4 rn Ae 1 c B tx [m] w' hs (hl.below (hb.mono hB)) (Nat.le_trans hB hb.size) (by omega) hc hlb h')
end Go.Proofs.YtdcdinlppjlmfaaDoor
