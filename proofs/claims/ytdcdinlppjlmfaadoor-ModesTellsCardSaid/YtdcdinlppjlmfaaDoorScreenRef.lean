/- The document's own Sized, Full. (written by tools/genscreenref.py) The given Screen of numbers. (written by tools/genscreenkeep.py) The given Screen of numbers, told plainly. -/
import Derived.Test.YtdcdinlppjlmfaaDoorScreenVal
import Derived.Test.YtdcdinlppjlmfaaDoorTabsFun
import Derived.Test.YtdcdinlppjlmfaaDoorGridRefNew
import Derived.Test.YtdcdinlppjlmfaaDoorKeepPen
import Derived.Test.YtdcdinlppjlmfaaDoorCellSpec
import Derived.Test.YtdcdinlppjlmfaaDoorKept
import Derived.Deep.DeepCutAuto
set_option maxRecDepth 100000
namespace Go.Proofs.YtdcdinlppjlmfaaDoor
open Go.RowKit
set_option linter.unusedVariables false
theorem min_if (a : Nat) {R : Nat} (h : 1 ≤ R) : (if ((R : Int) - 1 < (a : Int)) then (R : Int) - 1 else (a : Int)) = ((min a (R - 1) : Nat) : Int) := by
  split <;> omega
theorem sized_is (s : SN.Sc) (R K : Nat) (hr : s.row < 1000) (hR : 1 ≤ R) : SN.atS (((((s.uG (PG.resizeG s.g R K)).u6 0).u7 (R - 1)).u11 (TB.news K)).u20 (min s.sv.row (R - 1)) |>.u21 (min s.sv.col (K - 1))) s.row s.col = SN.sized s R K := by
  unfold SN.atS SN.sized SN.pin
  simp only [SN.Sc.uG, SN.Sc.u6, SN.Sc.u7, SN.Sc.u11, SN.Sc.u20, SN.Sc.u21, SN.Sc.u3, SN.Sc.u4, SN.Sc.u5, PG.resizeG]
  congr 1
  · omega
  · omega
set_option maxHeartbeats 4000000 in
theorem rfull_is (R K : Nat) (w : World) (h1 : 1 ≤ R) (h2 : R ≤ 40) (h3 : 1 ≤ K) (h4 : K ≤ 60) :
    Calls Tryd.prog 51 #[.int .i64 R, .int .i64 K] w (GotS w (SN.full R K)) := by
  have RN := hide (fun w' => r_new R K PG.plain w' h2 h4)
  obtain ⟨tb, htb⟩ : ∃ tb, TB.news K = tb := ⟨_, rfl⟩
  obtain ⟨b, hb, hb'⟩ : ∃ b : Nat, (R : Int) - 1 = (b : Int) ∧ R - 1 = b := ⟨R - 1, by omega, rfl⟩
  have TBS := hide (fun w' => rtabs_is K tb htb w' (by omega))
  have EB := hide hb
  have HS := hide (show (⟨PG.newG R K PG.plain, 0, 0, false, 0, b, PG.plain, tb, 66, 66, 0, true, false, true, false, false, ⟨0, 0, PG.plain, 66, 66, 0, false⟩⟩ : SN.Sc) = SN.full R K by unfold SN.full; rw [htb, hb'])
  have HGE := hide (show (SN.full R K).g = PG.newG R K PG.plain from rfl)
  generalize PG.newG R K PG.plain = G at RN HS HGE
  generalize SN.full R K = T at HS HGE ⊢
  clear htb hb hb'
  go_enter Tryd.func51, Tryd.ntmps51
  go_wp2_with (refine wpList_alloc_scr rfl rfl ?_; intro gR w1 csR hR hsR hb1 hgR)
  refine (rplain_any _).mono ?_
  rintro e w2 ⟨rfl, hb2⟩
  have hR2 := hR.below hb2 hR.lt
  have hW2 := hb1.trans (hb2.mono hb1.size)
  simp only [pv, PG.plain]
  clear hR hb1 hb2
  go_wp2_with fail
  refine (RN.out _).mono ?_
  rintro e w3 ⟨v3, rfl, hg3, hb3⟩
  obtain ⟨y, rfl, hown⟩ := hg3
  obtain ⟨A3, c3, rfl⟩ := gv_slice (G := G) ⟨_, rfl, hown⟩
  have HG3 := hide (show IsG w3 G (gv G.rows G.cols (.slice A3 (G.rows * G.cols) c3)) from ⟨_, rfl, hown⟩)
  have hR3 := hR2.below hb3 hR2.lt
  have hW3 := hW2.trans (hb3.mono hW2.size)
  simp only [gv]
  clear hR2 hb3 hW2 hown
  go_wp2_with fail
  refine (rplain_any _).mono ?_
  rintro e w4 ⟨rfl, hb4⟩
  have hR4 := hR3.below hb4 hR3.lt
  have hW4 := hW3.trans (hb4.mono hW3.size)
  have HG4 := hide (HG3.out.low hb4)
  simp only [pv, PG.plain, EB.out]
  clear hR3 hb4 hW3 HG3
  go_wp2_with fail
  refine (TBS.out _).mono ?_
  rintro e w' ⟨rfl, rfl⟩
  go_wp2_with fail
  refine (rplain_any _).mono ?_
  rintro e w5 ⟨rfl, hb5⟩
  have hR5 := hR4.below hb5 hR4.lt
  have hW5 := hW4.trans (hb5.mono hW4.size)
  have HG5 := hide (HG4.out.low hb5)
  simp only [pv, PG.plain]
  clear hR4 hb5 hW4 HG4
  go_wp2_with (first | (refine wpList_build_scr (x := .slice A3 (G.rows * G.cols) c3) (s := ⟨G, 0, 0, false, 0, b, PG.plain, tb, 66, 66, 0, true, false, true, false, false, ⟨0, 0, PG.plain, 66, 66, 0, false⟩⟩) rfl _ rfl (by kernel_rfl) ?_) | (refine wpList_store_scr hR5 hsR rfl _ _ rfl rfl rfl rfl ?_; intro w8 hB8 hk8 hs8))
  refine bodyPost_ret (results_scr rfl rfl hB8) rfl ⟨_, rfl, ⟨_, by rw [HS.out], ?_⟩, hW5.trans (hk8.toBelow hW5.size (fun k hk => by simp at hk; omega))⟩
  rw [HGE.out]
  exact HG5.out.kept hR5 (by decide) hk8
end Go.Proofs.YtdcdinlppjlmfaaDoor
set_option maxRecDepth 100000
namespace Go.Proofs.YtdcdinlppjlmfaaDoor
open Go.RowKit
set_option linter.unusedVariables false
set_option maxHeartbeats 8000000 in
theorem keepScreen_t (kr kc kt kb kf ka kg kh pa pb pf : Int) (qa qb qf : Int) (rr rc b d tp bt vr vc : Nat) (f8 f0 f1 f2 f3 f4 f5 f6 f7 lc : Bool) (K0 K1 K2 K3 : Value) (tabs : Nat) (G : PG.Gr) (T : SN.Sc) (w : World) (hG : PG.RightG G) (hR40 : G.rows ≤ 40) (hK60 : G.cols ≤ 60) (hR1 : 1 ≤ G.rows) (hK1 : 1 ≤ G.cols) (htp : tp ≤ 1000) (hbt : bt ≤ 1000) (hrr : rr ≤ 1000) (hrc : rc ≤ 1000) (HB0 : Hid ((bits .and .i64 kf 1 == 0) = f0)) (HB1 : Hid ((bits .and .i64 kf 2 == 2) = f1)) (HB2 : Hid ((bits .and .i64 kf 4 == 0) = f2)) (HB3 : Hid ((bits .and .i64 kf 8 == 8) = f3)) (HB4 : Hid ((bits .and .i64 kf 16 == 16) = f4)) (HB5 : Hid ((bits .and .i64 kf 32 == 32) = f5)) (HB6 : Hid ((bits .and .i64 kf 64 == 64) = f6)) (HB7 : Hid ((bits .and .i64 kf 128 == 128) = f7)) (HB8 : Hid ((bits .and .i64 kf 256 == 256) = f8)) (HFT : Hid (((((((((((((⟨G, rr, rc, false, 0, b, (pa, pb, pf), tabs, 66, 66, 0, false, false, false, false, false, ⟨0, 0, (0, 0, 0), 0, 0, 0, false⟩⟩ : SN.Sc).u6 tp).u7 bt).u15 f0).u16 f1).u17 f2).u18 f3).u19 f4).u5 (f0 && lc && f5)).u12 (if f6 = true then 48 else 66)).u14 (if f7 = true then 1 else 0)).uV ⟨vr, vc, (qa, qb, qf), 66, 48, 0, f8⟩) = T)) (HLC : Hid (((rc : Int) == (G.cols : Int) - 1) = lc))
    (EB : Hid ((G.rows : Int) - 1 = (b : Int))) (ED : Hid ((G.cols : Int) - 1 = (d : Int))) (EBW : Hid (IntKind.i64.wrap ((G.rows : Int) - 1) = (b : Int))) (EDW : Hid (IntKind.i64.wrap ((G.cols : Int) - 1) = (d : Int)))
    (HT : Hid ((1 < G.rows → (∀ w', Calls Tryd.prog 13 #[.int .i64 kt, .int .i64 0, .int .i64 ((G.rows : Int) - 2)] w' fun e w'' => e = .returned (.int .i64 (tp : Nat)) ∧ w' = w'') ∧ (∀ w', Calls Tryd.prog 13 #[.int .i64 kb, .int .i64 ((tp : Int) + 1), .int .i64 ((G.rows : Int) - 1)] w' fun e w'' => e = .returned (.int .i64 (bt : Nat)) ∧ w' = w'')) ∧ (¬ 1 < G.rows → tp = 0 ∧ bt = b)))
    (WR : Hid (∀ w', Calls Tryd.prog 13 #[.int .i64 kr, .int .i64 0, .int .i64 (b : Nat)] w' fun e w'' => e = .returned (.int .i64 (rr : Nat)) ∧ w' = w''))
    (WC : Hid (∀ w', Calls Tryd.prog 13 #[.int .i64 kc, .int .i64 0, .int .i64 (d : Nat)] w' fun e w'' => e = .returned (.int .i64 (rc : Nat)) ∧ w' = w''))
    (VR : Hid (∀ w', Calls Tryd.prog 13 #[.int .i64 kc, .int .i64 0, .int .i64 (b : Nat)] w' fun e w'' => e = .returned (.int .i64 (vr : Nat)) ∧ w' = w''))
    (VC : Hid (∀ w', Calls Tryd.prog 13 #[.int .i64 kr, .int .i64 0, .int .i64 (d : Nat)] w' fun e w'' => e = .returned (.int .i64 (vc : Nat)) ∧ w' = w''))
    (KQ : Hid (∀ w', Calls Tryd.prog 26 #[.agg #[.int .i64 kf, .int .i64 0, .int .i64 0]] w' fun e w'' => e = .returned (.agg #[.int .i64 qa, .int .i64 qb, .int .i64 qf]) ∧ Below w'.heap.size w' w''))
    (KP : Hid (∀ w', Calls Tryd.prog 26 #[.agg #[.int .i64 ka, .int .i64 kg, .int .i64 kh]] w' fun e w'' => e = .returned (.agg #[.int .i64 pa, .int .i64 pb, .int .i64 pf]) ∧ Below w'.heap.size w' w''))
    (KG : Hid (∀ w', Below w.heap.size w w' → Calls Tryd.prog 25 #[.agg #[K0, K1, K2, K3]] w' (GotG w' G))) :
    Calls Tryd.prog 12 #[.agg #[K0, K1, K2, K3, .int .i64 kr, .int .i64 kc, .int .i64 kt, .int .i64 kb, .int .i64 kf, .int .i64 ka, .int .i64 kg, .int .i64 kh, .int .u64 tabs]] w (GotS w T) := by
  have HK0 := hide (Box.new w 44 #[K0, K1, K2, K3, .int .i64 kr, .int .i64 kc, .int .i64 kt, .int .i64 kb, .int .i64 kf, .int .i64 ka, .int .i64 kg, .int .i64 kh, .int .u64 tabs])
  have HW0 := hide ((Below.refl w.heap.size w).alloc (Nat.le_refl _) (.cells #[K0, K1, K2, K3, .int .i64 kr, .int .i64 kc, .int .i64 kt, .int .i64 kb, .int .i64 kf, .int .i64 ka, .int .i64 kg, .int .i64 kh, .int .u64 tabs] 44))
  go_enter Tryd.func12, Tryd.ntmps12
  go_upto_region 1 with (refine wpList_alloc_scr rfl rfl ?_; intro gR w2 csR hR hsR hb2 hgR)
  have HK2 := hide (HK0.out.below hb2 HK0.out.lt)
  have HW2 := hide (HW0.out.trans (hb2.mono HW0.out.size))
  have hgRw : w.heap.size < gR := by have := HK0.out.lt; omega
  generalize w.alloc (.cells #[K0, K1, K2, K3, .int .i64 kr, .int .i64 kc, .int .i64 kt, .int .i64 kb, .int .i64 kf, .int .i64 ka, .int .i64 kg, .int .i64 kh, .int .u64 tabs] 44) = w1 at *
  have hk0 := HK2.out.cell 0
  have hk1 := HK2.out.cell 1
  have hk2 := HK2.out.cell 2
  have hk3 := HK2.out.cell 3
  clear hb2 hgR
  go_wp2_with fail
  refine (KG.out _ HW2.out).mono ?_
  rintro e w3 ⟨v3, rfl, hg3, hb3⟩
  obtain ⟨y, rfl, hown⟩ := hg3
  obtain ⟨A3, c3, rfl⟩ := gv_slice (G := G) ⟨_, rfl, hown⟩
  simp only [gv]
  go_upto_region 2 with fail
  have HG3 := hide (show IsG w3 G (gv G.rows G.cols (.slice A3 (G.rows * G.cols) c3)) from ⟨_, rfl, hown⟩)
  have HGb4 := hide (Box.new w3 24 #[.int .i64 (G.rows : Nat), .int .i64 (G.cols : Nat), .slice A3 (G.rows * G.cols) c3])
  have HK4 := hide ((HK2.out.below hb3 HK2.out.lt).alloc (.cells #[.int .i64 (G.rows : Nat), .int .i64 (G.cols : Nat), .slice A3 (G.rows * G.cols) c3] 24))
  have HR4 := hide ((hR.below hb3 hR.lt).alloc (.cells #[.int .i64 (G.rows : Nat), .int .i64 (G.cols : Nat), .slice A3 (G.rows * G.cols) c3] 24))
  have hw3 := HW2.out.trans (hb3.mono HW2.out.size)
  have HW4 := hide (hw3.alloc hw3.size (.cells #[.int .i64 (G.rows : Nat), .int .i64 (G.cols : Nat), .slice A3 (G.rows * G.cols) c3] 24))
  have HG4 := hide (HG3.out.low ((Below.refl _ w3).alloc (Nat.le_refl _) (.cells #[.int .i64 (G.rows : Nat), .int .i64 (G.cols : Nat), .slice A3 (G.rows * G.cols) c3] 24)))
  have hgGR : gR < w3.heap.size := Nat.lt_of_lt_of_le hR.lt hb3.size
  generalize hgG : w3.heap.size = gG at *
  generalize w3.alloc (.cells #[.int .i64 (G.rows : Nat), .int .i64 (G.cols : Nat), .slice A3 (G.rows * G.cols) c3] 24) = w4 at HGb4 HK4 HR4 HW4 HG4 ⊢
  clear hgG hw3 hown hb3 HG3 hk0 hk1 hk2 hk3 HK0 HW0 HK2 HW2 hR KG
  go_cut [4] from 9 to 31 (fun u wx => ∃ gS, u = .pointer (some ⟨gS, 0, none⟩) ∧ w4.heap.size ≤ gS ∧ SBox wx gS (.slice A3 (G.rows * G.cols) c3) ⟨G, rr, rc, false, 0, b, (pa, pb, pf), tabs, 66, 66, 0, false, false, false, false, false, ⟨0, 0, (0, 0, 0), 0, 0, 0, false⟩⟩ ∧ Below w4.heap.size w4 wx)
  case first =>
    refine wp_region_gt (n := 122) 24 [] (fun _ => #[]) [(0, 0, 0, 0, 0), (0, 0, 0, 0, 0), (0, 0, 0, 0, 0), (0, 0, 0, 0, 0), (0, 0, 0, 0, 0), (0, 0, 0, 0, 0), (0, 0, 0, 0, 0), (0, 0, 0, 0, 0), (0, 0, 0, 0, 0), (0, 0, 0, 0, 0), (0, 0, 0, 0, 0), (0, 0, 0, 0, 0), (0, 0, 0, 0, 0), (0, 0, 0, 0, 0), (0, 0, 0, 0, 0), (0, 0, 0, 0, 0), (0, 0, 0, 0, 0), (0, 0, 0, 0, 0), (0, 0, 0, 0, 0), (0, 0, 0, 0, 0), (0, 0, 0, 0, 0), (0, 0, 0, 0, 0), (0, 0, 0, 0, 0), (2, 0, 0, 32, 29), (0, 0, 0, 0, 0)] (fun j => [(.agg #[.int .i64 (G.rows : Nat), .int .i64 (G.cols : Nat), .slice A3 (G.rows * G.cols) c3]), (.pointer (some ⟨w.heap.size, 4, none⟩)), (.int .i64 kr), (.pointer (some ⟨gG, 0, none⟩)), (.int .i64 (G.rows : Nat)), (.int .i64 (b : Nat)), (.int .i64 (rr : Nat)), (.pointer (some ⟨w.heap.size, 5, none⟩)), (.int .i64 kc), (.pointer (some ⟨gG, 1, none⟩)), (.int .i64 (G.cols : Nat)), (.int .i64 (d : Nat)), (.int .i64 (rc : Nat)), (.pointer (some ⟨gG, 0, none⟩)), (.int .i64 (G.rows : Nat)), (.int .i64 (b : Nat)), (.pointer (some ⟨w.heap.size, 9, none⟩)), (.agg #[.int .i64 ka, .int .i64 kg, .int .i64 kh]), (.agg #[.int .i64 pa, .int .i64 pb, .int .i64 pf]), (.pointer (some ⟨w.heap.size, 12, none⟩)), (.int .u64 (tabs : Nat)), (.agg #[.int .u8 66, .int .u8 66]), (.agg (scA (.slice A3 (G.rows * G.cols) c3) ⟨G, rr, rc, false, 0, b, (pa, pb, pf), tabs, 66, 66, 0, false, false, false, false, false, ⟨0, 0, (0, 0, 0), 0, 0, 0, false⟩⟩)), undef, undef].getD j undef) [] (fun _ => 0) (by kernel_rfl) (by kernel_rfl) (by kernel_rfl) rfl (by kernel_rfl) (by kernel_rfl) (gno4 rfl) (fun i j h => by revert h; exact gno4 (p := fun _ => _) rfl i) (AllG.nil _) (fun hGS => cases24 ⟨?_, ?_, ?_, ?_, ?_, ?_, ?_, ?_, ?_, ?_, ?_, ?_, ?_, ?_, ?_, ?_, ?_, ?_, ?_, ?_, ?_, ?_, ?_, ?_⟩) ?_
    · intro L a w' hL hsame hsz hJ hdep hcl
      have hb := hJ.kept.toBelow (Nat.le_refl _) (by simp)
      have e0 : a.eval (.tmp 3) = (.pointer (some ⟨gG, 0, none⟩)) := eval_base hsame (by kernel_rfl)
      have hx := hJ.keptBox (HGb4.out) (by simp)
      have q0 : w'.cell? ⟨gG, 0, none⟩ = some (.int .i64 (G.rows : Nat)) := hx.cell 0
      have q1 : w'.cell? ⟨gG, 1, none⟩ = some (.int .i64 (G.cols : Nat)) := hx.cell 1
      have q2 : w'.cell? ⟨gG, 2, none⟩ = some (.slice A3 (G.rows * G.cols) c3) := hx.cell 2
      refine Step.val _ rfl rfl (wanted_none rfl) (.agg #[.int .i64 (G.rows : Nat), .int .i64 (G.cols : Nat), .slice A3 (G.rows * G.cols) c3]) w' (fun ρ hρ => ?_) (hJ.val hGS hcl hL rfl (Below.refl _ _) _ rfl)
      clear hx
      rw [hρ] at e0
      clear hJ hsame hdep hcl hρ hsz hb
      go_simp
    · intro L a w' hL hsame hsz hJ hdep hcl
      have hb := hJ.kept.toBelow (Nat.le_refl _) (by simp)
      have e0 : a.eval (.tmp 1) = (.pointer (some ⟨w.heap.size, 0, none⟩)) := eval_base hsame (by kernel_rfl)
      refine Step.val _ rfl rfl (wanted_none rfl) (.pointer (some ⟨w.heap.size, 4, none⟩)) w' (fun ρ hρ => ?_) (hJ.val hGS hcl hL rfl (Below.refl _ _) _ rfl)
      rw [hρ] at e0
      clear hJ hsame hdep hcl hρ hsz hb
      go_simp
    · intro L a w' hL hsame hsz hJ hdep hcl
      have hb := hJ.kept.toBelow (Nat.le_refl _) (by simp)
      have e0 : a.eval (.tmp 10) = (.pointer (some ⟨w.heap.size, 4, none⟩)) := eval_slot (j := 1) (by kernel_rfl) (hJ.valOf (by decide) (dep_of hdep 1 (by kernel_rfl)) rfl rfl)
      have hx := hJ.keptBox (HK4.out) (by simp)
      have q0 : w'.cell? ⟨w.heap.size, 4, none⟩ = some (.int .i64 kr) := hx.cell 4
      refine Step.val _ rfl rfl (wanted_none rfl) (.int .i64 kr) w' (fun ρ hρ => ?_) (hJ.val hGS hcl hL rfl (Below.refl _ _) _ rfl)
      clear hx
      rw [hρ] at e0
      clear hJ hsame hdep hcl hρ hsz hb
      go_simp
    · intro L a w' hL hsame hsz hJ hdep hcl
      have hb := hJ.kept.toBelow (Nat.le_refl _) (by simp)
      have e0 : a.eval (.tmp 3) = (.pointer (some ⟨gG, 0, none⟩)) := eval_base hsame (by kernel_rfl)
      refine Step.val _ rfl rfl (wanted_none rfl) (.pointer (some ⟨gG, 0, none⟩)) w' (fun ρ hρ => ?_) (hJ.val hGS hcl hL rfl (Below.refl _ _) _ rfl)
      rw [hρ] at e0
      clear hJ hsame hdep hcl hρ hsz hb
      go_simp
    · intro L a w' hL hsame hsz hJ hdep hcl
      have hb := hJ.kept.toBelow (Nat.le_refl _) (by simp)
      have e0 : a.eval (.tmp 12) = (.pointer (some ⟨gG, 0, none⟩)) := eval_slot (j := 3) (by kernel_rfl) (hJ.valOf (by decide) (dep_of hdep 3 (by kernel_rfl)) rfl rfl)
      have hx := hJ.keptBox (HGb4.out) (by simp)
      have q0 : w'.cell? ⟨gG, 0, none⟩ = some (.int .i64 (G.rows : Nat)) := hx.cell 0
      refine Step.val _ rfl rfl (wanted_none rfl) (.int .i64 (G.rows : Nat)) w' (fun ρ hρ => ?_) (hJ.val hGS hcl hL rfl (Below.refl _ _) _ rfl)
      clear hx
      rw [hρ] at e0
      clear hJ hsame hdep hcl hρ hsz hb
      go_simp
    · intro L a w' hL hsame hsz hJ hdep hcl
      have hb := hJ.kept.toBelow (Nat.le_refl _) (by simp)
      have e0 : a.eval (.tmp 13) = (.int .i64 (G.rows : Nat)) := eval_slot (j := 4) (by kernel_rfl) (hJ.valOf (by decide) (dep_of hdep 4 (by kernel_rfl)) rfl rfl)
      refine Step.val _ rfl rfl (wanted_none rfl) (.int .i64 (b : Nat)) w' (fun ρ hρ => ?_) (hJ.val hGS hcl hL rfl (Below.refl _ _) _ rfl)
      rw [hρ] at e0
      have ec0 : ρ (.const (.int .i64 1)) = (.int .i64 1) := (hρ _).symm
      clear hJ hsame hdep hcl hρ hsz hb
      go_simp
      exact EBW.out
    · intro L a w' hL hsame hsz hJ hdep hcl
      have hb := hJ.kept.toBelow (Nat.le_refl _) (by simp)
      have e0 : a.eval (.tmp 11) = (.int .i64 kr) := eval_slot (j := 2) (by kernel_rfl) (hJ.valOf (by decide) (dep_of hdep 2 (by kernel_rfl)) rfl rfl)
      have e2 : a.eval (.tmp 14) = (.int .i64 (b : Nat)) := eval_slot (j := 5) (by kernel_rfl) (hJ.valOf (by decide) (dep_of hdep 5 (by kernel_rfl)) rfl rfl)
      refine Step.call _ rfl rfl (wanted_none rfl) 13 #[.int .i64 kr, .int .i64 0, .int .i64 (b : Nat)] (fun ρ hρ => ?_) ?_
      · skip
        rw [hρ] at e0 e2
        have ec0 : ρ (.const (.int .i64 0)) = (.int .i64 0) := (hρ _).symm
        have ef : ρ (.func 13) = .func (.func 13) #[] #[] := (hρ _).symm
        clear hJ hsame hdep hcl hρ hsz hb
        go_simp
      · refine (WR.out _).mono ?_
        rintro e w2 ⟨rfl, rfl⟩
        exact ⟨_, rfl, hJ.val hGS hcl hL rfl (Below.refl _ _) _ rfl⟩
    · intro L a w' hL hsame hsz hJ hdep hcl
      have hb := hJ.kept.toBelow (Nat.le_refl _) (by simp)
      have e0 : a.eval (.tmp 1) = (.pointer (some ⟨w.heap.size, 0, none⟩)) := eval_base hsame (by kernel_rfl)
      refine Step.val _ rfl rfl (wanted_none rfl) (.pointer (some ⟨w.heap.size, 5, none⟩)) w' (fun ρ hρ => ?_) (hJ.val hGS hcl hL rfl (Below.refl _ _) _ rfl)
      rw [hρ] at e0
      clear hJ hsame hdep hcl hρ hsz hb
      go_simp
    · intro L a w' hL hsame hsz hJ hdep hcl
      have hb := hJ.kept.toBelow (Nat.le_refl _) (by simp)
      have e0 : a.eval (.tmp 16) = (.pointer (some ⟨w.heap.size, 5, none⟩)) := eval_slot (j := 7) (by kernel_rfl) (hJ.valOf (by decide) (dep_of hdep 7 (by kernel_rfl)) rfl rfl)
      have hx := hJ.keptBox (HK4.out) (by simp)
      have q0 : w'.cell? ⟨w.heap.size, 5, none⟩ = some (.int .i64 kc) := hx.cell 5
      refine Step.val _ rfl rfl (wanted_none rfl) (.int .i64 kc) w' (fun ρ hρ => ?_) (hJ.val hGS hcl hL rfl (Below.refl _ _) _ rfl)
      clear hx
      rw [hρ] at e0
      clear hJ hsame hdep hcl hρ hsz hb
      go_simp
    · intro L a w' hL hsame hsz hJ hdep hcl
      have hb := hJ.kept.toBelow (Nat.le_refl _) (by simp)
      have e0 : a.eval (.tmp 3) = (.pointer (some ⟨gG, 0, none⟩)) := eval_base hsame (by kernel_rfl)
      refine Step.val _ rfl rfl (wanted_none rfl) (.pointer (some ⟨gG, 1, none⟩)) w' (fun ρ hρ => ?_) (hJ.val hGS hcl hL rfl (Below.refl _ _) _ rfl)
      rw [hρ] at e0
      clear hJ hsame hdep hcl hρ hsz hb
      go_simp
    · intro L a w' hL hsame hsz hJ hdep hcl
      have hb := hJ.kept.toBelow (Nat.le_refl _) (by simp)
      have e0 : a.eval (.tmp 18) = (.pointer (some ⟨gG, 1, none⟩)) := eval_slot (j := 9) (by kernel_rfl) (hJ.valOf (by decide) (dep_of hdep 9 (by kernel_rfl)) rfl rfl)
      have hx := hJ.keptBox (HGb4.out) (by simp)
      have q0 : w'.cell? ⟨gG, 1, none⟩ = some (.int .i64 (G.cols : Nat)) := hx.cell 1
      refine Step.val _ rfl rfl (wanted_none rfl) (.int .i64 (G.cols : Nat)) w' (fun ρ hρ => ?_) (hJ.val hGS hcl hL rfl (Below.refl _ _) _ rfl)
      clear hx
      rw [hρ] at e0
      clear hJ hsame hdep hcl hρ hsz hb
      go_simp
    · intro L a w' hL hsame hsz hJ hdep hcl
      have hb := hJ.kept.toBelow (Nat.le_refl _) (by simp)
      have e0 : a.eval (.tmp 19) = (.int .i64 (G.cols : Nat)) := eval_slot (j := 10) (by kernel_rfl) (hJ.valOf (by decide) (dep_of hdep 10 (by kernel_rfl)) rfl rfl)
      refine Step.val _ rfl rfl (wanted_none rfl) (.int .i64 (d : Nat)) w' (fun ρ hρ => ?_) (hJ.val hGS hcl hL rfl (Below.refl _ _) _ rfl)
      rw [hρ] at e0
      have ec0 : ρ (.const (.int .i64 1)) = (.int .i64 1) := (hρ _).symm
      clear hJ hsame hdep hcl hρ hsz hb
      go_simp
      exact EDW.out
    · intro L a w' hL hsame hsz hJ hdep hcl
      have hb := hJ.kept.toBelow (Nat.le_refl _) (by simp)
      have e0 : a.eval (.tmp 17) = (.int .i64 kc) := eval_slot (j := 8) (by kernel_rfl) (hJ.valOf (by decide) (dep_of hdep 8 (by kernel_rfl)) rfl rfl)
      have e2 : a.eval (.tmp 20) = (.int .i64 (d : Nat)) := eval_slot (j := 11) (by kernel_rfl) (hJ.valOf (by decide) (dep_of hdep 11 (by kernel_rfl)) rfl rfl)
      refine Step.call _ rfl rfl (wanted_none rfl) 13 #[.int .i64 kc, .int .i64 0, .int .i64 (d : Nat)] (fun ρ hρ => ?_) ?_
      · skip
        rw [hρ] at e0 e2
        have ec0 : ρ (.const (.int .i64 0)) = (.int .i64 0) := (hρ _).symm
        have ef : ρ (.func 13) = .func (.func 13) #[] #[] := (hρ _).symm
        clear hJ hsame hdep hcl hρ hsz hb
        go_simp
      · refine (WC.out _).mono ?_
        rintro e w2 ⟨rfl, rfl⟩
        exact ⟨_, rfl, hJ.val hGS hcl hL rfl (Below.refl _ _) _ rfl⟩
    · intro L a w' hL hsame hsz hJ hdep hcl
      have hb := hJ.kept.toBelow (Nat.le_refl _) (by simp)
      have e0 : a.eval (.tmp 3) = (.pointer (some ⟨gG, 0, none⟩)) := eval_base hsame (by kernel_rfl)
      refine Step.val _ rfl rfl (wanted_none rfl) (.pointer (some ⟨gG, 0, none⟩)) w' (fun ρ hρ => ?_) (hJ.val hGS hcl hL rfl (Below.refl _ _) _ rfl)
      rw [hρ] at e0
      clear hJ hsame hdep hcl hρ hsz hb
      go_simp
    · intro L a w' hL hsame hsz hJ hdep hcl
      have hb := hJ.kept.toBelow (Nat.le_refl _) (by simp)
      have e0 : a.eval (.tmp 22) = (.pointer (some ⟨gG, 0, none⟩)) := eval_slot (j := 13) (by kernel_rfl) (hJ.valOf (by decide) (dep_of hdep 13 (by kernel_rfl)) rfl rfl)
      have hx := hJ.keptBox (HGb4.out) (by simp)
      have q0 : w'.cell? ⟨gG, 0, none⟩ = some (.int .i64 (G.rows : Nat)) := hx.cell 0
      refine Step.val _ rfl rfl (wanted_none rfl) (.int .i64 (G.rows : Nat)) w' (fun ρ hρ => ?_) (hJ.val hGS hcl hL rfl (Below.refl _ _) _ rfl)
      clear hx
      rw [hρ] at e0
      clear hJ hsame hdep hcl hρ hsz hb
      go_simp
    · intro L a w' hL hsame hsz hJ hdep hcl
      have hb := hJ.kept.toBelow (Nat.le_refl _) (by simp)
      have e0 : a.eval (.tmp 23) = (.int .i64 (G.rows : Nat)) := eval_slot (j := 14) (by kernel_rfl) (hJ.valOf (by decide) (dep_of hdep 14 (by kernel_rfl)) rfl rfl)
      refine Step.val _ rfl rfl (wanted_none rfl) (.int .i64 (b : Nat)) w' (fun ρ hρ => ?_) (hJ.val hGS hcl hL rfl (Below.refl _ _) _ rfl)
      rw [hρ] at e0
      have ec0 : ρ (.const (.int .i64 1)) = (.int .i64 1) := (hρ _).symm
      clear hJ hsame hdep hcl hρ hsz hb
      go_simp
      exact EBW.out
    · intro L a w' hL hsame hsz hJ hdep hcl
      have hb := hJ.kept.toBelow (Nat.le_refl _) (by simp)
      have e0 : a.eval (.tmp 1) = (.pointer (some ⟨w.heap.size, 0, none⟩)) := eval_base hsame (by kernel_rfl)
      refine Step.val _ rfl rfl (wanted_none rfl) (.pointer (some ⟨w.heap.size, 9, none⟩)) w' (fun ρ hρ => ?_) (hJ.val hGS hcl hL rfl (Below.refl _ _) _ rfl)
      rw [hρ] at e0
      clear hJ hsame hdep hcl hρ hsz hb
      go_simp
    · intro L a w' hL hsame hsz hJ hdep hcl
      have hb := hJ.kept.toBelow (Nat.le_refl _) (by simp)
      have e0 : a.eval (.tmp 25) = (.pointer (some ⟨w.heap.size, 9, none⟩)) := eval_slot (j := 16) (by kernel_rfl) (hJ.valOf (by decide) (dep_of hdep 16 (by kernel_rfl)) rfl rfl)
      have hx := hJ.keptBox (HK4.out) (by simp)
      have q0 : w'.cell? ⟨w.heap.size, 9, none⟩ = some (.int .i64 ka) := hx.cell 9
      have q1 : w'.cell? ⟨w.heap.size, 10, none⟩ = some (.int .i64 kg) := hx.cell 10
      have q2 : w'.cell? ⟨w.heap.size, 11, none⟩ = some (.int .i64 kh) := hx.cell 11
      refine Step.val _ rfl rfl (wanted_none rfl) (.agg #[.int .i64 ka, .int .i64 kg, .int .i64 kh]) w' (fun ρ hρ => ?_) (hJ.val hGS hcl hL rfl (Below.refl _ _) _ rfl)
      clear hx
      rw [hρ] at e0
      clear hJ hsame hdep hcl hρ hsz hb
      go_simp
    · intro L a w' hL hsame hsz hJ hdep hcl
      have hb := hJ.kept.toBelow (Nat.le_refl _) (by simp)
      have e0 : a.eval (.tmp 26) = (.agg #[.int .i64 ka, .int .i64 kg, .int .i64 kh]) := eval_slot (j := 17) (by kernel_rfl) (hJ.valOf (by decide) (dep_of hdep 17 (by kernel_rfl)) rfl rfl)
      refine Step.call _ rfl rfl (wanted_none rfl) 26 #[.agg #[.int .i64 ka, .int .i64 kg, .int .i64 kh]] (fun ρ hρ => ?_) ?_
      · skip
        rw [hρ] at e0
        have ef : ρ (.func 26) = .func (.func 26) #[] #[] := (hρ _).symm
        clear hJ hsame hdep hcl hρ hsz hb
        go_simp
      · refine (KP.out _).mono ?_
        rintro e w2 ⟨rfl, bb⟩
        exact ⟨_, rfl, hJ.val hGS hcl hL rfl bb _ rfl⟩
    · intro L a w' hL hsame hsz hJ hdep hcl
      have hb := hJ.kept.toBelow (Nat.le_refl _) (by simp)
      have e0 : a.eval (.tmp 1) = (.pointer (some ⟨w.heap.size, 0, none⟩)) := eval_base hsame (by kernel_rfl)
      refine Step.val _ rfl rfl (wanted_none rfl) (.pointer (some ⟨w.heap.size, 12, none⟩)) w' (fun ρ hρ => ?_) (hJ.val hGS hcl hL rfl (Below.refl _ _) _ rfl)
      rw [hρ] at e0
      clear hJ hsame hdep hcl hρ hsz hb
      go_simp
    · intro L a w' hL hsame hsz hJ hdep hcl
      have hb := hJ.kept.toBelow (Nat.le_refl _) (by simp)
      have e0 : a.eval (.tmp 28) = (.pointer (some ⟨w.heap.size, 12, none⟩)) := eval_slot (j := 19) (by kernel_rfl) (hJ.valOf (by decide) (dep_of hdep 19 (by kernel_rfl)) rfl rfl)
      have hx := hJ.keptBox (HK4.out) (by simp)
      have q0 : w'.cell? ⟨w.heap.size, 12, none⟩ = some (.int .u64 (tabs : Nat)) := hx.cell 12
      refine Step.val _ rfl rfl (wanted_none rfl) (.int .u64 (tabs : Nat)) w' (fun ρ hρ => ?_) (hJ.val hGS hcl hL rfl (Below.refl _ _) _ rfl)
      clear hx
      rw [hρ] at e0
      clear hJ hsame hdep hcl hρ hsz hb
      go_simp
    · intro L a w' hL hsame hsz hJ hdep hcl
      have hb := hJ.kept.toBelow (Nat.le_refl _) (by simp)
      refine Step.val _ rfl rfl (wanted_none rfl) (.agg #[.int .u8 66, .int .u8 66]) w' (fun ρ hρ => ?_) (hJ.val hGS hcl hL rfl (Below.refl _ _) _ rfl)
      have ec0 : ρ (.const (.int .u8 66)) = (.int .u8 66) := (hρ _).symm
      clear hJ hsame hdep hcl hρ hsz hb
      go_simp
    · intro L a w' hL hsame hsz hJ hdep hcl
      have hb := hJ.kept.toBelow (Nat.le_refl _) (by simp)
      have e0 : a.eval (.tmp 9) = (.agg #[.int .i64 (G.rows : Nat), .int .i64 (G.cols : Nat), .slice A3 (G.rows * G.cols) c3]) := eval_slot (j := 0) (by kernel_rfl) (hJ.valOf (by decide) (dep_of hdep 0 (by kernel_rfl)) rfl rfl)
      have e1 : a.eval (.tmp 15) = (.int .i64 (rr : Nat)) := eval_slot (j := 6) (by kernel_rfl) (hJ.valOf (by decide) (dep_of hdep 6 (by kernel_rfl)) rfl rfl)
      have e2 : a.eval (.tmp 21) = (.int .i64 (rc : Nat)) := eval_slot (j := 12) (by kernel_rfl) (hJ.valOf (by decide) (dep_of hdep 12 (by kernel_rfl)) rfl rfl)
      have e3 : a.eval (.tmp 24) = (.int .i64 (b : Nat)) := eval_slot (j := 15) (by kernel_rfl) (hJ.valOf (by decide) (dep_of hdep 15 (by kernel_rfl)) rfl rfl)
      have e4 : a.eval (.tmp 27) = (.agg #[.int .i64 pa, .int .i64 pb, .int .i64 pf]) := eval_slot (j := 18) (by kernel_rfl) (hJ.valOf (by decide) (dep_of hdep 18 (by kernel_rfl)) rfl rfl)
      have e5 : a.eval (.tmp 29) = (.int .u64 (tabs : Nat)) := eval_slot (j := 20) (by kernel_rfl) (hJ.valOf (by decide) (dep_of hdep 20 (by kernel_rfl)) rfl rfl)
      have e6 : a.eval (.tmp 30) = (.agg #[.int .u8 66, .int .u8 66]) := eval_slot (j := 21) (by kernel_rfl) (hJ.valOf (by decide) (dep_of hdep 21 (by kernel_rfl)) rfl rfl)
      refine Step.val _ rfl rfl (wanted_none rfl) (.agg (scA (.slice A3 (G.rows * G.cols) c3) ⟨G, rr, rc, false, 0, b, (pa, pb, pf), tabs, 66, 66, 0, false, false, false, false, false, ⟨0, 0, (0, 0, 0), 0, 0, 0, false⟩⟩)) w' (fun ρ hρ => ?_) (hJ.val hGS hcl hL rfl (Below.refl _ _) _ rfl)
      rw [hρ] at e0 e1 e2 e3 e4 e5 e6
      clear hJ hsame hdep hcl hρ hsz hb
      go_simp
      rfl
    · intro L a w' hL hsame hsz hJ hdep hcl
      have hb := hJ.kept.toBelow (Nat.le_refl _) (by simp)
      refine Step.val _ rfl rfl (wanted_none rfl) (.pointer (some ⟨w'.heap.size, 0, none⟩)) (w'.alloc (.cells #[.int .i64 0, .int .i64 0, .slice none 0 0, .int .i64 0, .int .i64 0, .bool false, .int .i64 0, .int .i64 0, .int .i64 0, .int .i64 0, .int .i64 0, .int .u64 0, .int .u8 0, .int .u8 0, .int .i64 0, .bool false, .bool false, .bool false, .bool false, .bool false, .int .i64 0, .int .i64 0, .int .i64 0, .int .i64 0, .int .i64 0, .int .u8 0, .int .u8 0, .int .i64 0, .bool false] 32)) (fun ρ hρ => ?_) (hJ.box hGS hcl hL rfl 32 rfl #[.int .i64 0, .int .i64 0, .slice none 0 0, .int .i64 0, .int .i64 0, .bool false, .int .i64 0, .int .i64 0, .int .i64 0, .int .i64 0, .int .i64 0, .int .u64 0, .int .u8 0, .int .u8 0, .int .i64 0, .bool false, .bool false, .bool false, .bool false, .bool false, .int .i64 0, .int .i64 0, .int .i64 0, .int .i64 0, .int .i64 0, .int .u8 0, .int .u8 0, .int .i64 0, .bool false] rfl)
      clear hJ hsame hdep hcl hρ hsz hb
      go_simp
    · intro L u w' hF hall
      change wpList _ _ _ _ (Act.put (Act.put (Act.put (Act.put (Act.put (Act.put (Act.put (Act.put (Act.put (Act.put (Act.put (Act.put (Act.put (Act.put (Act.put (Act.put (Act.put (Act.put (Act.put (Act.put (Act.put (Act.put (Act.put (Act.put (Act.put (putAll _ u 0 _) (some 9) (u 0)) (some 10) (u 1)) (some 11) (u 2)) (some 12) (u 3)) (some 13) (u 4)) (some 14) (u 5)) (some 15) (u 6)) (some 16) (u 7)) (some 17) (u 8)) (some 18) (u 9)) (some 19) (u 10)) (some 20) (u 11)) (some 21) (u 12)) (some 22) (u 13)) (some 23) (u 14)) (some 24) (u 15)) (some 25) (u 16)) (some 26) (u 17)) (some 27) (u 18)) (some 28) (u 19)) (some 29) (u 20)) (some 30) (u 21)) (some 31) (u 22)) (some 4) (u 23)) none (u 24)) _
      simp only [putAll]
      have f22 : u 22 = .agg (scA (.slice A3 (G.rows * G.cols) c3) ⟨G, rr, rc, false, 0, b, (pa, pb, pf), tabs, 66, 66, 0, false, false, false, false, false, ⟨0, 0, (0, 0, 0), 0, 0, 0, false⟩⟩) := hF.valOf (j := 22) (by decide) (hall 22 (by decide)) rfl rfl
      obtain ⟨gS, csS, hgS, hgS0, hbS, hsS⟩ := hF.boxOf (j := 23) (by decide) (hall 23 (by decide)) rfl
      have hk := hF.kept.toBelow (Nat.le_refl _) (by simp)
      clear hF
      generalize u 0 = z0
      generalize u 1 = z1
      generalize u 2 = z2
      generalize u 3 = z3
      generalize u 4 = z4
      generalize u 5 = z5
      generalize u 6 = z6
      generalize u 7 = z7
      generalize u 8 = z8
      generalize u 9 = z9
      generalize u 10 = z10
      generalize u 11 = z11
      generalize u 12 = z12
      generalize u 13 = z13
      generalize u 14 = z14
      generalize u 15 = z15
      generalize u 16 = z16
      generalize u 17 = z17
      generalize u 18 = z18
      generalize u 19 = z19
      generalize u 20 = z20
      generalize u 21 = z21
      generalize u 22 = z22 at f22 ⊢
      generalize u 23 = z23 at hgS ⊢
      generalize u 24 = z24
      subst f22 hgS
      simp only [List.drop_succ_cons, List.drop_zero]
      refine wpList_store_scr (x := (.slice A3 (G.rows * G.cols) c3)) (s := ⟨G, rr, rc, false, 0, b, (pa, pb, pf), tabs, 66, 66, 0, false, false, false, false, false, ⟨0, 0, (0, 0, 0), 0, 0, 0, false⟩⟩) hbS hsS rfl _ _ rfl (by go_simp) (by go_simp) rfl ?_
      intro w8 hB8 hk8 hs8
      change Exit.then _ _ Exit.normal _ _
      go_simp
      go_step
      go_meet
      exact ⟨gS, rfl, hgS0, hB8, hk.trans (hk8.toBelow hk.size (fun k hh => by simp at hh; omega))⟩
  case rest =>
    obtain ⟨gS, rfl, hgS, hs5, hb5⟩ := hcut
    have HK5 := hide (HK4.out.below hb5 HK4.out.lt)
    have HGb5 := hide (HGb4.out.below hb5 HGb4.out.lt)
    have HR5 := hide (HR4.out.below hb5 HR4.out.lt)
    have HW5 := hide (HW4.out.trans (hb5.mono HW4.out.size))
    have HG5 := hide (HG4.out.low hb5)
    have HS5 := hide hs5
    have hKS : w.heap.size ≠ gS := by have := HK4.out.lt; omega
    have hGS : gG ≠ gS := by have := HGb4.out.lt; omega
    have hRS : gR ≠ gS := by have := HR4.out.lt; omega
    have hwS : w.heap.size ≤ gS := by have := HK4.out.lt; omega
    have kG0 : wc.cell? ⟨gG, 0, none⟩ = some (.int .i64 (G.rows : Nat)) := HGb5.out.cell 0
    clear hs5 hb5 HK4 HGb4 HR4 HW4 HG4
    go_upto_if 34 with fail
    generalize wc = w5 at *
    go_cut [] from 32 to 51 (fun wx => SBox wx gS (.slice A3 (G.rows * G.cols) c3) (((⟨G, rr, rc, false, 0, b, (pa, pb, pf), tabs, 66, 66, 0, false, false, false, false, false, ⟨0, 0, (0, 0, 0), 0, 0, 0, false⟩⟩ : SN.Sc).u6 tp).u7 bt) ∧ Kept [some gS] w5 wx)
    case first =>
      by_cases h1 : 1 < G.rows
      · have h1' : (1 : Int) < (G.rows : Int) := by omega
        obtain ⟨WT, WB⟩ := HT.out.1 h1
        have hkt : w5.cell? ⟨w.heap.size, 6, none⟩ = some (.int .i64 kt) := HK5.out.cell 6
        have hkb : w5.cell? ⟨w.heap.size, 7, none⟩ = some (.int .i64 kb) := HK5.out.cell 7
        have k6 : w5.cell? ⟨gS, 6, none⟩ = some (.int .i64 ((0 : Nat) : Int)) := HS5.out.c6
        have k7 : w5.cell? ⟨gS, 7, none⟩ = some (.int .i64 (b : Nat)) := HS5.out.c7
        have z6 := HS5.out.fz 6
        have z7 := HS5.out.fz 7
        go_wp2_with fail
        refine (WT _).mono ?_
        rintro e w' ⟨rfl, rfl⟩
        go_upto_region 5 with fail
        have HS6 := hide (HS5.out.set6 tp)
        have HK6 := hide (HK5.out.far (p := ⟨gS, 6, none⟩) hKS (.int .i64 (tp : Nat)))
        have HGb6 := hide (HGb5.out.far (p := ⟨gS, 6, none⟩) hGS (.int .i64 (tp : Nat)))
        have hk6 := hide ((Kept.refl [some gS] w5).setCell (p := ⟨gS, 6, none⟩) (From.mem (by simp)) (.int .i64 (tp : Nat)))
        generalize w5.setCell ⟨gS, 6, none⟩ (.int .i64 (tp : Nat)) = w6 at HS6 HK6 HGb6 hk6 ⊢
        clear hkt hkb k6 k7 z6 z7 kG0
        have hkb : w6.cell? ⟨w.heap.size, 7, none⟩ = some (.int .i64 kb) := HK6.out.cell 7
        have kG0 : w6.cell? ⟨gG, 0, none⟩ = some (.int .i64 (G.rows : Nat)) := HGb6.out.cell 0
        have k6 : w6.cell? ⟨gS, 6, none⟩ = some (.int .i64 (tp : Nat)) := HS6.out.c6
        have k7 : w6.cell? ⟨gS, 7, none⟩ = some (.int .i64 (b : Nat)) := HS6.out.c7
        have z7 := HS6.out.fz 7
        go_wp2_with fail
        refine (WB _).mono ?_
        rintro e w' ⟨rfl, rfl⟩
        go_wp2_with fail
        go_meet
        exact ⟨HS6.out.set7 bt, hk6.out.trans ((Kept.refl [some gS] w6).setCell (p := ⟨gS, 7, none⟩) (From.mem (by simp)) (.int .i64 (bt : Nat))) (fun x hx => From.mem hx)⟩
      · have h1' : ¬ (1 : Int) < (G.rows : Int) := by omega
        obtain ⟨e1, e2⟩ := HT.out.2 h1
        go_wp2_with fail
        go_meet
        refine ⟨?_, Kept.refl _ _⟩
        have h := HS5.out
        rw [e1, e2]
        exact h
    case rest =>
      obtain ⟨hs7, hk7⟩ := hcut
      have HK7 := hide (HK5.out.kept hk7 (by simp; exact hKS))
      have HGb7 := hide (HGb5.out.kept hk7 (by simp; exact hGS))
      have HR7 := hide (HR5.out.kept hk7 (by simp; exact hRS))
      have HW7 := hide (HW5.out.trans (hk7.toBelow HW5.out.size (fun k hh => by simp at hh; omega)))
      have HG7 := hide (HG5.out.kept HS5.out (by decide) hk7)
      have HS7 := hide hs7
      clear hs7 hk7 HK5 HGb5 HR5 HW5 HG5 HS5 kG0 HT
      generalize wc = w7 at *
      have hkf : w7.cell? ⟨w.heap.size, 8, none⟩ = some (.int .i64 kf) := HK7.out.cell 8
      have k15 := HS7.out.c15
      have k16 := HS7.out.c16
      have k17 := HS7.out.c17
      have k18 := HS7.out.c18
      have k19 := HS7.out.c19
      have z15 := HS7.out.fz 15
      have z16 := HS7.out.fz 16
      have z17 := HS7.out.fz 17
      have z18 := HS7.out.fz 18
      have z19 := HS7.out.fz 19
      go_upto_region 8 with fail
      simp only [HB0.out, HB1.out, HB2.out, HB3.out, HB4.out]
      have HS8 := hide (((((HS7.out.set15 f0).set16 f1).set17 f2).set18 f3).set19 f4)
      have hk8 := hide ((((((Kept.refl [some gS] w7).setCell (p := ⟨gS, 15, none⟩) (From.mem (by simp)) (.bool f0)).setCell (p := ⟨gS, 16, none⟩) (From.mem (by simp)) (.bool f1)).setCell (p := ⟨gS, 17, none⟩) (From.mem (by simp)) (.bool f2)).setCell (p := ⟨gS, 18, none⟩) (From.mem (by simp)) (.bool f3)).setCell (p := ⟨gS, 19, none⟩) (From.mem (by simp)) (.bool f4))
      generalize (((((w7.setCell ⟨gS, 15, none⟩ (.bool f0)).setCell ⟨gS, 16, none⟩ (.bool f1)).setCell ⟨gS, 17, none⟩ (.bool f2)).setCell ⟨gS, 18, none⟩ (.bool f3)).setCell ⟨gS, 19, none⟩ (.bool f4)) = w8 at HS8 hk8 ⊢
      have HK8 := hide (HK7.out.kept hk8.out (by simp; exact hKS))
      have HGb8 := hide (HGb7.out.kept hk8.out (by simp; exact hGS))
      have HR8 := hide (HR7.out.kept hk8.out (by simp; exact hRS))
      have HW8 := hide (HW7.out.trans (hk8.out.toBelow HW7.out.size (fun k hh => by simp at hh; omega)))
      have HG8 := hide (HG7.out.kept HS7.out (by decide) hk8.out)
      clear hkf k15 k16 k17 k18 k19 z15 z16 z17 z18 z19 hk8 HK7 HGb7 HR7 HW7 HG7 HS7
      go_cut [] from 54 to 89 (fun wx => SBox wx gS (.slice A3 (G.rows * G.cols) c3) (((((((((⟨G, rr, rc, false, 0, b, (pa, pb, pf), tabs, 66, 66, 0, false, false, false, false, false, ⟨0, 0, (0, 0, 0), 0, 0, 0, false⟩⟩ : SN.Sc).u6 tp).u7 bt).u15 f0).u16 f1).u17 f2).u18 f3).u19 f4).u5 (f0 && lc && f5)) ∧ Kept [some gS] w8 wx)
      case first =>
        have k15 : w8.cell? ⟨gS, 15, none⟩ = some (.bool f0) := HS8.out.c15
        have k4 : w8.cell? ⟨gS, 4, none⟩ = some (.int .i64 (rc : Nat)) := HS8.out.c4
        have k5 := HS8.out.c5
        have z5 := HS8.out.fz 5
        have kG1 : w8.cell? ⟨gG, 1, none⟩ = some (.int .i64 (G.cols : Nat)) := HGb8.out.cell 1
        have FIN := hide (HS8.out.set5 (f0 && lc && f5))
        cases f0 with
        | false =>
          go_wp2_with fail
          go_meet
          exact ⟨FIN.out, (Kept.refl [some gS] w8).setCell (p := ⟨gS, 5, none⟩) (From.mem (by simp)) _⟩
        | true =>
          have hlc := HLC.out
          cases lc with
          | false =>
            go_wp2_with fail
            go_meet
            exact ⟨FIN.out, (Kept.refl [some gS] w8).setCell (p := ⟨gS, 5, none⟩) (From.mem (by simp)) _⟩
          | true =>
            go_wp2_with fail
            simp only [HB5.out]
            go_meet
            exact ⟨FIN.out, (Kept.refl [some gS] w8).setCell (p := ⟨gS, 5, none⟩) (From.mem (by simp)) _⟩
      case rest =>
        obtain ⟨hs9, hk9⟩ := hcut
        have HK9 := hide (HK8.out.kept hk9 (by simp; exact hKS))
        have HGb9 := hide (HGb8.out.kept hk9 (by simp; exact hGS))
        have HR9 := hide (HR8.out.kept hk9 (by simp; exact hRS))
        have HW9 := hide (HW8.out.trans (hk9.toBelow HW8.out.size (fun k hh => by simp at hh; omega)))
        have HG9 := hide (HG8.out.kept HS8.out (by decide) hk9)
        have HS9 := hide hs9
        clear hs9 hk9 HK8 HGb8 HR8 HW8 HG8 HS8
        generalize wc = w9 at *
        go_upto_if 92 with fail
        go_cut [] from 90 to 94 (fun wx => SBox wx gS (.slice A3 (G.rows * G.cols) c3) ((((((((((⟨G, rr, rc, false, 0, b, (pa, pb, pf), tabs, 66, 66, 0, false, false, false, false, false, ⟨0, 0, (0, 0, 0), 0, 0, 0, false⟩⟩ : SN.Sc).u6 tp).u7 bt).u15 f0).u16 f1).u17 f2).u18 f3).u19 f4).u5 (f0 && lc && f5)).u12 (if f6 = true then 48 else 66)) ∧ Kept [some gS] w9 wx)
        case first =>
          have hb := HB6.out
          have k12 := HS9.out.c12
          have z12 := HS9.out.fz 12
          cases f6 with
          | false =>
            go_wp2_with fail
            go_meet
            exact ⟨HS9.out, Kept.refl _ _⟩
          | true =>
            go_wp2_with fail
            go_meet
            exact ⟨HS9.out.set12 48, (Kept.refl [some gS] w9).setCell (p := ⟨gS, 12, none⟩) (From.mem (by simp)) _⟩
        case rest =>
          obtain ⟨hs10, hk10⟩ := hcut
          have HK10 := hide (HK9.out.kept hk10 (by simp; exact hKS))
          have HGb10 := hide (HGb9.out.kept hk10 (by simp; exact hGS))
          have HR10 := hide (HR9.out.kept hk10 (by simp; exact hRS))
          have HW10 := hide (HW9.out.trans (hk10.toBelow HW9.out.size (fun k hh => by simp at hh; omega)))
          have HG10 := hide (HG9.out.kept HS9.out (by decide) hk10)
          have HS10 := hide hs10
          clear hs10 hk10 HK9 HGb9 HR9 HW9 HG9 HS9
          generalize wc = w10 at *
          go_upto_if 97 with fail
          go_cut [] from 95 to 98 (fun wx => SBox wx gS (.slice A3 (G.rows * G.cols) c3) (((((((((((⟨G, rr, rc, false, 0, b, (pa, pb, pf), tabs, 66, 66, 0, false, false, false, false, false, ⟨0, 0, (0, 0, 0), 0, 0, 0, false⟩⟩ : SN.Sc).u6 tp).u7 bt).u15 f0).u16 f1).u17 f2).u18 f3).u19 f4).u5 (f0 && lc && f5)).u12 (if f6 = true then 48 else 66)).u14 (if f7 = true then 1 else 0)) ∧ Kept [some gS] w10 wx)
          case first =>
            have hb := HB7.out
            have k14 := HS10.out.c14
            have z14 := HS10.out.fz 14
            cases f7 with
            | false =>
              go_wp2_with fail
              go_meet
              exact ⟨HS10.out, Kept.refl _ _⟩
            | true =>
              go_wp2_with fail
              go_meet
              exact ⟨HS10.out.set14 1, (Kept.refl [some gS] w10).setCell (p := ⟨gS, 14, none⟩) (From.mem (by simp)) _⟩
          case rest =>
            obtain ⟨hs11, hk11⟩ := hcut
            have HK11 := hide (HK10.out.kept hk11 (by simp; exact hKS))
            have HGb11 := hide (HGb10.out.kept hk11 (by simp; exact hGS))
            have HR11 := hide (HR10.out.kept hk11 (by simp; exact hRS))
            have HW11 := hide (HW10.out.trans (hk11.toBelow HW10.out.size (fun k hh => by simp at hh; omega)))
            have HG11 := hide (HG10.out.kept HS10.out (by decide) hk11)
            have HS11 := hide hs11
            clear hs11 hk11 HK10 HGb10 HR10 HW10 HG10 HS10
            generalize wc = w11 at *
            go_upto_region 13 with fail
            go_cut [] from 99 to 120 (fun wx => SBox wx gS (.slice A3 (G.rows * G.cols) c3) ((((((((((((⟨G, rr, rc, false, 0, b, (pa, pb, pf), tabs, 66, 66, 0, false, false, false, false, false, ⟨0, 0, (0, 0, 0), 0, 0, 0, false⟩⟩ : SN.Sc).u6 tp).u7 bt).u15 f0).u16 f1).u17 f2).u18 f3).u19 f4).u5 (f0 && lc && f5)).u12 (if f6 = true then 48 else 66)).u14 (if f7 = true then 1 else 0)).uV ⟨vr, vc, (qa, qb, qf), 66, 48, 0, f8⟩) ∧ Below w.heap.size w wx ∧ Box wx gR 32 csR ∧ IsG wx G (gv G.rows G.cols (.slice A3 (G.rows * G.cols) c3)))
            case first =>
              refine wp_region_gt (n := 122) 21 [] (fun _ => #[]) [(0, 0, 0, 0, 0), (0, 0, 0, 0, 0), (0, 0, 0, 0, 0), (0, 0, 0, 0, 0), (0, 0, 0, 0, 0), (0, 0, 0, 0, 0), (0, 0, 0, 0, 0), (0, 0, 0, 0, 0), (0, 0, 0, 0, 0), (0, 0, 0, 0, 0), (0, 0, 0, 0, 0), (0, 0, 0, 0, 0), (0, 0, 0, 0, 0), (0, 0, 0, 0, 0), (0, 0, 0, 0, 0), (0, 0, 0, 0, 0), (0, 0, 0, 0, 0), (0, 0, 0, 0, 0), (0, 0, 0, 0, 0), (0, 0, 0, 0, 0), (0, 0, 0, 0, 0), (0, 0, 0, 0, 0), (0, 0, 0, 0, 0)] (fun j => [(.pointer (some ⟨w.heap.size, 5, none⟩)), (.int .i64 kc), (.pointer (some ⟨gG, 0, none⟩)), (.int .i64 (G.rows : Nat)), (.int .i64 (b : Nat)), (.int .i64 (vr : Nat)), (.pointer (some ⟨w.heap.size, 4, none⟩)), (.int .i64 kr), (.pointer (some ⟨gG, 1, none⟩)), (.int .i64 (G.cols : Nat)), (.int .i64 (d : Nat)), (.int .i64 (vc : Nat)), (.pointer (some ⟨w.heap.size, 8, none⟩)), (.int .i64 kf), (.agg #[.int .i64 kf, .int .i64 0, .int .i64 0]), (.agg #[.int .i64 qa, .int .i64 qb, .int .i64 qf]), (.agg #[.int .u8 66, .int .u8 48]), (.int .i64 kf), (.int .i64 (bits .and .i64 kf 256)), (.bool f8), (.agg #[.int .i64 (vr : Nat), .int .i64 (vc : Nat), .int .i64 qa, .int .i64 qb, .int .i64 qf, .int .u8 66, .int .u8 48, .int .i64 0, .bool f8]), undef, undef].getD j undef) [] (fun _ => 0) (by kernel_rfl) (by kernel_rfl) (by kernel_rfl) rfl (by kernel_rfl) (by kernel_rfl) (gno4 rfl) (fun i j h => by revert h; exact gno4 (p := fun _ => _) rfl i) (AllG.nil _) (fun hGS => cases21 ⟨?_, ?_, ?_, ?_, ?_, ?_, ?_, ?_, ?_, ?_, ?_, ?_, ?_, ?_, ?_, ?_, ?_, ?_, ?_, ?_, ?_⟩) ?_
              · intro L a w' hL hsame hsz hJ hdep hcl
                have hb := hJ.kept.toBelow (Nat.le_refl _) (by simp)
                have e0 : a.eval (.tmp 1) = (.pointer (some ⟨w.heap.size, 0, none⟩)) := eval_base hsame (by kernel_rfl)
                refine Step.val _ rfl rfl (wanted_none rfl) (.pointer (some ⟨w.heap.size, 5, none⟩)) w' (fun ρ hρ => ?_) (hJ.val hGS hcl hL rfl (Below.refl _ _) _ rfl)
                rw [hρ] at e0
                clear hJ hsame hdep hcl hρ hsz hb
                go_simp
              · intro L a w' hL hsame hsz hJ hdep hcl
                have hb := hJ.kept.toBelow (Nat.le_refl _) (by simp)
                have e0 : a.eval (.tmp 99) = (.pointer (some ⟨w.heap.size, 5, none⟩)) := eval_slot (j := 0) (by kernel_rfl) (hJ.valOf (by decide) (dep_of hdep 0 (by kernel_rfl)) rfl rfl)
                have hx := hJ.keptBox (HK11.out) (by simp)
                have q0 : w'.cell? ⟨w.heap.size, 5, none⟩ = some (.int .i64 kc) := hx.cell 5
                refine Step.val _ rfl rfl (wanted_none rfl) (.int .i64 kc) w' (fun ρ hρ => ?_) (hJ.val hGS hcl hL rfl (Below.refl _ _) _ rfl)
                clear hx
                rw [hρ] at e0
                clear hJ hsame hdep hcl hρ hsz hb
                go_simp
              · intro L a w' hL hsame hsz hJ hdep hcl
                have hb := hJ.kept.toBelow (Nat.le_refl _) (by simp)
                have e0 : a.eval (.tmp 3) = (.pointer (some ⟨gG, 0, none⟩)) := eval_base hsame (by kernel_rfl)
                refine Step.val _ rfl rfl (wanted_none rfl) (.pointer (some ⟨gG, 0, none⟩)) w' (fun ρ hρ => ?_) (hJ.val hGS hcl hL rfl (Below.refl _ _) _ rfl)
                rw [hρ] at e0
                clear hJ hsame hdep hcl hρ hsz hb
                go_simp
              · intro L a w' hL hsame hsz hJ hdep hcl
                have hb := hJ.kept.toBelow (Nat.le_refl _) (by simp)
                have e0 : a.eval (.tmp 101) = (.pointer (some ⟨gG, 0, none⟩)) := eval_slot (j := 2) (by kernel_rfl) (hJ.valOf (by decide) (dep_of hdep 2 (by kernel_rfl)) rfl rfl)
                have hx := hJ.keptBox (HGb11.out) (by simp)
                have q0 : w'.cell? ⟨gG, 0, none⟩ = some (.int .i64 (G.rows : Nat)) := hx.cell 0
                refine Step.val _ rfl rfl (wanted_none rfl) (.int .i64 (G.rows : Nat)) w' (fun ρ hρ => ?_) (hJ.val hGS hcl hL rfl (Below.refl _ _) _ rfl)
                clear hx
                rw [hρ] at e0
                clear hJ hsame hdep hcl hρ hsz hb
                go_simp
              · intro L a w' hL hsame hsz hJ hdep hcl
                have hb := hJ.kept.toBelow (Nat.le_refl _) (by simp)
                have e0 : a.eval (.tmp 102) = (.int .i64 (G.rows : Nat)) := eval_slot (j := 3) (by kernel_rfl) (hJ.valOf (by decide) (dep_of hdep 3 (by kernel_rfl)) rfl rfl)
                refine Step.val _ rfl rfl (wanted_none rfl) (.int .i64 (b : Nat)) w' (fun ρ hρ => ?_) (hJ.val hGS hcl hL rfl (Below.refl _ _) _ rfl)
                rw [hρ] at e0
                have ec0 : ρ (.const (.int .i64 1)) = (.int .i64 1) := (hρ _).symm
                clear hJ hsame hdep hcl hρ hsz hb
                go_simp
                exact EBW.out
              · intro L a w' hL hsame hsz hJ hdep hcl
                have hb := hJ.kept.toBelow (Nat.le_refl _) (by simp)
                have e0 : a.eval (.tmp 100) = (.int .i64 kc) := eval_slot (j := 1) (by kernel_rfl) (hJ.valOf (by decide) (dep_of hdep 1 (by kernel_rfl)) rfl rfl)
                have e2 : a.eval (.tmp 103) = (.int .i64 (b : Nat)) := eval_slot (j := 4) (by kernel_rfl) (hJ.valOf (by decide) (dep_of hdep 4 (by kernel_rfl)) rfl rfl)
                refine Step.call _ rfl rfl (wanted_none rfl) 13 #[.int .i64 kc, .int .i64 0, .int .i64 (b : Nat)] (fun ρ hρ => ?_) ?_
                · skip
                  rw [hρ] at e0 e2
                  have ec0 : ρ (.const (.int .i64 0)) = (.int .i64 0) := (hρ _).symm
                  have ef : ρ (.func 13) = .func (.func 13) #[] #[] := (hρ _).symm
                  clear hJ hsame hdep hcl hρ hsz hb
                  go_simp
                · refine (VR.out _).mono ?_
                  rintro e w2 ⟨rfl, rfl⟩
                  exact ⟨_, rfl, hJ.val hGS hcl hL rfl (Below.refl _ _) _ rfl⟩
              · intro L a w' hL hsame hsz hJ hdep hcl
                have hb := hJ.kept.toBelow (Nat.le_refl _) (by simp)
                have e0 : a.eval (.tmp 1) = (.pointer (some ⟨w.heap.size, 0, none⟩)) := eval_base hsame (by kernel_rfl)
                refine Step.val _ rfl rfl (wanted_none rfl) (.pointer (some ⟨w.heap.size, 4, none⟩)) w' (fun ρ hρ => ?_) (hJ.val hGS hcl hL rfl (Below.refl _ _) _ rfl)
                rw [hρ] at e0
                clear hJ hsame hdep hcl hρ hsz hb
                go_simp
              · intro L a w' hL hsame hsz hJ hdep hcl
                have hb := hJ.kept.toBelow (Nat.le_refl _) (by simp)
                have e0 : a.eval (.tmp 105) = (.pointer (some ⟨w.heap.size, 4, none⟩)) := eval_slot (j := 6) (by kernel_rfl) (hJ.valOf (by decide) (dep_of hdep 6 (by kernel_rfl)) rfl rfl)
                have hx := hJ.keptBox (HK11.out) (by simp)
                have q0 : w'.cell? ⟨w.heap.size, 4, none⟩ = some (.int .i64 kr) := hx.cell 4
                refine Step.val _ rfl rfl (wanted_none rfl) (.int .i64 kr) w' (fun ρ hρ => ?_) (hJ.val hGS hcl hL rfl (Below.refl _ _) _ rfl)
                clear hx
                rw [hρ] at e0
                clear hJ hsame hdep hcl hρ hsz hb
                go_simp
              · intro L a w' hL hsame hsz hJ hdep hcl
                have hb := hJ.kept.toBelow (Nat.le_refl _) (by simp)
                have e0 : a.eval (.tmp 3) = (.pointer (some ⟨gG, 0, none⟩)) := eval_base hsame (by kernel_rfl)
                refine Step.val _ rfl rfl (wanted_none rfl) (.pointer (some ⟨gG, 1, none⟩)) w' (fun ρ hρ => ?_) (hJ.val hGS hcl hL rfl (Below.refl _ _) _ rfl)
                rw [hρ] at e0
                clear hJ hsame hdep hcl hρ hsz hb
                go_simp
              · intro L a w' hL hsame hsz hJ hdep hcl
                have hb := hJ.kept.toBelow (Nat.le_refl _) (by simp)
                have e0 : a.eval (.tmp 107) = (.pointer (some ⟨gG, 1, none⟩)) := eval_slot (j := 8) (by kernel_rfl) (hJ.valOf (by decide) (dep_of hdep 8 (by kernel_rfl)) rfl rfl)
                have hx := hJ.keptBox (HGb11.out) (by simp)
                have q0 : w'.cell? ⟨gG, 1, none⟩ = some (.int .i64 (G.cols : Nat)) := hx.cell 1
                refine Step.val _ rfl rfl (wanted_none rfl) (.int .i64 (G.cols : Nat)) w' (fun ρ hρ => ?_) (hJ.val hGS hcl hL rfl (Below.refl _ _) _ rfl)
                clear hx
                rw [hρ] at e0
                clear hJ hsame hdep hcl hρ hsz hb
                go_simp
              · intro L a w' hL hsame hsz hJ hdep hcl
                have hb := hJ.kept.toBelow (Nat.le_refl _) (by simp)
                have e0 : a.eval (.tmp 108) = (.int .i64 (G.cols : Nat)) := eval_slot (j := 9) (by kernel_rfl) (hJ.valOf (by decide) (dep_of hdep 9 (by kernel_rfl)) rfl rfl)
                refine Step.val _ rfl rfl (wanted_none rfl) (.int .i64 (d : Nat)) w' (fun ρ hρ => ?_) (hJ.val hGS hcl hL rfl (Below.refl _ _) _ rfl)
                rw [hρ] at e0
                have ec0 : ρ (.const (.int .i64 1)) = (.int .i64 1) := (hρ _).symm
                clear hJ hsame hdep hcl hρ hsz hb
                go_simp
                exact EDW.out
              · intro L a w' hL hsame hsz hJ hdep hcl
                have hb := hJ.kept.toBelow (Nat.le_refl _) (by simp)
                have e0 : a.eval (.tmp 106) = (.int .i64 kr) := eval_slot (j := 7) (by kernel_rfl) (hJ.valOf (by decide) (dep_of hdep 7 (by kernel_rfl)) rfl rfl)
                have e2 : a.eval (.tmp 109) = (.int .i64 (d : Nat)) := eval_slot (j := 10) (by kernel_rfl) (hJ.valOf (by decide) (dep_of hdep 10 (by kernel_rfl)) rfl rfl)
                refine Step.call _ rfl rfl (wanted_none rfl) 13 #[.int .i64 kr, .int .i64 0, .int .i64 (d : Nat)] (fun ρ hρ => ?_) ?_
                · skip
                  rw [hρ] at e0 e2
                  have ec0 : ρ (.const (.int .i64 0)) = (.int .i64 0) := (hρ _).symm
                  have ef : ρ (.func 13) = .func (.func 13) #[] #[] := (hρ _).symm
                  clear hJ hsame hdep hcl hρ hsz hb
                  go_simp
                · refine (VC.out _).mono ?_
                  rintro e w2 ⟨rfl, rfl⟩
                  exact ⟨_, rfl, hJ.val hGS hcl hL rfl (Below.refl _ _) _ rfl⟩
              · intro L a w' hL hsame hsz hJ hdep hcl
                have hb := hJ.kept.toBelow (Nat.le_refl _) (by simp)
                have e0 : a.eval (.tmp 1) = (.pointer (some ⟨w.heap.size, 0, none⟩)) := eval_base hsame (by kernel_rfl)
                refine Step.val _ rfl rfl (wanted_none rfl) (.pointer (some ⟨w.heap.size, 8, none⟩)) w' (fun ρ hρ => ?_) (hJ.val hGS hcl hL rfl (Below.refl _ _) _ rfl)
                rw [hρ] at e0
                clear hJ hsame hdep hcl hρ hsz hb
                go_simp
              · intro L a w' hL hsame hsz hJ hdep hcl
                have hb := hJ.kept.toBelow (Nat.le_refl _) (by simp)
                have e0 : a.eval (.tmp 111) = (.pointer (some ⟨w.heap.size, 8, none⟩)) := eval_slot (j := 12) (by kernel_rfl) (hJ.valOf (by decide) (dep_of hdep 12 (by kernel_rfl)) rfl rfl)
                have hx := hJ.keptBox (HK11.out) (by simp)
                have q0 : w'.cell? ⟨w.heap.size, 8, none⟩ = some (.int .i64 kf) := hx.cell 8
                refine Step.val _ rfl rfl (wanted_none rfl) (.int .i64 kf) w' (fun ρ hρ => ?_) (hJ.val hGS hcl hL rfl (Below.refl _ _) _ rfl)
                clear hx
                rw [hρ] at e0
                clear hJ hsame hdep hcl hρ hsz hb
                go_simp
              · intro L a w' hL hsame hsz hJ hdep hcl
                have hb := hJ.kept.toBelow (Nat.le_refl _) (by simp)
                have e0 : a.eval (.tmp 112) = (.int .i64 kf) := eval_slot (j := 13) (by kernel_rfl) (hJ.valOf (by decide) (dep_of hdep 13 (by kernel_rfl)) rfl rfl)
                refine Step.val _ rfl rfl (wanted_none rfl) (.agg #[.int .i64 kf, .int .i64 0, .int .i64 0]) w' (fun ρ hρ => ?_) (hJ.val hGS hcl hL rfl (Below.refl _ _) _ rfl)
                rw [hρ] at e0
                clear hJ hsame hdep hcl hρ hsz hb
                go_simp
              · intro L a w' hL hsame hsz hJ hdep hcl
                have hb := hJ.kept.toBelow (Nat.le_refl _) (by simp)
                have e0 : a.eval (.tmp 113) = (.agg #[.int .i64 kf, .int .i64 0, .int .i64 0]) := eval_slot (j := 14) (by kernel_rfl) (hJ.valOf (by decide) (dep_of hdep 14 (by kernel_rfl)) rfl rfl)
                refine Step.call _ rfl rfl (wanted_none rfl) 26 #[.agg #[.int .i64 kf, .int .i64 0, .int .i64 0]] (fun ρ hρ => ?_) ?_
                · skip
                  rw [hρ] at e0
                  have ef : ρ (.func 26) = .func (.func 26) #[] #[] := (hρ _).symm
                  clear hJ hsame hdep hcl hρ hsz hb
                  go_simp
                · refine (KQ.out _).mono ?_
                  rintro e w2 ⟨rfl, bb⟩
                  exact ⟨_, rfl, hJ.val hGS hcl hL rfl bb _ rfl⟩
              · intro L a w' hL hsame hsz hJ hdep hcl
                have hb := hJ.kept.toBelow (Nat.le_refl _) (by simp)
                refine Step.val _ rfl rfl (wanted_none rfl) (.agg #[.int .u8 66, .int .u8 48]) w' (fun ρ hρ => ?_) (hJ.val hGS hcl hL rfl (Below.refl _ _) _ rfl)
                have ec0 : ρ (.const (.int .u8 66)) = (.int .u8 66) := (hρ _).symm
                have ec1 : ρ (.const (.int .u8 48)) = (.int .u8 48) := (hρ _).symm
                clear hJ hsame hdep hcl hρ hsz hb
                go_simp
              · intro L a w' hL hsame hsz hJ hdep hcl
                have hb := hJ.kept.toBelow (Nat.le_refl _) (by simp)
                have e0 : a.eval (.tmp 5) = (.int .i64 kf) := eval_base hsame (by kernel_rfl)
                refine Step.val _ rfl rfl (wanted_none rfl) (.int .i64 kf) w' (fun ρ hρ => ?_) (hJ.val hGS hcl hL rfl (Below.refl _ _) _ rfl)
                rw [hρ] at e0
                clear hJ hsame hdep hcl hρ hsz hb
                go_simp
              · intro L a w' hL hsame hsz hJ hdep hcl
                have hb := hJ.kept.toBelow (Nat.le_refl _) (by simp)
                have e0 : a.eval (.tmp 116) = (.int .i64 kf) := eval_slot (j := 17) (by kernel_rfl) (hJ.valOf (by decide) (dep_of hdep 17 (by kernel_rfl)) rfl rfl)
                refine Step.val _ rfl rfl (wanted_none rfl) (.int .i64 (bits .and .i64 kf 256)) w' (fun ρ hρ => ?_) (hJ.val hGS hcl hL rfl (Below.refl _ _) _ rfl)
                rw [hρ] at e0
                have ec0 : ρ (.const (.int .i64 256)) = (.int .i64 256) := (hρ _).symm
                clear hJ hsame hdep hcl hρ hsz hb
                go_simp
              · intro L a w' hL hsame hsz hJ hdep hcl
                have hb := hJ.kept.toBelow (Nat.le_refl _) (by simp)
                have e0 : a.eval (.tmp 117) = (.int .i64 (bits .and .i64 kf 256)) := eval_slot (j := 18) (by kernel_rfl) (hJ.valOf (by decide) (dep_of hdep 18 (by kernel_rfl)) rfl rfl)
                refine Step.val _ rfl rfl (wanted_none rfl) (.bool f8) w' (fun ρ hρ => ?_) (hJ.val hGS hcl hL rfl (Below.refl _ _) _ rfl)
                rw [hρ] at e0
                have ec0 : ρ (.const (.int .i64 256)) = (.int .i64 256) := (hρ _).symm
                clear hJ hsame hdep hcl hρ hsz hb
                go_simp
                exact HB8.out
              · intro L a w' hL hsame hsz hJ hdep hcl
                have hb := hJ.kept.toBelow (Nat.le_refl _) (by simp)
                have e0 : a.eval (.tmp 104) = (.int .i64 (vr : Nat)) := eval_slot (j := 5) (by kernel_rfl) (hJ.valOf (by decide) (dep_of hdep 5 (by kernel_rfl)) rfl rfl)
                have e1 : a.eval (.tmp 110) = (.int .i64 (vc : Nat)) := eval_slot (j := 11) (by kernel_rfl) (hJ.valOf (by decide) (dep_of hdep 11 (by kernel_rfl)) rfl rfl)
                have e2 : a.eval (.tmp 114) = (.agg #[.int .i64 qa, .int .i64 qb, .int .i64 qf]) := eval_slot (j := 15) (by kernel_rfl) (hJ.valOf (by decide) (dep_of hdep 15 (by kernel_rfl)) rfl rfl)
                have e3 : a.eval (.tmp 115) = (.agg #[.int .u8 66, .int .u8 48]) := eval_slot (j := 16) (by kernel_rfl) (hJ.valOf (by decide) (dep_of hdep 16 (by kernel_rfl)) rfl rfl)
                have e4 : a.eval (.tmp 118) = (.bool f8) := eval_slot (j := 19) (by kernel_rfl) (hJ.valOf (by decide) (dep_of hdep 19 (by kernel_rfl)) rfl rfl)
                refine Step.val _ rfl rfl (wanted_none rfl) (.agg #[.int .i64 (vr : Nat), .int .i64 (vc : Nat), .int .i64 qa, .int .i64 qb, .int .i64 qf, .int .u8 66, .int .u8 48, .int .i64 0, .bool f8]) w' (fun ρ hρ => ?_) (hJ.val hGS hcl hL rfl (Below.refl _ _) _ rfl)
                rw [hρ] at e0 e1 e2 e3 e4
                clear hJ hsame hdep hcl hρ hsz hb
                go_simp
              · intro L u w' hF hall
                change wpList _ _ _ _ (Act.put (Act.put (Act.put (Act.put (Act.put (Act.put (Act.put (Act.put (Act.put (Act.put (Act.put (Act.put (Act.put (Act.put (Act.put (Act.put (Act.put (Act.put (Act.put (Act.put (Act.put (Act.put (Act.put (putAll _ u 0 _) (some 99) (u 0)) (some 100) (u 1)) (some 101) (u 2)) (some 102) (u 3)) (some 103) (u 4)) (some 104) (u 5)) (some 105) (u 6)) (some 106) (u 7)) (some 107) (u 8)) (some 108) (u 9)) (some 109) (u 10)) (some 110) (u 11)) (some 111) (u 12)) (some 112) (u 13)) (some 113) (u 14)) (some 114) (u 15)) (some 115) (u 16)) (some 116) (u 17)) (some 117) (u 18)) (some 118) (u 19)) (some 119) (u 20)) (some 120) (u 21)) none (u 22)) _
                simp only [putAll]
                have f20 : u 20 = (.agg #[.int .i64 (vr : Nat), .int .i64 (vc : Nat), .int .i64 qa, .int .i64 qb, .int .i64 qf, .int .u8 66, .int .u8 48, .int .i64 0, .bool f8]) := hF.valOf (j := 20) (by decide) (hall 20 (by decide)) rfl rfl
                have hk := hF.kept.toBelow (Nat.le_refl _) (by simp)
                clear hF
                generalize u 0 = z0
                generalize u 1 = z1
                generalize u 2 = z2
                generalize u 3 = z3
                generalize u 4 = z4
                generalize u 5 = z5
                generalize u 6 = z6
                generalize u 7 = z7
                generalize u 8 = z8
                generalize u 9 = z9
                generalize u 10 = z10
                generalize u 11 = z11
                generalize u 12 = z12
                generalize u 13 = z13
                generalize u 14 = z14
                generalize u 15 = z15
                generalize u 16 = z16
                generalize u 17 = z17
                generalize u 18 = z18
                generalize u 19 = z19
                generalize u 20 = z20 at f20 ⊢
                generalize u 21 = z21
                generalize u 22 = z22
                subst f20
                simp only [List.drop_succ_cons, List.drop_zero]
                refine wpList_exec rfl (.pointer (some ⟨gS, 20, none⟩)) (by go_simp) ?_
                have hs12 := HS11.out.below hk HS11.out.lt
                refine wpList_store_sv hs12 ⟨vr, vc, (qa, qb, qf), 66, 48, 0, f8⟩ rfl _ _ rfl (by go_simp) (by go_simp) ?_
                intro w8 hB8 hk8 hs8
                change Exit.then _ _ Exit.normal _ _
                go_simp
                go_step
                go_meet
                have hw12 := HW11.out.trans (hk.mono HW11.out.size)
                exact ⟨hB8, hw12.trans (hk8.toBelow hw12.size (fun k hh => by simp at hh; omega)), (HR11.out.below hk HR11.out.lt).kept hk8 (by simp; exact hRS), (HG11.out.low hk).kept hs12 (by decide) hk8⟩
            case rest =>
              obtain ⟨hs14, hb14, hr14, hg14⟩ := hcut
              rw [HFT.out] at hs14
              have HS14 := hide hs14
              have HR14 := hide hr14
              have HW14 := hide hb14
              have HG14 := hide hg14
              clear hs14 hr14 hb14 hg14 HS11 HR11 HW11 HG11 HK11 HGb11
              go_wp2_with (first | (refine wpList_load_scr HS14.out rfl _ rfl rfl ?_) | (refine wpList_store_scr HR14.out hsR rfl _ _ rfl rfl rfl rfl ?_; intro w15 hB15 hk15 hs15))
              refine bodyPost_ret (results_scr rfl rfl hB15) rfl ⟨_, rfl, ⟨_, rfl, ?_⟩, HW14.out.trans (hk15.toBelow HW14.out.size (fun k hh => by simp at hh; omega))⟩
              have h := HG14.out.kept HR14.out (by decide) hk15
              rw [← HFT.out]
              exact h
end Go.Proofs.YtdcdinlppjlmfaaDoor
set_option maxRecDepth 100000
namespace Go.Proofs.YtdcdinlppjlmfaaDoor
open Go.RowKit
set_option linter.unusedVariables false
/-- numbers that a Go int, a uint64 holds -/
def SN.Ks.Fit (k : SN.Ks) : Prop := ((-9223372036854775808 ≤ k.row ∧ k.row ≤ 9223372036854775807) ∧ (-9223372036854775808 ≤ k.col ∧ k.col ≤ 9223372036854775807) ∧ (-9223372036854775808 ≤ k.top ∧ k.top ≤ 9223372036854775807) ∧ (-9223372036854775808 ≤ k.bot ∧ k.bot ≤ 9223372036854775807)) ∧
  ((-9223372036854775808 ≤ k.fl ∧ k.fl ≤ 9223372036854775807) ∧ (-9223372036854775808 ≤ k.p0 ∧ k.p0 ≤ 9223372036854775807) ∧ (-9223372036854775808 ≤ k.p1 ∧ k.p1 ≤ 9223372036854775807) ∧ (-9223372036854775808 ≤ k.p2 ∧ k.p2 ≤ 9223372036854775807))
theorem keepScreen_any (K0 K1 K2 K3 : Value) (k : SN.Ks) (G : PG.Gr) (w : World) (hG : PG.RightG G) (hk : k.Fit)
    (KG : Hid (∀ w', Below w.heap.size w w' → Calls Tryd.prog 25 #[.agg #[K0, K1, K2, K3]] w' (GotG w' G))) :
    Calls Tryd.prog 12 #[.agg #[K0, K1, K2, K3, .int .i64 k.row, .int .i64 k.col, .int .i64 k.top, .int .i64 k.bot, .int .i64 k.fl, .int .i64 k.p0, .int .i64 k.p1, .int .i64 k.p2, .int .u64 k.tabs]] w (GotS w (SN.keepS G k)) := by
  obtain ⟨⟨⟨r0, r1⟩, ⟨c0, c1⟩, ⟨t0, t1⟩, ⟨b0, b1⟩⟩, ⟨⟨f0, f1⟩, ⟨p0, p0'⟩, ⟨p1, p1'⟩, ⟨p2, p2'⟩⟩⟩ := hk
  have hR1 := hG.1
  have hR2 := hG.2.1
  have hK1 := hG.2.2.1
  have hK2 := hG.2.2.2.1
  have mr0 := Int.emod_nonneg k.row (b := (G.rows : Int)) (by omega)
  have mr1 := Int.emod_lt_of_pos k.row (b := (G.rows : Int)) (by omega)
  have mc0 := Int.emod_nonneg k.col (b := (G.cols : Int)) (by omega)
  have mc1 := Int.emod_lt_of_pos k.col (b := (G.cols : Int)) (by omega)
  have nr0 := Int.emod_nonneg k.col (b := (G.rows : Int)) (by omega)
  have nr1 := Int.emod_lt_of_pos k.col (b := (G.rows : Int)) (by omega)
  have nc0 := Int.emod_nonneg k.row (b := (G.cols : Int)) (by omega)
  have nc1 := Int.emod_lt_of_pos k.row (b := (G.cols : Int)) (by omega)
  have hbt : SN.botOf G.rows k.top k.bot < G.rows := by
    by_cases h1 : 1 < G.rows
    · exact (SN.bot_lt h1 _ _).2
    · have e : SN.botOf G.rows k.top k.bot = G.rows - 1 := if_neg h1
      omega
  have htp : SN.topOf G.rows k.top ≤ 1000 := by
    by_cases h1 : 1 < G.rows
    · have := (SN.top_lt h1 k.top).1
      omega
    · have e : SN.topOf G.rows k.top = 0 := if_neg h1
      omega
  have sR : ((G.rows - 1 : Nat) : Int) - 0 + 1 = (G.rows : Int) := by omega
  have sK : ((G.cols - 1 : Nat) : Int) - 0 + 1 = (G.cols : Int) := by omega
  refine keepScreen_t k.row k.col k.top k.bot k.fl k.p0 k.p1 k.p2 (C.kcol k.p0) (C.kcol k.p1) (k.p2 % 256) (C.kcol k.fl) (C.kcol 0) 0 (k.row % (G.rows : Int)).toNat (k.col % (G.cols : Int)).toNat (G.rows - 1) (G.cols - 1) (SN.topOf G.rows k.top) (SN.botOf G.rows k.top k.bot) (k.col % (G.rows : Int)).toNat (k.row % (G.cols : Int)).toNat
    (SN.fl k.fl 8) (!SN.fl k.fl 0) (SN.fl k.fl 1) (!SN.fl k.fl 2) (SN.fl k.fl 3) (SN.fl k.fl 4) (SN.fl k.fl 5) (SN.fl k.fl 6) (SN.fl k.fl 7) (decide ((k.col % (G.cols : Int)).toNat + 1 = G.cols)) K0 K1 K2 K3 k.tabs G (SN.keepS G k) w hG hR2 hK2 hR1 hK1 htp (by omega) (by omega) (by omega)
    (hide (fl_not k.fl 0 1 _ (by decide) rfl (by simp))) (hide (fl_is k.fl 1 2 _ (by decide) rfl rfl)) (hide (fl_not k.fl 2 4 _ (by decide) rfl (by simp))) (hide (fl_is k.fl 3 8 _ (by decide) rfl rfl)) (hide (fl_is k.fl 4 16 _ (by decide) rfl rfl)) (hide (fl_is k.fl 5 32 _ (by decide) rfl rfl)) (hide (fl_is k.fl 6 64 _ (by decide) rfl rfl)) (hide (fl_is k.fl 7 128 _ (by decide) rfl rfl))
    (hide (fl_is k.fl 8 256 _ (by decide) rfl rfl)) (hide ?_) (hide ?_) (hide (by omega)) (hide (by omega)) (hide ?_) (hide ?_) (hide ⟨fun h1 => ⟨fun w' => ?_, fun w' => ?_⟩, fun h1 => ⟨if_neg h1, if_neg h1⟩⟩)
    (hide fun w' => within_is k.row 0 _ _ ?_ w' r0 r1 (by omega) (by omega) (by omega)) (hide fun w' => within_is k.col 0 _ _ ?_ w' c0 c1 (by omega) (by omega) (by omega))
    (hide fun w' => within_is k.col 0 _ _ ?_ w' c0 c1 (by omega) (by omega) (by omega)) (hide fun w' => within_is k.row 0 _ _ ?_ w' r0 r1 (by omega) (by omega) (by omega))
    (hide fun w' => ?_) (hide fun w' => keepPen_any k.p0 k.p1 k.p2 w' p0 p0' p1 p1' p2 p2') KG
  · unfold SN.keepS
    simp only [SN.Sc.u6, SN.Sc.u7, SN.Sc.u15, SN.Sc.u16, SN.Sc.u17, SN.Sc.u18, SN.Sc.u19, SN.Sc.u5, SN.Sc.u12, SN.Sc.u14, SN.Sc.uV]
  · by_cases e : (k.col % (G.cols : Int)).toNat + 1 = G.cols
    · rw [decide_eq_true e]
      simp
      omega
    · rw [decide_eq_false e]
      simp
      omega
  · rw [IntWalk.i64_in _ (by omega)]
    omega
  · rw [IntWalk.i64_in _ (by omega)]
    omega
  · obtain ⟨h2, h3⟩ := SN.top_lt h1 k.top
    have m0 := Int.emod_nonneg k.top (b := (G.rows : Int) - 1) (by omega)
    have e : (G.rows : Int) - 2 - 0 + 1 = (G.rows : Int) - 1 := by omega
    refine within_is k.top 0 _ _ ?_ w' t0 t1 (by omega) (by omega) (by omega)
    rw [e, h3]
    omega
  · have h2 := (SN.top_lt h1 k.top).1
    have e0 : SN.botOf G.rows k.top k.bot = SN.topOf G.rows k.top + 1 + (k.bot % ((G.rows : Int) - 1 - SN.topOf G.rows k.top)).toNat := if_pos h1
    have m0 := Int.emod_nonneg k.bot (b := (G.rows : Int) - 1 - SN.topOf G.rows k.top) (by omega)
    have e : (G.rows : Int) - 1 - ((SN.topOf G.rows k.top : Int) + 1) + 1 = (G.rows : Int) - 1 - SN.topOf G.rows k.top := by omega
    refine within_is k.bot _ _ _ ?_ w' b0 b1 (by omega) (by omega) (by omega)
    rw [e, e0]
    omega
  · rw [sR]; omega
  · rw [sK]; omega
  · rw [sR]; omega
  · rw [sK]; omega
  · have h := keepPen_any k.fl 0 0 w' f0 f1 (by omega) (by omega) (by omega) (by omega)
    exact h
end Go.Proofs.YtdcdinlppjlmfaaDoor
