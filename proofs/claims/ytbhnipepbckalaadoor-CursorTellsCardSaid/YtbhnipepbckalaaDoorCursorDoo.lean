/- The document's own moves to a place, csi, escape and Do, of the events that move the cursor, save it and restore it. (written by tools/gencursordo2.py) -/
import Derived.Test.YtbhnipepbckalaaDoorCursorDo
import Derived.Test.YtbhnipepbckalaaDoorScrStore
import Derived.Deep.DeepCutAuto
set_option maxRecDepth 100000
namespace Go.Proofs.YtbhnipepbckalaaDoor
open Go Go.RowKit
set_option linter.unusedVariables false
set_option maxHeartbeats 16000000 in
theorem rmoves_go (x : Value) (s t : SN.Sc) (tx : ByteArray) (A : Option Addr) (n c B m k : Nat) (l : List Int) (w : World) (hx : x.oneCell' = true) (hs : SN.RightS s) (hl : Seen w B A n (l.map (Value.int .i64))) (hB : B ≤ w.heap.size) (hn : n ≤ 100) (hnc : n ≤ c) (hm : oneL l 0 1 = m) (hk : oneL l 1 1 = k) (hm1 : m ≤ 1073741825) (hk1 : k ≤ 1073741825) (ht : SN.goS s ((m : Int) - 1) ((k : Int) - 1) = t) :
    Calls Tryd.prog 78 #[.agg (scA x s), .agg #[.int .i64 4, .int .i32 0, .int .u8 0, .int .u8 0, .int .u8 72, .slice A n c, .string tx]] w fun e w' => e = .returned (.tuple #[.agg (scA x t), .bool true]) ∧ Below w.heap.size w w' := by
  have hgr := hs.g.2.1
  have hrow := hs.row
  have htop := SN.top_bot hs
  have hbot := hs.bot
  have ON := hide (fun w' (hb : Below w.heap.size w w') => rone_is 72 tx A n c B l 0 1 m w' (hl.below (hb.mono hB)) (Nat.le_trans hB hb.size) hn hnc (by omega) hm)
  have OK := hide (fun w' (hb : Below w.heap.size w w') => rone_is 72 tx A n c B l 1 1 k w' (hl.below (hb.mono hB)) (Nat.le_trans hB hb.size) hn hnc (by omega) hk)
  have GO := hide (fun w' => rgoto_is x s t ((m : Int) - 1) ((k : Int) - 1) w' hx hs (by omega) (by omega) ht)
  clear ht hl hm hk hs
  go_enter Tryd.func78, Tryd.ntmps78
  go_upto_region 1 with (first | (refine wpList_box_scr rfl _ rfl rfl ?_; intro g w1 hB1 hb1 hg1) | (refine wpList_alloc_scr rfl rfl ?_; intro gR w2 csR hR hsR hb2 hgR))
  have hE1 := Box.new w1 47 #[.int .i64 4, .int .i32 0, .int .u8 0, .int .u8 0, .int .u8 72, .slice A n c, .string tx]
  have hbE := hb1.alloc hb1.size (.cells #[.int .i64 4, .int .i32 0, .int .u8 0, .int .u8 0, .int .u8 72, .slice A n c, .string tx] 47)
  have hgE : w1.heap.size < (w1.alloc (.cells #[.int .i64 4, .int .i32 0, .int .u8 0, .int .u8 0, .int .u8 72, .slice A n c, .string tx] 47)).heap.size := by simp
  have hgB : g < (w1.alloc (.cells #[.int .i64 4, .int .i32 0, .int .u8 0, .int .u8 0, .int .u8 72, .slice A n c, .string tx] 47)).heap.size := by have := hB1.lt; omega
  have HB2 := hide ((hB1.alloc (.cells #[.int .i64 4, .int .i32 0, .int .u8 0, .int .u8 0, .int .u8 72, .slice A n c, .string tx] 47)).below hb2 hgB)
  have HE2 := hide (hE1.below hb2 hgE)
  have HW2 := hide (hbE.trans (hb2.mono hbE.size))
  have HR2 := hide hR
  have hgR' : w.heap.size ≤ gR := by have := hbE.size; omega
  generalize w1.heap.size = gE at HE2 ⊢
  clear hE1 hbE hgE hgB hB1 hb1 hb2 hR hgR
  have e0 : w2.cell? ⟨gE, 0, none⟩ = some (.int .i64 4) := HE2.out.cell 0
  have e1 : w2.cell? ⟨gE, 1, none⟩ = some (.int .i32 0) := HE2.out.cell 1
  have e2 : w2.cell? ⟨gE, 2, none⟩ = some (.int .u8 0) := HE2.out.cell 2
  have e3 : w2.cell? ⟨gE, 3, none⟩ = some (.int .u8 0) := HE2.out.cell 3
  have e4 : w2.cell? ⟨gE, 4, none⟩ = some (.int .u8 72) := HE2.out.cell 4
  have e5 : w2.cell? ⟨gE, 5, none⟩ = some (.slice A n c) := HE2.out.cell 5
  have e6 : w2.cell? ⟨gE, 6, none⟩ = some (.string tx) := HE2.out.cell 6
  go_wp2_with fail
  refine (ON.out _ HW2.out).mono ?_
  rintro e w3 ⟨rfl, b3⟩
  have HB3 := hide (HB2.out.below b3 HB2.out.lt)
  have HE3 := hide (HE2.out.below b3 HE2.out.lt)
  have HR3 := hide (HR2.out.below b3 HR2.out.lt)
  have HW3 := hide (HW2.out.trans (b3.mono HW2.out.size))
  clear e0 e1 e2 e3 e4 e5 e6 HB2 HE2 HR2 HW2 b3 ON
  go_upto_region 2 with fail
  have k3 := HB3.out.c3
  go_region
  have HB4 := hide (show SBox w3.drew g x s from Box.drew HB3.out)
  have HE4 := hide (Box.drew HE3.out)
  have HR4 := hide (Box.drew HR3.out)
  have HW4 := hide (HW3.out.drew)
  generalize w3.drew = w4 at HB4 HE4 HR4 HW4 ⊢
  clear k3 HB3 HE3 HR3 HW3
  have k3 := HB4.out.c3
  have k6 := HB4.out.c6
  have k7 := HB4.out.c7
  have e4 : w4.cell? ⟨gE, 4, none⟩ = some (.int .u8 72) := HE4.out.cell 4
  go_simp
  go_step
  go_upto_if 23 with fail
  go_cut [7] from 23 to 27 (fun u wx => (∃ z : Int, u = .int .i64 z) ∧ wx = w4)
  case first =>
    by_cases hb1 : s.top ≤ s.row
    · by_cases hc1 : (s.row : Int) - m < s.top
      · go_wp2_with fail
        go_meet
        exact ⟨⟨_, rfl⟩, rfl⟩
      · go_wp2_with fail
        go_meet
        exact ⟨⟨_, rfl⟩, rfl⟩
    · go_wp2_with fail
      go_meet
      exact ⟨⟨_, rfl⟩, rfl⟩
  case rest =>
    obtain ⟨⟨z1, rfl⟩, rfl⟩ := hcut
    go_upto_if 32 with fail
    go_cut [8] from 32 to 36 (fun u wx => (∃ z : Int, u = .int .i64 z) ∧ wx = wc)
    case first =>
      by_cases hb1 : s.row ≤ s.bot
      · by_cases hc1 : (s.bot : Int) < (s.row : Int) + m
        · go_wp2_with fail
          go_meet
          exact ⟨⟨_, rfl⟩, rfl⟩
        · go_wp2_with fail
          go_meet
          exact ⟨⟨_, rfl⟩, rfl⟩
      · go_wp2_with fail
        go_meet
        exact ⟨⟨_, rfl⟩, rfl⟩
    case rest =>
      obtain ⟨⟨z2, rfl⟩, hw⟩ := hcut
      subst hw
      rename World => w5
      go_upto_region 27 with fail
      have HO := hide (fun w' (hb : Below w5.heap.size w5 w') => OK.out w' (HW4.out.trans (hb.mono HW4.out.size)))
      refine wp_region_gt (n := 111) 7 [] (fun _ => #[]) [(0, 0, 0, 0, 0), (0, 0, 0, 0, 0), (0, 0, 0, 0, 0), (0, 0, 0, 0, 0), (0, 0, 0, 0, 0), (0, 0, 0, 0, 0), (0, 0, 0, 0, 0), (0, 0, 0, 0, 0), (0, 0, 0, 0, 0)] (fun j => [(.agg (scA x s)), (.int .i64 (m : Nat)), (.int .i64 ((m : Int) - 1)), (.agg #[.int .i64 4, .int .i32 0, .int .u8 0, .int .u8 0, .int .u8 72, .slice A n c, .string tx]), (.int .i64 (k : Nat)), (.int .i64 ((k : Int) - 1)), (.agg (scA x t)), undef, undef].getD j undef) [] (fun _ => 0) (by kernel_rfl) (by kernel_rfl) (by kernel_rfl) rfl (by kernel_rfl) (by kernel_rfl) (gno4 rfl) (fun i j h => by revert h; exact gno4 (p := fun _ => _) rfl i) (AllG.nil _) (fun hGS => cases7 ⟨?_, ?_, ?_, ?_, ?_, ?_, ?_⟩) ?_
      · intro L a w' hL hsame hsz hJ hdep hcl
        have hb := hJ.kept.toBelow (Nat.le_refl _) (by simp)
        have e0 : a.eval (.tmp 2) = (.pointer (some ⟨g, 0, none⟩)) := eval_base hsame (by kernel_rfl)
        have hx := hJ.keptBox (HB4.out) (by simp)
        exact Step.val _ rfl rfl (wanted_none rfl) (.agg (scA x s)) w' (fun ρ hρ => exec_load_any hx rfl ρ _ rfl ((hρ _).symm.trans e0)) (hJ.val hGS hcl hL rfl (Below.refl _ _) _ rfl)
      · intro L a w' hL hsame hsz hJ hdep hcl
        have hb := hJ.kept.toBelow (Nat.le_refl _) (by simp)
        have e0 : a.eval (.tmp 6) = (.int .i64 (m : Nat)) := eval_base hsame (by kernel_rfl)
        refine Step.val _ rfl rfl (wanted_none rfl) (.int .i64 (m : Nat)) w' (fun ρ hρ => ?_) (hJ.val hGS hcl hL rfl (Below.refl _ _) _ rfl)
        rw [hρ] at e0
        clear hJ hsame hdep hcl hρ hsz hb
        go_simp
      · intro L a w' hL hsame hsz hJ hdep hcl
        have hb := hJ.kept.toBelow (Nat.le_refl _) (by simp)
        have e0 : a.eval (.tmp 104) = (.int .i64 (m : Nat)) := eval_slot (j := 1) (by kernel_rfl) (hJ.valOf (by decide) (dep_of hdep 1 (by kernel_rfl)) rfl rfl)
        refine Step.val _ rfl rfl (wanted_none rfl) (.int .i64 ((m : Int) - 1)) w' (fun ρ hρ => ?_) (hJ.val hGS hcl hL rfl (Below.refl _ _) _ rfl)
        rw [hρ] at e0
        have ec0 : ρ (.const (.int .i64 1)) = (.int .i64 1) := (hρ _).symm
        clear hJ hsame hdep hcl hρ hsz hb
        go_simp
        exact IntWalk.i64_in _ (by omega)
      · intro L a w' hL hsame hsz hJ hdep hcl
        have hb := hJ.kept.toBelow (Nat.le_refl _) (by simp)
        have e0 : a.eval (.tmp 3) = (.pointer (some ⟨gE, 0, none⟩)) := eval_base hsame (by kernel_rfl)
        have hx := hJ.keptBox (HE4.out) (by simp)
        have q0 : w'.cell? ⟨gE, 0, none⟩ = some (.int .i64 4) := hx.cell 0
        have q1 : w'.cell? ⟨gE, 1, none⟩ = some (.int .i32 0) := hx.cell 1
        have q2 : w'.cell? ⟨gE, 2, none⟩ = some (.int .u8 0) := hx.cell 2
        have q3 : w'.cell? ⟨gE, 3, none⟩ = some (.int .u8 0) := hx.cell 3
        have q4 : w'.cell? ⟨gE, 4, none⟩ = some (.int .u8 72) := hx.cell 4
        have q5 : w'.cell? ⟨gE, 5, none⟩ = some (.slice A n c) := hx.cell 5
        have q6 : w'.cell? ⟨gE, 6, none⟩ = some (.string tx) := hx.cell 6
        refine Step.val _ rfl rfl (wanted_none rfl) (.agg #[.int .i64 4, .int .i32 0, .int .u8 0, .int .u8 0, .int .u8 72, .slice A n c, .string tx]) w' (fun ρ hρ => ?_) (hJ.val hGS hcl hL rfl (Below.refl _ _) _ rfl)
        clear hx
        rw [hρ] at e0
        clear hJ hsame hdep hcl hρ hsz hb
        go_simp
      · intro L a w' hL hsame hsz hJ hdep hcl
        have hb := hJ.kept.toBelow (Nat.le_refl _) (by simp)
        have e0 : a.eval (.tmp 106) = (.agg #[.int .i64 4, .int .i32 0, .int .u8 0, .int .u8 0, .int .u8 72, .slice A n c, .string tx]) := eval_slot (j := 3) (by kernel_rfl) (hJ.valOf (by decide) (dep_of hdep 3 (by kernel_rfl)) rfl rfl)
        refine Step.call _ rfl rfl (wanted_none rfl) 79 #[.agg #[.int .i64 4, .int .i32 0, .int .u8 0, .int .u8 0, .int .u8 72, .slice A n c, .string tx], .int .i64 1, .int .i64 1] (fun ρ hρ => ?_) ?_
        · skip
          rw [hρ] at e0
          have ec0 : ρ (.const (.int .i64 1)) = (.int .i64 1) := (hρ _).symm
          have ef : ρ (.func 79) = .func (.func 79) #[] #[] := (hρ _).symm
          clear hJ hsame hdep hcl hρ hsz hb
          go_simp
        · refine (HO.out _ hb).mono ?_
          rintro e w2 ⟨rfl, bb⟩
          exact ⟨_, rfl, hJ.val hGS hcl hL rfl bb _ rfl⟩
      · intro L a w' hL hsame hsz hJ hdep hcl
        have hb := hJ.kept.toBelow (Nat.le_refl _) (by simp)
        have e0 : a.eval (.tmp 107) = (.int .i64 (k : Nat)) := eval_slot (j := 4) (by kernel_rfl) (hJ.valOf (by decide) (dep_of hdep 4 (by kernel_rfl)) rfl rfl)
        refine Step.val _ rfl rfl (wanted_none rfl) (.int .i64 ((k : Int) - 1)) w' (fun ρ hρ => ?_) (hJ.val hGS hcl hL rfl (Below.refl _ _) _ rfl)
        rw [hρ] at e0
        have ec0 : ρ (.const (.int .i64 1)) = (.int .i64 1) := (hρ _).symm
        clear hJ hsame hdep hcl hρ hsz hb
        go_simp
        exact IntWalk.i64_in _ (by omega)
      · intro L a w' hL hsame hsz hJ hdep hcl
        have hb := hJ.kept.toBelow (Nat.le_refl _) (by simp)
        have e0 : a.eval (.tmp 103) = (.agg (scA x s)) := eval_slot (j := 0) (by kernel_rfl) (hJ.valOf (by decide) (dep_of hdep 0 (by kernel_rfl)) rfl rfl)
        have e1 : a.eval (.tmp 105) = (.int .i64 ((m : Int) - 1)) := eval_slot (j := 2) (by kernel_rfl) (hJ.valOf (by decide) (dep_of hdep 2 (by kernel_rfl)) rfl rfl)
        have e2 : a.eval (.tmp 108) = (.int .i64 ((k : Int) - 1)) := eval_slot (j := 5) (by kernel_rfl) (hJ.valOf (by decide) (dep_of hdep 5 (by kernel_rfl)) rfl rfl)
        refine Step.call _ rfl rfl (wanted_none rfl) 99 #[.agg (scA x s), .int .i64 ((m : Int) - 1), .int .i64 ((k : Int) - 1)] (fun ρ hρ => ?_) ?_
        · skip
          rw [hρ] at e0 e1 e2
          have ef : ρ (.func 99) = .func (.func 99) #[] #[] := (hρ _).symm
          clear hJ hsame hdep hcl hρ hsz hb
          go_simp
        · refine (GO.out _).mono ?_
          rintro e w2 ⟨rfl, bb⟩
          exact ⟨_, rfl, hJ.val hGS hcl hL rfl bb _ rfl⟩
      · intro L u w' hF hall
        change wpList _ _ _ _ (Act.put (Act.put (Act.put (Act.put (Act.put (Act.put (Act.put (Act.put (Act.put (putAll _ u 0 _) (some 103) (u 0)) (some 104) (u 1)) (some 105) (u 2)) (some 106) (u 3)) (some 107) (u 4)) (some 108) (u 5)) (some 109) (u 6)) none (u 7)) (some 5) (u 8)) _
        simp only [putAll]
        have f6 : u 6 = .agg (scA x t) := hF.valOf (j := 6) (by decide) (hall 6 (by decide)) rfl rfl
        have hkk := hF.kept.toBelow (Nat.le_refl _) (by simp)
        clear hF
        generalize u 0 = y0
        generalize u 1 = y1
        generalize u 2 = y2
        generalize u 3 = y3
        generalize u 4 = y4
        generalize u 5 = y5
        generalize u 6 = y6 at f6 ⊢
        generalize u 7 = y7
        generalize u 8 = y8
        subst f6
        simp only [List.drop_succ_cons, List.drop_zero]
        refine wpList_store_scr (x := x) (s := t) (HR4.out.below hkk HR4.out.lt) hsR rfl _ _ rfl (by go_simp) (by go_simp) hx ?_
        intro w8 hB8 hk8 hs8
        refine wpList_exec rfl (.bool true) (by go_simp) ?_
        change Exit.then _ _ Exit.normal _ _
        go_simp
        go_step
        go_wp2_with fail
        have hw := HW4.out.trans (hkk.mono HW4.out.size)
        refine bodyPost_ret (results_scr_b rfl rfl (.bool true) rfl hB8) rfl ⟨rfl, hw.trans (hk8.toBelow hw.size (fun k hh => by simp at hh; omega))⟩
set_option maxHeartbeats 16000000 in
theorem rcsi_is (fn : Int) (x : Value) (s t : SN.Sc) (tx : ByteArray) (A : Option Addr) (n c : Nat) (w : World) (hx : x.oneCell' = true)
    (MV : Hid (∀ w', Below w.heap.size w w' → Calls Tryd.prog 78 #[.agg (scA x s), .agg #[.int .i64 4, .int .i32 0, .int .u8 0, .int .u8 0, .int .u8 fn, .slice A n c, .string tx]] w' fun e w'' => e = .returned (.tuple #[.agg (scA x t), .bool true]) ∧ Below w'.heap.size w' w'')) :
    Calls Tryd.prog 50 #[.agg (scA x s), .agg #[.int .i64 4, .int .i32 0, .int .u8 0, .int .u8 0, .int .u8 fn, .slice A n c, .string tx]] w fun e w' => e = .returned (.agg (scA x t)) ∧ Below w.heap.size w w' := by
  go_enter Tryd.func50, Tryd.ntmps50
  go_upto_region 1 with (first | (refine wpList_box_scr rfl _ rfl rfl ?_; intro g w1 hB1 hb1 hg1) | (refine wpList_alloc_scr rfl rfl ?_; intro gR w2 csR hR hsR hb2 hgR))
  have hE1 := Box.new w1 47 #[.int .i64 4, .int .i32 0, .int .u8 0, .int .u8 0, .int .u8 fn, .slice A n c, .string tx]
  have hbE := hb1.alloc hb1.size (.cells #[.int .i64 4, .int .i32 0, .int .u8 0, .int .u8 0, .int .u8 fn, .slice A n c, .string tx] 47)
  have hgE : w1.heap.size < (w1.alloc (.cells #[.int .i64 4, .int .i32 0, .int .u8 0, .int .u8 0, .int .u8 fn, .slice A n c, .string tx] 47)).heap.size := by simp
  have hgB : g < (w1.alloc (.cells #[.int .i64 4, .int .i32 0, .int .u8 0, .int .u8 0, .int .u8 fn, .slice A n c, .string tx] 47)).heap.size := by have := hB1.lt; omega
  have HB2 := hide ((hB1.alloc (.cells #[.int .i64 4, .int .i32 0, .int .u8 0, .int .u8 0, .int .u8 fn, .slice A n c, .string tx] 47)).below hb2 hgB)
  have HE2 := hide (hE1.below hb2 hgE)
  have HW2 := hide (hbE.trans (hb2.mono hbE.size))
  have HR2 := hide hR
  have hgR' : w.heap.size ≤ gR := by have := hbE.size; omega
  generalize w1.heap.size = gE at HE2 ⊢
  clear hE1 hbE hgE hgB hB1 hb1 hb2 hR hgR
  have e0 : w2.cell? ⟨gE, 0, none⟩ = some (.int .i64 4) := HE2.out.cell 0
  have e1 : w2.cell? ⟨gE, 1, none⟩ = some (.int .i32 0) := HE2.out.cell 1
  have e2 : w2.cell? ⟨gE, 2, none⟩ = some (.int .u8 0) := HE2.out.cell 2
  have e3 : w2.cell? ⟨gE, 3, none⟩ = some (.int .u8 0) := HE2.out.cell 3
  have e4 : w2.cell? ⟨gE, 4, none⟩ = some (.int .u8 fn) := HE2.out.cell 4
  have e5 : w2.cell? ⟨gE, 5, none⟩ = some (.slice A n c) := HE2.out.cell 5
  have e6 : w2.cell? ⟨gE, 6, none⟩ = some (.string tx) := HE2.out.cell 6
  go_wp2_with (refine wpList_load_scr HB2.out rfl _ rfl rfl ?_)
  refine (MV.out _ HW2.out).mono ?_
  rintro e w3 ⟨rfl, b3⟩
  have HB3 := hide (HB2.out.below b3 HB2.out.lt)
  have HR3 := hide (HR2.out.below b3 HR2.out.lt)
  have HW3 := hide (HW2.out.trans (b3.mono HW2.out.size))
  clear e0 e1 e2 e3 e4 e5 e6 HB2 HE2 HR2 HW2 b3 MV
  go_upto_region 12 with (first | (refine wpList_alloc_scr rfl rfl ?_; intro g7 w4 cs7 h7 hs7 hb4 hg7) | (refine wpList_store_scr h7 hs7 rfl _ _ rfl rfl rfl hx ?_; intro w5 hB5 hk5 hs5))
  have hr5 : gR ≠ g7 := by have := HR3.out.lt; omega
  have hw4 := HW3.out.trans (hb4.mono HW3.out.size)
  have hlt7 : w.heap.size ≤ g7 := by have := HW3.out.size; omega
  have HR5 := hide ((HR3.out.below hb4 HR3.out.lt).kept hk5 (by simp; exact hr5))
  have HW5 := hide (hw4.trans (hk5.toBelow hw4.size (fun k hk => by simp at hk; omega)))
  have HB5 := hide hB5
  clear HR3 HW3 HB3 hB5 hk5 hb4 h7 hw4
  go_wp2_with (first | (refine wpList_load_scr HB5.out rfl _ rfl rfl ?_) | (refine wpList_store_scr HR5.out hsR rfl _ _ rfl rfl rfl hx ?_; intro w8 hB8 hk8 hs8))
  refine bodyPost_ret (results_scr rfl rfl hB8) rfl ⟨rfl, HW5.out.trans (hk8.toBelow HW5.out.size (fun k hk => by simp at hk; omega))⟩
set_option maxHeartbeats 16000000 in
theorem resc_save (x : Value) (s : SN.Sc) (tx : ByteArray) (A : Option Addr) (n c : Nat) (w : World) (hx : x.oneCell' = true) (hs : SN.RightS s) :
    Calls Tryd.prog 49 #[.agg (scA x s), .agg #[.int .i64 3, .int .i32 0, .int .u8 0, .int .u8 0, .int .u8 55, .slice A n c, .string tx]] w fun e w' => e = .returned (.agg (scA x (SN.saveS s))) ∧ Below w.heap.size w w' := by
  have SV := hide (fun w' => rsave_is x s w' hx)
  generalize SN.saveS s = t at SV ⊢
  clear hs
  go_enter Tryd.func49, Tryd.ntmps49
  go_upto_region 1 with (first | (refine wpList_box_scr rfl _ rfl rfl ?_; intro g w1 hB1 hb1 hg1) | (refine wpList_alloc_scr rfl rfl ?_; intro gR w2 csR hR hsR hb2 hgR))
  have hE1 := Box.new w1 47 #[.int .i64 3, .int .i32 0, .int .u8 0, .int .u8 0, .int .u8 55, .slice A n c, .string tx]
  have hbE := hb1.alloc hb1.size (.cells #[.int .i64 3, .int .i32 0, .int .u8 0, .int .u8 0, .int .u8 55, .slice A n c, .string tx] 47)
  have hgE : w1.heap.size < (w1.alloc (.cells #[.int .i64 3, .int .i32 0, .int .u8 0, .int .u8 0, .int .u8 55, .slice A n c, .string tx] 47)).heap.size := by simp
  have hgB : g < (w1.alloc (.cells #[.int .i64 3, .int .i32 0, .int .u8 0, .int .u8 0, .int .u8 55, .slice A n c, .string tx] 47)).heap.size := by have := hB1.lt; omega
  have HB2 := hide ((hB1.alloc (.cells #[.int .i64 3, .int .i32 0, .int .u8 0, .int .u8 0, .int .u8 55, .slice A n c, .string tx] 47)).below hb2 hgB)
  have HE2 := hide (hE1.below hb2 hgE)
  have HW2 := hide (hbE.trans (hb2.mono hbE.size))
  have HR2 := hide hR
  have hgR' : w.heap.size ≤ gR := by have := hbE.size; omega
  generalize w1.heap.size = gE at HE2 ⊢
  clear hE1 hbE hgE hgB hB1 hb1 hb2 hR hgR
  have e0 : w2.cell? ⟨gE, 0, none⟩ = some (.int .i64 3) := HE2.out.cell 0
  have e1 : w2.cell? ⟨gE, 1, none⟩ = some (.int .i32 0) := HE2.out.cell 1
  have e2 : w2.cell? ⟨gE, 2, none⟩ = some (.int .u8 0) := HE2.out.cell 2
  have e3 : w2.cell? ⟨gE, 3, none⟩ = some (.int .u8 0) := HE2.out.cell 3
  have e4 : w2.cell? ⟨gE, 4, none⟩ = some (.int .u8 55) := HE2.out.cell 4
  have e5 : w2.cell? ⟨gE, 5, none⟩ = some (.slice A n c) := HE2.out.cell 5
  have e6 : w2.cell? ⟨gE, 6, none⟩ = some (.string tx) := HE2.out.cell 6
  go_wp2_with (refine wpList_load_scr HB2.out rfl _ rfl rfl ?_)
  refine (SV.out _).mono ?_
  rintro e w3 ⟨rfl, b3⟩
  have HB3 := hide (HB2.out.below b3 HB2.out.lt)
  have HR3 := hide (HR2.out.below b3 HR2.out.lt)
  have HW3 := hide (HW2.out.trans (b3.mono HW2.out.size))
  clear e0 e1 e2 e3 e4 e5 e6 HB2 HE2 HR2 HW2 b3 SV
  go_wp2_with (refine wpList_store_scr HR3.out hsR rfl _ _ rfl rfl rfl hx ?_; intro w8 hB8 hk8 hs8)
  refine bodyPost_ret (results_scr rfl rfl hB8) rfl ⟨rfl, HW3.out.trans (hk8.toBelow HW3.out.size (fun k hk => by simp at hk; omega))⟩
set_option maxHeartbeats 16000000 in
theorem resc_rest (x : Value) (s : SN.Sc) (tx : ByteArray) (A : Option Addr) (n c : Nat) (w : World) (hx : x.oneCell' = true) (hs : SN.RightS s) :
    Calls Tryd.prog 49 #[.agg (scA x s), .agg #[.int .i64 3, .int .i32 0, .int .u8 0, .int .u8 0, .int .u8 56, .slice A n c, .string tx]] w fun e w' => e = .returned (.agg (scA x (SN.restS s))) ∧ Below w.heap.size w w' := by
  have SV := hide (fun w' => rrest_is x s (SN.restS s) w' hx hs rfl)
  generalize SN.restS s = t at SV ⊢
  clear hs
  go_enter Tryd.func49, Tryd.ntmps49
  go_upto_region 1 with (first | (refine wpList_box_scr rfl _ rfl rfl ?_; intro g w1 hB1 hb1 hg1) | (refine wpList_alloc_scr rfl rfl ?_; intro gR w2 csR hR hsR hb2 hgR))
  have hE1 := Box.new w1 47 #[.int .i64 3, .int .i32 0, .int .u8 0, .int .u8 0, .int .u8 56, .slice A n c, .string tx]
  have hbE := hb1.alloc hb1.size (.cells #[.int .i64 3, .int .i32 0, .int .u8 0, .int .u8 0, .int .u8 56, .slice A n c, .string tx] 47)
  have hgE : w1.heap.size < (w1.alloc (.cells #[.int .i64 3, .int .i32 0, .int .u8 0, .int .u8 0, .int .u8 56, .slice A n c, .string tx] 47)).heap.size := by simp
  have hgB : g < (w1.alloc (.cells #[.int .i64 3, .int .i32 0, .int .u8 0, .int .u8 0, .int .u8 56, .slice A n c, .string tx] 47)).heap.size := by have := hB1.lt; omega
  have HB2 := hide ((hB1.alloc (.cells #[.int .i64 3, .int .i32 0, .int .u8 0, .int .u8 0, .int .u8 56, .slice A n c, .string tx] 47)).below hb2 hgB)
  have HE2 := hide (hE1.below hb2 hgE)
  have HW2 := hide (hbE.trans (hb2.mono hbE.size))
  have HR2 := hide hR
  have hgR' : w.heap.size ≤ gR := by have := hbE.size; omega
  generalize w1.heap.size = gE at HE2 ⊢
  clear hE1 hbE hgE hgB hB1 hb1 hb2 hR hgR
  have e0 : w2.cell? ⟨gE, 0, none⟩ = some (.int .i64 3) := HE2.out.cell 0
  have e1 : w2.cell? ⟨gE, 1, none⟩ = some (.int .i32 0) := HE2.out.cell 1
  have e2 : w2.cell? ⟨gE, 2, none⟩ = some (.int .u8 0) := HE2.out.cell 2
  have e3 : w2.cell? ⟨gE, 3, none⟩ = some (.int .u8 0) := HE2.out.cell 3
  have e4 : w2.cell? ⟨gE, 4, none⟩ = some (.int .u8 56) := HE2.out.cell 4
  have e5 : w2.cell? ⟨gE, 5, none⟩ = some (.slice A n c) := HE2.out.cell 5
  have e6 : w2.cell? ⟨gE, 6, none⟩ = some (.string tx) := HE2.out.cell 6
  go_wp2_with (refine wpList_load_scr HB2.out rfl _ rfl rfl ?_)
  refine (SV.out _).mono ?_
  rintro e w3 ⟨rfl, b3⟩
  have HB3 := hide (HB2.out.below b3 HB2.out.lt)
  have HR3 := hide (HR2.out.below b3 HR2.out.lt)
  have HW3 := hide (HW2.out.trans (b3.mono HW2.out.size))
  clear e0 e1 e2 e3 e4 e5 e6 HB2 HE2 HR2 HW2 b3 SV
  go_wp2_with (refine wpList_store_scr HR3.out hsR rfl _ _ rfl rfl rfl hx ?_; intro w8 hB8 hk8 hs8)
  refine bodyPost_ret (results_scr rfl rfl hB8) rfl ⟨rfl, HW3.out.trans (hk8.toBelow HW3.out.size (fun k hk => by simp at hk; omega))⟩
set_option maxHeartbeats 16000000 in
theorem rdo_csi (fn : Int) (x : Value) (s t : SN.Sc) (tx : ByteArray) (A : Option Addr) (n c : Nat) (w : World) (hx : x.oneCell' = true)
    (CS : Hid (∀ w', Below w.heap.size w w' → Calls Tryd.prog 50 #[.agg (scA x s), .agg #[.int .i64 4, .int .i32 0, .int .u8 0, .int .u8 0, .int .u8 fn, .slice A n c, .string tx]] w' fun e w'' => e = .returned (.agg (scA x t)) ∧ Below w'.heap.size w' w'')) :
    Calls Tryd.prog 20 #[.agg (scA x s), .agg #[.int .i64 4, .int .i32 0, .int .u8 0, .int .u8 0, .int .u8 fn, .slice A n c, .string tx]] w fun e w' => e = .returned (.agg (scA x t)) ∧ Below w.heap.size w w' := by
  go_enter Tryd.func20, Tryd.ntmps20
  go_upto_region 1 with (first | (refine wpList_box_scr rfl _ rfl rfl ?_; intro g w1 hB1 hb1 hg1) | (refine wpList_alloc_scr rfl rfl ?_; intro gR w2 csR hR hsR hb2 hgR))
  have hE1 := Box.new w1 47 #[.int .i64 4, .int .i32 0, .int .u8 0, .int .u8 0, .int .u8 fn, .slice A n c, .string tx]
  have hbE := hb1.alloc hb1.size (.cells #[.int .i64 4, .int .i32 0, .int .u8 0, .int .u8 0, .int .u8 fn, .slice A n c, .string tx] 47)
  have hgE : w1.heap.size < (w1.alloc (.cells #[.int .i64 4, .int .i32 0, .int .u8 0, .int .u8 0, .int .u8 fn, .slice A n c, .string tx] 47)).heap.size := by simp
  have hgB : g < (w1.alloc (.cells #[.int .i64 4, .int .i32 0, .int .u8 0, .int .u8 0, .int .u8 fn, .slice A n c, .string tx] 47)).heap.size := by have := hB1.lt; omega
  have HB2 := hide ((hB1.alloc (.cells #[.int .i64 4, .int .i32 0, .int .u8 0, .int .u8 0, .int .u8 fn, .slice A n c, .string tx] 47)).below hb2 hgB)
  have HE2 := hide (hE1.below hb2 hgE)
  have HW2 := hide (hbE.trans (hb2.mono hbE.size))
  have HR2 := hide hR
  have hgR' : w.heap.size ≤ gR := by have := hbE.size; omega
  generalize w1.heap.size = gE at HE2 ⊢
  clear hE1 hbE hgE hgB hB1 hb1 hb2 hR hgR
  have e0 : w2.cell? ⟨gE, 0, none⟩ = some (.int .i64 4) := HE2.out.cell 0
  have e1 : w2.cell? ⟨gE, 1, none⟩ = some (.int .i32 0) := HE2.out.cell 1
  have e2 : w2.cell? ⟨gE, 2, none⟩ = some (.int .u8 0) := HE2.out.cell 2
  have e3 : w2.cell? ⟨gE, 3, none⟩ = some (.int .u8 0) := HE2.out.cell 3
  have e4 : w2.cell? ⟨gE, 4, none⟩ = some (.int .u8 fn) := HE2.out.cell 4
  have e5 : w2.cell? ⟨gE, 5, none⟩ = some (.slice A n c) := HE2.out.cell 5
  have e6 : w2.cell? ⟨gE, 6, none⟩ = some (.string tx) := HE2.out.cell 6
  go_wp2_with (refine wpList_load_scr HB2.out rfl _ rfl rfl ?_)
  refine (CS.out _ HW2.out).mono ?_
  rintro e w3 ⟨rfl, b3⟩
  have HB3 := hide (HB2.out.below b3 HB2.out.lt)
  have HR3 := hide (HR2.out.below b3 HR2.out.lt)
  have HW3 := hide (HW2.out.trans (b3.mono HW2.out.size))
  clear e0 e1 e2 e3 e4 e5 e6 HB2 HE2 HR2 HW2 b3 CS
  go_wp2_with (refine wpList_store_scr HR3.out hsR rfl _ _ rfl rfl rfl hx ?_; intro w8 hB8 hk8 hs8)
  refine bodyPost_ret (results_scr rfl rfl hB8) rfl ⟨rfl, HW3.out.trans (hk8.toBelow HW3.out.size (fun k hk => by simp at hk; omega))⟩
set_option maxHeartbeats 16000000 in
theorem rdo_esc (fn : Int) (x : Value) (s t : SN.Sc) (tx : ByteArray) (A : Option Addr) (n c : Nat) (w : World) (hx : x.oneCell' = true)
    (CS : Hid (∀ w', Below w.heap.size w w' → Calls Tryd.prog 49 #[.agg (scA x s), .agg #[.int .i64 3, .int .i32 0, .int .u8 0, .int .u8 0, .int .u8 fn, .slice A n c, .string tx]] w' fun e w'' => e = .returned (.agg (scA x t)) ∧ Below w'.heap.size w' w'')) :
    Calls Tryd.prog 20 #[.agg (scA x s), .agg #[.int .i64 3, .int .i32 0, .int .u8 0, .int .u8 0, .int .u8 fn, .slice A n c, .string tx]] w fun e w' => e = .returned (.agg (scA x t)) ∧ Below w.heap.size w w' := by
  go_enter Tryd.func20, Tryd.ntmps20
  go_upto_region 1 with (first | (refine wpList_box_scr rfl _ rfl rfl ?_; intro g w1 hB1 hb1 hg1) | (refine wpList_alloc_scr rfl rfl ?_; intro gR w2 csR hR hsR hb2 hgR))
  have hE1 := Box.new w1 47 #[.int .i64 3, .int .i32 0, .int .u8 0, .int .u8 0, .int .u8 fn, .slice A n c, .string tx]
  have hbE := hb1.alloc hb1.size (.cells #[.int .i64 3, .int .i32 0, .int .u8 0, .int .u8 0, .int .u8 fn, .slice A n c, .string tx] 47)
  have hgE : w1.heap.size < (w1.alloc (.cells #[.int .i64 3, .int .i32 0, .int .u8 0, .int .u8 0, .int .u8 fn, .slice A n c, .string tx] 47)).heap.size := by simp
  have hgB : g < (w1.alloc (.cells #[.int .i64 3, .int .i32 0, .int .u8 0, .int .u8 0, .int .u8 fn, .slice A n c, .string tx] 47)).heap.size := by have := hB1.lt; omega
  have HB2 := hide ((hB1.alloc (.cells #[.int .i64 3, .int .i32 0, .int .u8 0, .int .u8 0, .int .u8 fn, .slice A n c, .string tx] 47)).below hb2 hgB)
  have HE2 := hide (hE1.below hb2 hgE)
  have HW2 := hide (hbE.trans (hb2.mono hbE.size))
  have HR2 := hide hR
  have hgR' : w.heap.size ≤ gR := by have := hbE.size; omega
  generalize w1.heap.size = gE at HE2 ⊢
  clear hE1 hbE hgE hgB hB1 hb1 hb2 hR hgR
  have e0 : w2.cell? ⟨gE, 0, none⟩ = some (.int .i64 3) := HE2.out.cell 0
  have e1 : w2.cell? ⟨gE, 1, none⟩ = some (.int .i32 0) := HE2.out.cell 1
  have e2 : w2.cell? ⟨gE, 2, none⟩ = some (.int .u8 0) := HE2.out.cell 2
  have e3 : w2.cell? ⟨gE, 3, none⟩ = some (.int .u8 0) := HE2.out.cell 3
  have e4 : w2.cell? ⟨gE, 4, none⟩ = some (.int .u8 fn) := HE2.out.cell 4
  have e5 : w2.cell? ⟨gE, 5, none⟩ = some (.slice A n c) := HE2.out.cell 5
  have e6 : w2.cell? ⟨gE, 6, none⟩ = some (.string tx) := HE2.out.cell 6
  go_wp2_with (refine wpList_load_scr HB2.out rfl _ rfl rfl ?_)
  refine (CS.out _ HW2.out).mono ?_
  rintro e w3 ⟨rfl, b3⟩
  have HB3 := hide (HB2.out.below b3 HB2.out.lt)
  have HR3 := hide (HR2.out.below b3 HR2.out.lt)
  have HW3 := hide (HW2.out.trans (b3.mono HW2.out.size))
  clear e0 e1 e2 e3 e4 e5 e6 HB2 HE2 HR2 HW2 b3 CS
  go_wp2_with (refine wpList_store_scr HR3.out hsR rfl _ _ rfl rfl rfl hx ?_; intro w8 hB8 hk8 hs8)
  refine bodyPost_ret (results_scr rfl rfl hB8) rfl ⟨rfl, HW3.out.trans (hk8.toBelow HW3.out.size (fun k hk => by simp at hk; omega))⟩
end Go.Proofs.YtbhnipepbckalaaDoor
