/- The document's own fill, save, restore, home, goTo, told plainly. -/
import Derived.Test.YtdcdinlppjlmfaaDoorCursorSpec
import Derived.Test.YtdcdinlppjlmfaaDoorScreenFit
set_option maxRecDepth 100000
namespace Go.Proofs.YtdcdinlppjlmfaaDoor
open Go.RowKit
set_option linter.unusedVariables false
theorem size_grid : (Tryd.prog.info? 24).map (·.size) = some 3 := by kernel_rfl
/-- a grid stored into a screen's box -/
theorem wpList_store_gr {ops : Array Oper} {rest : List Oper} {o : Oper} {a : Act} {w : World} {Q : Exit → Act → World → Prop} {x y : Value} {s : SN.Sc} {g : Nat} {G : PG.Gr} (h : SBox w g x s) (hgd : o.guard = none) (p z : Operand) (ho : o.op = .store 24 p z) (hx : a.eval p = .pointer (some ⟨g, 0, none⟩))
    (hy : a.eval z = .agg #[.int .i64 G.rows, .int .i64 G.cols, y]) (h1 : y.oneCell' = true)
    (hk : ∀ w', SBox w' g y (s.uG G) → Kept [some g] w w' → w'.heap.size = w.heap.size → wpList Tryd.prog ops Q rest (a.put o.dst undef) w') : wpList Tryd.prog ops Q (o :: rest) a w :=
  wpList_store_boxIn 0 h (by show 0 + 3 ≤ (scA x s).size; rw [scA_size]; decide) hgd _ p z ho hx hy size_grid (by cases y <;> first | (simp [Value.oneCell']; done) | (simp [Value.oneCell'] at h1)) (fun w' h1 h2 h3 => hk w' (by
    have e := scA_setG x y s G
    show Box w' g _ _
    rw [← e]
    exact h1) h2 h3)
set_option maxHeartbeats 2000000 in
theorem rfill_is (s : SN.Sc) (x : Value) (w : World) : Calls Tryd.prog 55 #[.agg (scA x s)] w fun e w' => e = .returned (.agg #[.int .i64 (-1), .int .i64 s.pen.2.1, .int .i64 0]) ∧ Below w.heap.size w w' := by
  go_enter Tryd.func55, Tryd.ntmps55
  go_upto_region 1 with (first | (refine wpList_box_scr rfl _ rfl rfl ?_; intro g w1 hB hb1 hg1))
  have k9 := fun o => (hB.alloc o).c9
  go_wp2_with fail
  refine bodyPost_ret (v := .agg #[.int .i64 (-1), .int .i64 s.pen.2.1, .int .i64 0]) (by simp [results, Tryd.results55, go_sem]) rfl ⟨rfl, hb1.alloc hb1.size _⟩
set_option maxHeartbeats 4000000 in
theorem rsave_is (x : Value) (s : SN.Sc) (w : World) (hx : x.oneCell' = true) :
    Calls Tryd.prog 48 #[.agg (scA x s)] w fun e w' => e = .returned (.agg (scA x (SN.saveS s))) ∧ Below w.heap.size w w' := by
  go_enter Tryd.func48, Tryd.ntmps48
  go_upto_region 1 with (first | (refine wpList_box_scr rfl _ rfl rfl ?_; intro g w1 hB hb1 hg1) | (refine wpList_alloc_scr rfl rfl ?_; intro gR w2 csR hR hsR hb2 hgR))
  have HB2 := hide (hB.below hb2 hB.lt)
  have HW2 := hide (hb1.trans (hb2.mono hb1.size))
  have HR2 := hide hR
  have hb1s := hb1.size
  have hne : gR ≠ g := by have := hB.lt; omega
  have hgR' : w.heap.size ≤ gR := by omega
  have k3 := HB2.out.c3
  have k4 := HB2.out.c4
  have k8 := HB2.out.c8
  have k9 := HB2.out.c9
  have k10 := HB2.out.c10
  have k12 := HB2.out.c12
  have k13 := HB2.out.c13
  have k14 := HB2.out.c14
  have k16 := HB2.out.c16
  clear hB hb1 hb2 hR
  go_upto_region 2 with (refine wpList_store_sv HB2.out (SN.nowV s) rfl _ _ rfl rfl rfl ?_; intro w3 hB3 hk3 hs3)
  have HR3 := hide (HR2.out.kept hk3 (by simp; exact hne))
  have HW3 := hide (HW2.out.trans (hk3.toBelow HW2.out.size (fun k hk => by simp at hk; omega)))
  have HB3 := hide hB3
  clear k3 k4 k8 k9 k10 k12 k13 k14 k16 HB2 HR2 HW2 hB3 hk3
  go_wp2_with (first | (refine wpList_load_scr HB3.out rfl _ rfl rfl ?_) | (refine wpList_store_scr HR3.out hsR rfl _ _ rfl rfl rfl hx ?_; intro w8 hB8 hk8 hs8))
  refine bodyPost_ret (results_scr rfl rfl hB8) rfl ⟨rfl, HW3.out.trans (hk8.toBelow HW3.out.size (fun k hk => by simp at hk; omega))⟩
set_option maxHeartbeats 4000000 in
theorem rrest_is (x : Value) (s t : SN.Sc) (w : World) (hx : x.oneCell' = true) (hs : SN.RightS s) (ht : SN.restS s = t) :
    Calls Tryd.prog 49 #[.agg (scA x s)] w fun e w' => e = .returned (.agg (scA x t)) ∧ Below w.heap.size w w' := by
  have hgr := hs.g.2.1
  have hgc := hs.g.2.2.2.1
  have hvr := hs.sv.row
  have hvc := hs.sv.col
  have AT := hide (fun w' => rat_is x ((((s.uP s.sv.pen).uS s.sv.s0 s.sv.s1).u14 s.sv.sh).u16 s.sv.org) t s.sv.row s.sv.col w' hx hs.g.1 (show s.g.rows ≤ 1000 by omega) hs.g.2.2.1 (show s.g.cols ≤ 1000 by omega) (by omega) (by omega) ht)
  go_enter Tryd.func49, Tryd.ntmps49
  go_upto_region 1 with (first | (refine wpList_box_scr rfl _ rfl rfl ?_; intro g w1 hB hb1 hg1) | (refine wpList_alloc_scr rfl rfl ?_; intro gR w2 csR hR hsR hb2 hgR))
  have HB2 := hide (hB.below hb2 hB.lt)
  have HW2 := hide (hb1.trans (hb2.mono hb1.size))
  have HR2 := hide hR
  have hb1s := hb1.size
  have hne : gR ≠ g := by have := hB.lt; omega
  have hgR' : w.heap.size ≤ gR := by omega
  have k20 := HB2.out.c20
  have k21 := HB2.out.c21
  have k22 := HB2.out.c22
  have k23 := HB2.out.c23
  have k24 := HB2.out.c24
  have k25 := HB2.out.c25
  have k26 := HB2.out.c26
  have k27 := HB2.out.c27
  have k28 := HB2.out.c28
  clear hB hb1 hb2 hR
  go_upto_region 2 with fail
  have HV := hide (Box.new w2 30 #[.int .i64 s.sv.row, .int .i64 s.sv.col, .int .i64 s.sv.pen.1, .int .i64 s.sv.pen.2.1, .int .i64 s.sv.pen.2.2, .int .u8 s.sv.s0, .int .u8 s.sv.s1, .int .i64 s.sv.sh, .bool s.sv.org])
  have HB3 := hide (HB2.out.alloc (.cells #[.int .i64 s.sv.row, .int .i64 s.sv.col, .int .i64 s.sv.pen.1, .int .i64 s.sv.pen.2.1, .int .i64 s.sv.pen.2.2, .int .u8 s.sv.s0, .int .u8 s.sv.s1, .int .i64 s.sv.sh, .bool s.sv.org] 30))
  have HR3 := hide (HR2.out.alloc (.cells #[.int .i64 s.sv.row, .int .i64 s.sv.col, .int .i64 s.sv.pen.1, .int .i64 s.sv.pen.2.1, .int .i64 s.sv.pen.2.2, .int .u8 s.sv.s0, .int .u8 s.sv.s1, .int .i64 s.sv.sh, .bool s.sv.org] 30))
  have HW3 := hide (HW2.out.alloc HW2.out.size (.cells #[.int .i64 s.sv.row, .int .i64 s.sv.col, .int .i64 s.sv.pen.1, .int .i64 s.sv.pen.2.1, .int .i64 s.sv.pen.2.2, .int .u8 s.sv.s0, .int .u8 s.sv.s1, .int .i64 s.sv.sh, .bool s.sv.org] 30))
  have hgv : g ≠ w2.heap.size := by have := HB2.out.lt; omega
  have hgv2 : gR ≠ w2.heap.size := by have := HR2.out.lt; omega
  generalize w2.heap.size = gV at HV hgv hgv2 ⊢
  generalize w2.alloc (.cells #[.int .i64 s.sv.row, .int .i64 s.sv.col, .int .i64 s.sv.pen.1, .int .i64 s.sv.pen.2.1, .int .i64 s.sv.pen.2.2, .int .u8 s.sv.s0, .int .u8 s.sv.s1, .int .i64 s.sv.sh, .bool s.sv.org] 30) = w3 at HV HB3 HR3 HW3 ⊢
  clear k20 k21 k22 k23 k24 k25 k26 k27 k28 HB2 HR2 HW2
  have v2 : w3.cell? ⟨gV, 2, none⟩ = some (.int .i64 s.sv.pen.1) := HV.out.cell 2
  have v3 : w3.cell? ⟨gV, 3, none⟩ = some (.int .i64 s.sv.pen.2.1) := HV.out.cell 3
  have v4 : w3.cell? ⟨gV, 4, none⟩ = some (.int .i64 s.sv.pen.2.2) := HV.out.cell 4
  have v5 : w3.cell? ⟨gV, 5, none⟩ = some (.int .u8 s.sv.s0) := HV.out.cell 5
  have v6 : w3.cell? ⟨gV, 6, none⟩ = some (.int .u8 s.sv.s1) := HV.out.cell 6
  have v7 : w3.cell? ⟨gV, 7, none⟩ = some (.int .i64 s.sv.sh) := HV.out.cell 7
  have v8 : w3.cell? ⟨gV, 8, none⟩ = some (.bool s.sv.org) := HV.out.cell 8
  have k8 := HB3.out.c8
  have k9 := HB3.out.c9
  have k10 := HB3.out.c10
  have k12 := HB3.out.c12
  have k13 := HB3.out.c13
  have k14 := HB3.out.c14
  have k16 := HB3.out.c16
  have z8 := HB3.out.fz 8
  have z9 := HB3.out.fz 9
  have z10 := HB3.out.fz 10
  have z12 := HB3.out.fz 12
  have z13 := HB3.out.fz 13
  have z14 := HB3.out.fz 14
  have z16 := HB3.out.fz 16
  go_region
  go_simp
  go_step
  have hk4 : Kept [some g] w3 (((((((w3.setCell ⟨g, 8, none⟩ (.int .i64 s.sv.pen.1)).setCell ⟨g, 9, none⟩ (.int .i64 s.sv.pen.2.1)).setCell ⟨g, 10, none⟩ (.int .i64 s.sv.pen.2.2)).setCell ⟨g, 12, none⟩ (.int .u8 s.sv.s0)).setCell ⟨g, 13, none⟩ (.int .u8 s.sv.s1)).setCell ⟨g, 14, none⟩ (.int .i64 s.sv.sh)).setCell ⟨g, 16, none⟩ (.bool s.sv.org)).drew := ((((((((Kept.refl [some g] w3).setCell (p := ⟨g, 8, none⟩) (From.mem (by simp)) (.int .i64 s.sv.pen.1)).setCell (p := ⟨g, 9, none⟩) (From.mem (by simp)) (.int .i64 s.sv.pen.2.1)).setCell (p := ⟨g, 10, none⟩) (From.mem (by simp)) (.int .i64 s.sv.pen.2.2)).setCell (p := ⟨g, 12, none⟩) (From.mem (by simp)) (.int .u8 s.sv.s0)).setCell (p := ⟨g, 13, none⟩) (From.mem (by simp)) (.int .u8 s.sv.s1)).setCell (p := ⟨g, 14, none⟩) (From.mem (by simp)) (.int .i64 s.sv.sh)).setCell (p := ⟨g, 16, none⟩) (From.mem (by simp)) (.bool s.sv.org)).drew
  have HB4 := hide (show SBox (((((((w3.setCell ⟨g, 8, none⟩ (.int .i64 s.sv.pen.1)).setCell ⟨g, 9, none⟩ (.int .i64 s.sv.pen.2.1)).setCell ⟨g, 10, none⟩ (.int .i64 s.sv.pen.2.2)).setCell ⟨g, 12, none⟩ (.int .u8 s.sv.s0)).setCell ⟨g, 13, none⟩ (.int .u8 s.sv.s1)).setCell ⟨g, 14, none⟩ (.int .i64 s.sv.sh)).setCell ⟨g, 16, none⟩ (.bool s.sv.org)).drew g x ((((s.uP s.sv.pen).uS s.sv.s0 s.sv.s1).u14 s.sv.sh).u16 s.sv.org) from Box.drew (((((((HB3.out.set8 _).set9 _).set10 _).set12 _).set13 _).set14 _).set16 _))
  generalize (((((((w3.setCell ⟨g, 8, none⟩ (.int .i64 s.sv.pen.1)).setCell ⟨g, 9, none⟩ (.int .i64 s.sv.pen.2.1)).setCell ⟨g, 10, none⟩ (.int .i64 s.sv.pen.2.2)).setCell ⟨g, 12, none⟩ (.int .u8 s.sv.s0)).setCell ⟨g, 13, none⟩ (.int .u8 s.sv.s1)).setCell ⟨g, 14, none⟩ (.int .i64 s.sv.sh)).setCell ⟨g, 16, none⟩ (.bool s.sv.org)).drew = w4 at hk4 HB4 ⊢
  have HV4 := hide (HV.out.kept hk4 (by simp; exact fun e => hgv e.symm))
  have HR4 := hide (HR3.out.kept hk4 (by simp; exact hne))
  have HW4 := hide (HW3.out.trans (hk4.toBelow HW3.out.size (fun k hk => by simp at hk; omega)))
  clear k8 k9 k10 k12 k13 k14 k16 z8 z9 z10 z12 z13 z14 z16 v2 v3 v4 v5 v6 v7 v8 hk4 HV HB3 HR3 HW3
  have v0 : w4.cell? ⟨gV, 0, none⟩ = some (.int .i64 (s.sv.row : Nat)) := HV4.out.cell 0
  have v1 : w4.cell? ⟨gV, 1, none⟩ = some (.int .i64 (s.sv.col : Nat)) := HV4.out.cell 1
  go_wp2_with (refine wpList_load_scr HB4.out rfl _ rfl rfl ?_)
  refine (AT.out _).mono ?_
  rintro e w7 ⟨rfl, hb7⟩
  have HR7 := hide (HR4.out.below hb7 HR4.out.lt)
  have HW7 := hide (HW4.out.trans (hb7.mono HW4.out.size))
  clear hb7 v0 v1 HB4 HR4 HW4 HV4
  go_wp2_with (refine wpList_store_scr HR7.out hsR rfl _ _ rfl rfl rfl hx ?_; intro w8 hB8 hk8 hs8)
  refine bodyPost_ret (results_scr rfl rfl hB8) rfl ⟨rfl, HW7.out.trans (hk8.toBelow HW7.out.size (fun k hk => by simp at hk; omega))⟩
end Go.Proofs.YtdcdinlppjlmfaaDoor
