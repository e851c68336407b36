/- Package edit's inRow: a row's cells moved. Package edit's ofRows: rows moved. What package edit's functions make, told of plain grids. Package edit's Line and Erase, told of plain grids. Package edit's Erase, told of plain grids; Line's and Erase's words for the laws. What package edit's Line and Erase make, told of plain grids, for the laws (Insert, Delete, Up, Down: EditMany). -/
import Derived.Test.YtbhnipepbckalaaDoorEditMem
import Derived.Test.YtbhnipepbckalaaDoorGridShift
set_option maxRecDepth 100000
namespace Go.Proofs.YtbhnipepbckalaaDoor
open Go.RowKit
set_option linter.unusedVariables false
end Go.Proofs.YtbhnipepbckalaaDoor
set_option maxRecDepth 100000
namespace Go.Proofs.YtbhnipepbckalaaDoor
open Go.RowKit
set_option linter.unusedVariables false
set_option maxHeartbeats 8000000 in
theorem lines_push {G : PG.Gr} {v : Value} {w : World} (hG : PG.RightG G) (h : IsG w G v) (t b : Nat) (m : Int) (p : PG.Pn) (ht : t ≤ b) (hb : b < G.rows) (hm0 : 0 ≤ m) (hm1 : m ≤ 65535) :
    Calls Tryd.prog 61 #[.func (.func 69) #[] #[], v, .int .i64 t, .int .i64 b, .int .i64 m, pv p] w (GotG w (PG.scrollG G t b (-m) p)) := by
  obtain ⟨A, cp, rfl, hl, h1, h2⟩ := h.open_
  have hR := hG.2.1
  have hK := hG.2.2.2.1
  have hK0 := hG.2.2.1
  have hnn : 0 * G.cols + 0 < G.rows * G.cols := PG.place_lt hG.1 hG.2.2.1
  obtain ⟨c0, hc0'⟩ : ∃ c0, (PG.cells G)[0]? = some c0 := ⟨_, List.getElem?_eq_getElem (by rw [PG.cells_len]; omega)⟩
  obtain ⟨ad, rfl, _⟩ := hl.at_ hc0'
  clear hc0'
  have e1 : t * G.cols + (b + 1 - t) * G.cols = (b + 1) * G.cols := by rw [← Nat.add_mul]; congr 1; omega
  have hle : (b + 1) * G.cols ≤ G.rows * G.cols := Nat.mul_le_mul_right _ hb
  have h24 := size_le hG
  have hMp : 0 < (b + 1 - t) * G.cols := Nat.mul_pos (by omega) hK0
  obtain ⟨D, hD⟩ : ∃ D, b + 1 - t = D := ⟨_, rfl⟩
  obtain ⟨q, hk, hkm, hkd⟩ : ∃ q : Nat, ((m ≤ (b : Int) + 1 - t ∧ m = q) ∨ ((b : Int) + 1 - t < m ∧ q = b + 1 - t)) ∧ ((0 ≤ m ∧ m ≤ D ∧ (q : Int) = m) ∨ (0 ≤ (D : Int) ∧ (D : Int) < m ∧ (q : Int) = D)) ∧ q ≤ D := ⟨(min m ((b : Int) + 1 - t)).toNat, by omega, by omega, by omega⟩
  have hQm : q * G.cols ≤ D * G.cols := Nat.mul_le_mul_right _ hkd
  have hQe : (q : Int) * (G.cols : Int) = ((q * G.cols : Nat) : Int) := by simp
  have CL := hide (fun w' (hb : Below w.heap.size w w') => eclone_any G.rows G.cols (G.rows * G.cols) cp w.heap.size ad (PG.cells G) w' (hl.below hb) hb.size (by omega))
  have IP := hide (fun (wx : World) g cap (x : Int) (he : EIn w G.rows G.cols (G.rows * G.cols) g cap p (PG.cells G) wx) (hx : x = t ∨ x = b) => isplace_any hG (v := gv G.rows G.cols (.slice (some ⟨g, 0, none⟩) (G.rows * G.cols) cap)) (w := wx) ⟨_, rfl, own_base' he.2.2.2.1 (Nat.zero_le _)⟩ x 0 true (.inl ⟨rfl, by omega, by omega, by omega, by omega⟩))
  have RW := hide (fun g cap (h1 : G.rows * G.cols ≤ cap) (h2 : cap ≤ maxLen) (wx : World) => (show Calls Tryd.prog 92 #[gv G.rows G.cols (.slice (some ⟨g, 0, none⟩) (G.rows * G.cols) cap), .int .i64 t, .int .i64 ((b : Int) + 1)] wx fun e w' => e = .returned (.slice (some ⟨g, t * G.cols * 5, none⟩) ((b + 1 - t) * G.cols) (cap - t * G.cols)) ∧ Below wx.heap.size wx w' by
    have h := rows_e G.rows G.cols (G.rows * G.cols) cap g t (b + 1) (t * G.cols) ((b + 1 - t) * G.cols) wx rfl e1 rfl (by omega) hR hK h1 h2
    rw [rowsV_pos (n := G.rows * G.cols) (by omega) h1 (by omega)] at h
    exact h))
  have MV := hide (fun g cap cp (h1 : (b + 1 - t) * G.cols ≤ cp) (h2 : cp ≤ maxLen) (wx : World) (ho : wx.ownsRow w.heap.size 56 5 (.slice (some ⟨g, 0, none⟩) (G.rows * G.cols) cap) (G.rows * G.cols) (ccells (PG.cells G))) => epush_rows hG ht hb rfl m hm0 q hk p h1 h2 ho)
  have WI := hide (fun wx => within_e m D q wx hkm)
  have HS := hide (PG.scroll_size G t b (-m) p)
  have HLG := hide (PG.cells_len G)
  have HL2 := hide (show (PG.cells (PG.scrollG G t b (-m) p)).length = G.rows * G.cols by rw [PG.cells_len, HS.out.1, HS.out.2])
  have HCL := hide (rfl : PG.cells (PG.scrollG G t b (-m) p) = PG.cells (PG.scrollG G t b (-m) p))
  have GOT : ∀ (g cap : Nat) (w3 : World), w3.ownsRow w.heap.size 56 5 (.slice (some ⟨g, 0, none⟩) (G.rows * G.cols) cap) (G.rows * G.cols) (ccells (PG.cells (PG.scrollG G t b (-m) p))) → Below w.heap.size w w3 → GotG w (PG.scrollG G t b (-m) p) (.returned (gv G.rows G.cols (.slice (some ⟨g, 0, none⟩) (G.rows * G.cols) cap))) w3 := fun g cap w3 ho hb => by
    refine ⟨_, rfl, ⟨.slice (some ⟨g, 0, none⟩) (G.rows * G.cols) cap, by rw [HS.out.1, HS.out.2], ?_⟩, hb⟩
    rw [HS.out.1, HS.out.2]
    exact own_base' ho (Nat.zero_le _)
  have GOT := hide GOT
  generalize PG.cells (PG.scrollG G t b (-m) p) = l2 at *
  generalize PG.cells G = l1 at *
  rw [hD] at MV RW e1 hMp
  have q0 : (b : Int) + 1 - (t : Int) = (D : Int) := by omega
  have htb : (t : Int) ≤ (b : Int) := by omega
  have hrI : (b : Int) + 1 ≤ 40 := by omega
  have hDb : D ≤ 40 := by omega
  have hq4 : q ≤ 40 := by omega
  generalize q * G.cols = Q at *
  generalize D * G.cols = M at *
  generalize t * G.cols = z at *
  generalize (b + 1) * G.cols = z2 at *
  generalize G.rows * G.cols = n at *
  unfold GaveG at CL
  clear h hl h2
  unfold gv pv at *
  go_enter Tryd.func61, Tryd.ntmps61
  go_upto_region 2 with (
       go_at_call 90
       obtain ⟨x0, x1, x2, bw⟩ := boxes3 (w := w) (t0 := 24) (t1 := 26) (t2 := 24) (cs := #[.int .i64 G.rows, .int .i64 G.cols, .slice (some ad) n cp]) (ds := #[.int .i64 p.1, .int .i64 p.2.1, .int .i64 p.2.2]) (es := #[.int .i64 0, .int .i64 0, .slice none 0 0])
       go_must (refine (CL.out _ bw).mono ?_)
       rintro e w1 ⟨v1, rfl, o1, b1⟩
       rw [HLG.out] at o1
       obtain ⟨g, cap, rfl, hgb, hnc, hcm⟩ := own_at o1 (by omega)
       have y0 := x0.below b1 x0.lt
       have y1 := x1.below b1 x1.lt
       have y2 := x2.below b1 x2.lt
       have bb := bw.trans (b1.mono bw.size)
       have o1 := own_base' o1 bw.size
       obtain ⟨a0, a1, a2, a3, a4, a5⟩ := y0.three
       have n0 := own_ne_box o1 y0 (by decide)
       have X0 := (y0.set3 (.int .i64 G.rows) (.int .i64 G.cols) (.slice (some ⟨g, 0, none⟩) n cap))
       have X1 := (y1.far3 (g' := w.heap.size) (by omega) (.int .i64 G.rows) (.int .i64 G.cols) (.slice (some ⟨g, 0, none⟩) n cap))
       have X2 := (y2.far3 (g' := w.heap.size) (by omega) (.int .i64 G.rows) (.int .i64 G.cols) (.slice (some ⟨g, 0, none⟩) n cap))
       have O := (ownsRow_setCell_other (ownsRow_setCell_other (ownsRow_setCell_other o1 (a := ⟨w.heap.size, 0, none⟩) n0 (.int .i64 G.rows)) (a := ⟨w.heap.size, 1, none⟩) n0 (.int .i64 G.cols)) (a := ⟨w.heap.size, 2, none⟩) n0 (.slice (some ⟨g, 0, none⟩) n cap))
       have bs := (below_set3 bb (Nat.le_refl _) (.int .i64 G.rows) (.int .i64 G.cols) (.slice (some ⟨g, 0, none⟩) n cap))
       have H := hide (show EIn w G.rows G.cols n g cap p l1 _ from ⟨X0, X1, X2, O, bs⟩)
       clear x0 x1 x2 bw b1 y0 y1 y2 CL o1 n0 bb X0 X1 X2 O bs)
  go_cut [29] (fun u wx => u = .bool false ∧ EIn w G.rows G.cols n g cap p l1 wx)
  case first =>
    generalize (((w1.setCell ⟨w.heap.size, 0, none⟩ (.int .i64 G.rows)).setCell ⟨w.heap.size, 1, none⟩ (.int .i64 G.cols)).setCell ⟨w.heap.size, 2, none⟩ (.slice (some ⟨g, 0, none⟩) n cap)) = w0 at *
    obtain ⟨s0, s1, s2, _⟩ := H.out.1.three
    clear a0 a1 a2 a3 a4 a5
    have hdb : decide (b < t) = false := by simp; omega
    go_wp2_with (
      go_at_call 91
      go_must (refine (IP.out _ g cap _ H.out (by first | exact Or.inl rfl | exact Or.inr rfl)).mono ?_)
      rintro e w2 ⟨rfl, b2⟩
      have H := hide (H.out.call b2)
      clear b2
      obtain ⟨r0, r1, r2, _⟩ := H.out.1.three)
    go_meet
    exact ⟨rfl, H.out⟩
  case rest =>
  obtain ⟨rfl, H⟩ := hcut
  have H := hide H
  go_upto_region 4 with fail
  have MV := hide (MV.out g cap (cap - z) (by omega) (by simp only [maxLen] at hcm ⊢; omega))
  have RW := hide (RW.out g cap hnc hcm)
  have WI := hide (fun wx => (WI.out wx).mono (fun e w' h => (show e = .returned (.int .i64 q) ∧ Below wx.heap.size wx w' from ⟨h.1, h.2 ▸ Below.refl _ _⟩)))
  have ST := hide (show ∀ (b : Bool) (x y : World), EIn w G.rows G.cols n g cap p (if b = true then l2 else l1) x → Below x.heap.size x y → EIn w G.rows G.cols n g cap p (if b = true then l2 else l1) y from fun b x y h hb => h.call hb)
  have FIN := hide (show ∀ (x y : World), EIn w G.rows G.cols n g cap p (if false = true then l2 else l1) x → (y.ownsRow w.heap.size 56 5 (.slice (some ⟨g, 0, none⟩) n cap) n (ccells l2) ∧ Kept [some g] x y) → EIn w G.rows G.cols n g cap p (if true = true then l2 else l1) y from fun x y h h2 => EIn.wrote h h2.1 h2.2)
  have qb : IntKind.i64.wrap ((b : Int) + 1) = (b : Int) + 1 := IntWalk.i64_in _ (by omega)
  have qw : IntKind.i64.wrap (D : Int) = (D : Int) := IntWalk.i64_in _ (by omega)
  have qQ : IntKind.i64.wrap (Q : Int) = (Q : Int) := IntWalk.i64_in _ (by omega)
  go_cut [] (fun wx => EIn w G.rows G.cols n g cap p l2 wx)
  case first =>
    have H0 := hide (show EIn w G.rows G.cols n g cap p (if false = true then l2 else l1) _ from H.out.drew)
    refine wp_region_vals (n := 49) (TJ 16 (fun b wx => EIn w G.rows G.cols n g cap p (if b = true then l2 else l1) wx) (fun j => [(.func (.func 69) #[] #[]), (.agg #[.int .i64 G.rows, .int .i64 G.cols, .slice (some ⟨g, 0, none⟩) n cap]), (.int .i64 t), (.int .i64 b), (.int .i64 ((b : Int) + 1)), (.slice (some ⟨g, z * 5, none⟩) M (cap - z)), (.int .i64 m), (.int .i64 b), (.int .i64 ((b : Int) + 1)), (.int .i64 t), (.int .i64 D), (.int .i64 q), (.pointer (some ⟨w.heap.size, 1, none⟩)), (.int .i64 G.cols), (.int .i64 Q), (.agg #[.int .i64 p.1, .int .i64 p.2.1, .int .i64 p.2.2])].getD j undef)) (by kernel_rfl) (by kernel_rfl) (by kernel_rfl) rfl (fun L u u' wx he hj => hj.same he) (cases17 ⟨?_, ?_, ?_, ?_, ?_, ?_, ?_, ?_, ?_, ?_, ?_, ?_, ?_, ?_, ?_, ?_, ?_⟩) ?_ ⟨H0.out, fun j _ h => by cases h⟩
    · intro L a w' hL hsame hsz hJ hdep hcl
      have e0 : a.eval (.tmp 0) = (.func (.func 69) #[] #[]) := eval_base hsame (by kernel_rfl)
      refine Step.val _ rfl rfl (wanted_none rfl) (.func (.func 69) #[] #[]) w' (fun ρ hρ => ?_) (hJ.val ST.out (by decide) (Below.refl _ _) _ rfl)
      rw [hρ] at e0
      clear hJ hsame hdep hcl hρ hsz
      go_simp
    · intro L a w' hL hsame hsz hJ hdep hcl
      have e0 : a.eval (.tmp 7) = (.pointer (some ⟨w.heap.size, 0, none⟩)) := eval_base hsame (by kernel_rfl)
      obtain ⟨q0, q1, q2, _⟩ := hJ.put.1.three
      refine Step.val _ rfl rfl (wanted_none rfl) (.agg #[.int .i64 G.rows, .int .i64 G.cols, .slice (some ⟨g, 0, none⟩) n cap]) w' (fun ρ hρ => ?_) (hJ.val ST.out (by decide) (Below.refl _ _) _ rfl)
      rw [hρ] at e0
      clear hJ hsame hdep hcl hρ hsz
      go_simp
    · intro L a w' hL hsame hsz hJ hdep hcl
      have e0 : a.eval (.tmp 2) = (.int .i64 t) := eval_base hsame (by kernel_rfl)
      refine Step.val _ rfl rfl (wanted_none rfl) (.int .i64 t) w' (fun ρ hρ => ?_) (hJ.val ST.out (by decide) (Below.refl _ _) _ rfl)
      rw [hρ] at e0
      clear hJ hsame hdep hcl hρ hsz
      go_simp
    · intro L a w' hL hsame hsz hJ hdep hcl
      have e0 : a.eval (.tmp 3) = (.int .i64 b) := eval_base hsame (by kernel_rfl)
      refine Step.val _ rfl rfl (wanted_none rfl) (.int .i64 b) w' (fun ρ hρ => ?_) (hJ.val ST.out (by decide) (Below.refl _ _) _ rfl)
      rw [hρ] at e0
      clear hJ hsame hdep hcl hρ hsz
      go_simp
    · intro L a w' hL hsame hsz hJ hdep hcl
      have e0 : a.eval (.tmp 34) = (.int .i64 b) := eval_slot (j := 3) (by kernel_rfl) (hJ.all 3 (by decide) (dep_of hdep 3 (by kernel_rfl)))
      refine Step.val _ rfl rfl (wanted_none rfl) (.int .i64 ((b : Int) + 1)) w' (fun ρ hρ => ?_) (hJ.val ST.out (by decide) (Below.refl _ _) _ rfl)
      rw [hρ] at e0
      have ec1 : ρ (.const (.int .i64 1)) = (.int .i64 1) := (hρ _).symm
      clear hJ hsame hdep hcl hρ hsz
      go_simp
    · intro L a w' hL hsame hsz hJ hdep hcl
      have e0 : a.eval (.tmp 32) = (.agg #[.int .i64 G.rows, .int .i64 G.cols, .slice (some ⟨g, 0, none⟩) n cap]) := eval_slot (j := 1) (by kernel_rfl) (hJ.all 1 (by decide) (dep_of hdep 1 (by kernel_rfl)))
      have e1 : a.eval (.tmp 33) = (.int .i64 t) := eval_slot (j := 2) (by kernel_rfl) (hJ.all 2 (by decide) (dep_of hdep 2 (by kernel_rfl)))
      have e2 : a.eval (.tmp 35) = (.int .i64 ((b : Int) + 1)) := eval_slot (j := 4) (by kernel_rfl) (hJ.all 4 (by decide) (dep_of hdep 4 (by kernel_rfl)))
      refine Step.call _ rfl rfl (wanted_none rfl) 92 #[.agg #[.int .i64 G.rows, .int .i64 G.cols, .slice (some ⟨g, 0, none⟩) n cap], .int .i64 t, .int .i64 ((b : Int) + 1)] (fun ρ hρ => ?_) ?_
      · skip
        rw [hρ] at e0 e1 e2
        have ef : ρ (.func 92) = .func (.func 92) #[] #[] := (hρ _).symm
        clear hJ hsame hdep hcl hρ hsz
        go_simp
      · refine (RW.out w').mono ?_
        rintro e w2 ⟨rfl, bb⟩
        exact ⟨_, rfl, hJ.val ST.out (by decide) bb _ rfl⟩
    · intro L a w' hL hsame hsz hJ hdep hcl
      have e0 : a.eval (.tmp 4) = (.int .i64 m) := eval_base hsame (by kernel_rfl)
      refine Step.val _ rfl rfl (wanted_none rfl) (.int .i64 m) w' (fun ρ hρ => ?_) (hJ.val ST.out (by decide) (Below.refl _ _) _ rfl)
      rw [hρ] at e0
      clear hJ hsame hdep hcl hρ hsz
      go_simp
    · intro L a w' hL hsame hsz hJ hdep hcl
      have e0 : a.eval (.tmp 3) = (.int .i64 b) := eval_base hsame (by kernel_rfl)
      refine Step.val _ rfl rfl (wanted_none rfl) (.int .i64 b) w' (fun ρ hρ => ?_) (hJ.val ST.out (by decide) (Below.refl _ _) _ rfl)
      rw [hρ] at e0
      clear hJ hsame hdep hcl hρ hsz
      go_simp
    · intro L a w' hL hsame hsz hJ hdep hcl
      have e0 : a.eval (.tmp 38) = (.int .i64 b) := eval_slot (j := 7) (by kernel_rfl) (hJ.all 7 (by decide) (dep_of hdep 7 (by kernel_rfl)))
      refine Step.val _ rfl rfl (wanted_none rfl) (.int .i64 ((b : Int) + 1)) w' (fun ρ hρ => ?_) (hJ.val ST.out (by decide) (Below.refl _ _) _ rfl)
      rw [hρ] at e0
      have ec1 : ρ (.const (.int .i64 1)) = (.int .i64 1) := (hρ _).symm
      clear hJ hsame hdep hcl hρ hsz
      go_simp
    · intro L a w' hL hsame hsz hJ hdep hcl
      have e0 : a.eval (.tmp 2) = (.int .i64 t) := eval_base hsame (by kernel_rfl)
      refine Step.val _ rfl rfl (wanted_none rfl) (.int .i64 t) w' (fun ρ hρ => ?_) (hJ.val ST.out (by decide) (Below.refl _ _) _ rfl)
      rw [hρ] at e0
      clear hJ hsame hdep hcl hρ hsz
      go_simp
    · intro L a w' hL hsame hsz hJ hdep hcl
      have e0 : a.eval (.tmp 39) = (.int .i64 ((b : Int) + 1)) := eval_slot (j := 8) (by kernel_rfl) (hJ.all 8 (by decide) (dep_of hdep 8 (by kernel_rfl)))
      have e1 : a.eval (.tmp 40) = (.int .i64 t) := eval_slot (j := 9) (by kernel_rfl) (hJ.all 9 (by decide) (dep_of hdep 9 (by kernel_rfl)))
      refine Step.val _ rfl rfl (wanted_none rfl) (.int .i64 D) w' (fun ρ hρ => ?_) (hJ.val ST.out (by decide) (Below.refl _ _) _ rfl)
      rw [hρ] at e0 e1
      clear hJ hsame hdep hcl hρ hsz
      go_simp
    · intro L a w' hL hsame hsz hJ hdep hcl
      have e0 : a.eval (.tmp 37) = (.int .i64 m) := eval_slot (j := 6) (by kernel_rfl) (hJ.all 6 (by decide) (dep_of hdep 6 (by kernel_rfl)))
      have e1 : a.eval (.tmp 41) = (.int .i64 D) := eval_slot (j := 10) (by kernel_rfl) (hJ.all 10 (by decide) (dep_of hdep 10 (by kernel_rfl)))
      refine Step.call _ rfl rfl (wanted_none rfl) 93 #[.int .i64 m, .int .i64 D] (fun ρ hρ => ?_) ?_
      · skip
        rw [hρ] at e0 e1
        have ef : ρ (.func 93) = .func (.func 93) #[] #[] := (hρ _).symm
        clear hJ hsame hdep hcl hρ hsz
        go_simp
      · refine (WI.out w').mono ?_
        rintro e w2 ⟨rfl, bb⟩
        exact ⟨_, rfl, hJ.val ST.out (by decide) bb _ rfl⟩
    · intro L a w' hL hsame hsz hJ hdep hcl
      have e0 : a.eval (.tmp 7) = (.pointer (some ⟨w.heap.size, 0, none⟩)) := eval_base hsame (by kernel_rfl)
      refine Step.val _ rfl rfl (wanted_none rfl) (.pointer (some ⟨w.heap.size, 1, none⟩)) w' (fun ρ hρ => ?_) (hJ.val ST.out (by decide) (Below.refl _ _) _ rfl)
      rw [hρ] at e0
      clear hJ hsame hdep hcl hρ hsz
      go_simp
    · intro L a w' hL hsame hsz hJ hdep hcl
      have e0 : a.eval (.tmp 43) = (.pointer (some ⟨w.heap.size, 1, none⟩)) := eval_slot (j := 12) (by kernel_rfl) (hJ.all 12 (by decide) (dep_of hdep 12 (by kernel_rfl)))
      obtain ⟨q0, q1, q2, _⟩ := hJ.put.1.three
      refine Step.val _ rfl rfl (wanted_none rfl) (.int .i64 G.cols) w' (fun ρ hρ => ?_) (hJ.val ST.out (by decide) (Below.refl _ _) _ rfl)
      rw [hρ] at e0
      clear hJ hsame hdep hcl hρ hsz
      go_simp
    · intro L a w' hL hsame hsz hJ hdep hcl
      have e0 : a.eval (.tmp 42) = (.int .i64 q) := eval_slot (j := 11) (by kernel_rfl) (hJ.all 11 (by decide) (dep_of hdep 11 (by kernel_rfl)))
      have e1 : a.eval (.tmp 44) = (.int .i64 G.cols) := eval_slot (j := 13) (by kernel_rfl) (hJ.all 13 (by decide) (dep_of hdep 13 (by kernel_rfl)))
      refine Step.val _ rfl rfl (wanted_none rfl) (.int .i64 Q) w' (fun ρ hρ => ?_) (hJ.val ST.out (by decide) (Below.refl _ _) _ rfl)
      rw [hρ] at e0 e1
      clear hJ hsame hdep hcl hρ hsz
      go_simp
    · intro L a w' hL hsame hsz hJ hdep hcl
      have e0 : a.eval (.tmp 11) = (.pointer (some ⟨w.heap.size + 1, 0, none⟩)) := eval_base hsame (by kernel_rfl)
      obtain ⟨q0, q1, q2, _⟩ := hJ.put.2.1.three
      refine Step.val _ rfl rfl (wanted_none rfl) (.agg #[.int .i64 p.1, .int .i64 p.2.1, .int .i64 p.2.2]) w' (fun ρ hρ => ?_) (hJ.val ST.out (by decide) (Below.refl _ _) _ rfl)
      rw [hρ] at e0
      clear hJ hsame hdep hcl hρ hsz
      go_simp
    · intro L a w' hL hsame hsz hJ hdep hcl
      have e0 : a.eval (.tmp 31) = (.func (.func 69) #[] #[]) := eval_slot (j := 0) (by kernel_rfl) (hJ.all 0 (by decide) (dep_of hdep 0 (by kernel_rfl)))
      have e1 : a.eval (.tmp 36) = (.slice (some ⟨g, z * 5, none⟩) M (cap - z)) := eval_slot (j := 5) (by kernel_rfl) (hJ.all 5 (by decide) (dep_of hdep 5 (by kernel_rfl)))
      have e2 : a.eval (.tmp 45) = (.int .i64 Q) := eval_slot (j := 14) (by kernel_rfl) (hJ.all 14 (by decide) (dep_of hdep 14 (by kernel_rfl)))
      have e3 : a.eval (.tmp 46) = (.agg #[.int .i64 p.1, .int .i64 p.2.1, .int .i64 p.2.2]) := eval_slot (j := 15) (by kernel_rfl) (hJ.all 15 (by decide) (dep_of hdep 15 (by kernel_rfl)))
      refine Step.call _ rfl rfl (wanted_none rfl) 69 #[.slice (some ⟨g, z * 5, none⟩) M (cap - z), .int .i64 Q, .agg #[.int .i64 p.1, .int .i64 p.2.1, .int .i64 p.2.2]] (fun ρ hρ => ?_) ?_
      · skip
        rw [hρ] at e0 e1 e2 e3
        clear hJ hsame hdep hcl hρ hsz
        go_simp
      · have hL0 : L 16 = false := hL
        have hp := hJ.put
        rw [hL0] at hp
        refine (MV.out w' hp.2.2.2.1).mono ?_
        rintro e w2 ⟨rfl, h2⟩
        exact ⟨_, rfl, hJ.fin _ (FIN.out _ _ hp h2)⟩
    · intro L a w' hsame hsz hJ hall
      obtain ⟨u, hu, ha⟩ := act_puts hsame
      have h := hJ.put
      rw [hall 16 (by decide)] at h
      have h := hide h
      clear hJ hall hsz hu hsame
      subst ha
      change Exit.then _ _ Exit.normal (Act.put (Act.put (Act.put (Act.put (Act.put (Act.put (Act.put (Act.put (Act.put (Act.put (Act.put (Act.put (Act.put (Act.put (Act.put (Act.put (Act.put (putAll _ u 0 _) (some 31) (u 0)) (some 32) (u 1)) (some 33) (u 2)) (some 34) (u 3)) (some 35) (u 4)) (some 36) (u 5)) (some 37) (u 6)) (some 38) (u 7)) (some 39) (u 8)) (some 40) (u 9)) (some 41) (u 10)) (some 42) (u 11)) (some 43) (u 12)) (some 44) (u 13)) (some 45) (u 14)) (some 46) (u 15)) (some 47) (u 16)) _
      simp only [putAll]
      generalize u 0 = v0
      generalize u 1 = v1
      generalize u 2 = v2
      generalize u 3 = v3
      generalize u 4 = v4
      generalize u 5 = v5
      generalize u 6 = v6
      generalize u 7 = v7
      generalize u 8 = v8
      generalize u 9 = v9
      generalize u 10 = v10
      generalize u 11 = v11
      generalize u 12 = v12
      generalize u 13 = v13
      generalize u 14 = v14
      generalize u 15 = v15
      generalize u 16 = v16
      go_simp
      go_step
      go_meet
      exact h.out
  case rest =>
    have H := hide hcut
    clear hcut
    obtain ⟨a0, a1, a2, a3, a4, a5⟩ := H.out.1.three
    obtain ⟨j0, j1, j2, f0, f1, f2⟩ := H.out.2.2.1.three
    have X2 := H.out.2.2.1.set3 (.int .i64 G.rows) (.int .i64 G.cols) (.slice (some ⟨g, 0, none⟩) n cap)
    have n2 := own_ne_box H.out.2.2.2.1 H.out.2.2.1 (by decide)
    have O2 := ownsRow_setCell_other (ownsRow_setCell_other (ownsRow_setCell_other H.out.2.2.2.1 (a := ⟨w.heap.size + 1 + 1, 0, none⟩) n2 (.int .i64 G.rows)) (a := ⟨w.heap.size + 1 + 1, 1, none⟩) n2 (.int .i64 G.cols)) (a := ⟨w.heap.size + 1 + 1, 2, none⟩) n2 (.slice (some ⟨g, 0, none⟩) n cap)
    have B2 := below_set3 H.out.2.2.2.2 (show w.heap.size ≤ w.heap.size + 1 + 1 by omega) (.int .i64 G.rows) (.int .i64 G.cols) (.slice (some ⟨g, 0, none⟩) n cap)
    obtain ⟨i0', i1', i2', _⟩ := X2.three
    have O2 := hide O2
    have B2 := hide B2
    go_wp2_with fail
    refine bodyPost_ret (v := .agg #[.int .i64 G.rows, .int .i64 G.cols, .slice (some ⟨g, 0, none⟩) n cap]) (by simp [results, Tryd.results61, go_sem, i0', i1', i2']) rfl (GOT.out g cap _ O2.out B2.out)
set_option maxHeartbeats 8000000 in
theorem lines_pull {G : PG.Gr} {v : Value} {w : World} (hG : PG.RightG G) (h : IsG w G v) (t b : Nat) (m : Int) (p : PG.Pn) (ht : t ≤ b) (hb : b < G.rows) (hm0 : 0 ≤ m) (hm1 : m ≤ 65535) :
    Calls Tryd.prog 61 #[.func (.func 62) #[] #[], v, .int .i64 t, .int .i64 b, .int .i64 m, pv p] w (GotG w (PG.scrollG G t b m p)) := by
  obtain ⟨A, cp, rfl, hl, h1, h2⟩ := h.open_
  have hR := hG.2.1
  have hK := hG.2.2.2.1
  have hK0 := hG.2.2.1
  have hnn : 0 * G.cols + 0 < G.rows * G.cols := PG.place_lt hG.1 hG.2.2.1
  obtain ⟨c0, hc0'⟩ : ∃ c0, (PG.cells G)[0]? = some c0 := ⟨_, List.getElem?_eq_getElem (by rw [PG.cells_len]; omega)⟩
  obtain ⟨ad, rfl, _⟩ := hl.at_ hc0'
  clear hc0'
  have e1 : t * G.cols + (b + 1 - t) * G.cols = (b + 1) * G.cols := by rw [← Nat.add_mul]; congr 1; omega
  have hle : (b + 1) * G.cols ≤ G.rows * G.cols := Nat.mul_le_mul_right _ hb
  have h24 := size_le hG
  have hMp : 0 < (b + 1 - t) * G.cols := Nat.mul_pos (by omega) hK0
  obtain ⟨D, hD⟩ : ∃ D, b + 1 - t = D := ⟨_, rfl⟩
  obtain ⟨q, hk, hkm, hkd⟩ : ∃ q : Nat, ((m ≤ (b : Int) + 1 - t ∧ m = q) ∨ ((b : Int) + 1 - t < m ∧ q = b + 1 - t)) ∧ ((0 ≤ m ∧ m ≤ D ∧ (q : Int) = m) ∨ (0 ≤ (D : Int) ∧ (D : Int) < m ∧ (q : Int) = D)) ∧ q ≤ D := ⟨(min m ((b : Int) + 1 - t)).toNat, by omega, by omega, by omega⟩
  have hQm : q * G.cols ≤ D * G.cols := Nat.mul_le_mul_right _ hkd
  have hQe : (q : Int) * (G.cols : Int) = ((q * G.cols : Nat) : Int) := by simp
  have CL := hide (fun w' (hb : Below w.heap.size w w') => eclone_any G.rows G.cols (G.rows * G.cols) cp w.heap.size ad (PG.cells G) w' (hl.below hb) hb.size (by omega))
  have IP := hide (fun (wx : World) g cap (x : Int) (he : EIn w G.rows G.cols (G.rows * G.cols) g cap p (PG.cells G) wx) (hx : x = t ∨ x = b) => isplace_any hG (v := gv G.rows G.cols (.slice (some ⟨g, 0, none⟩) (G.rows * G.cols) cap)) (w := wx) ⟨_, rfl, own_base' he.2.2.2.1 (Nat.zero_le _)⟩ x 0 true (.inl ⟨rfl, by omega, by omega, by omega, by omega⟩))
  have RW := hide (fun g cap (h1 : G.rows * G.cols ≤ cap) (h2 : cap ≤ maxLen) (wx : World) => (show Calls Tryd.prog 92 #[gv G.rows G.cols (.slice (some ⟨g, 0, none⟩) (G.rows * G.cols) cap), .int .i64 t, .int .i64 ((b : Int) + 1)] wx fun e w' => e = .returned (.slice (some ⟨g, t * G.cols * 5, none⟩) ((b + 1 - t) * G.cols) (cap - t * G.cols)) ∧ Below wx.heap.size wx w' by
    have h := rows_e G.rows G.cols (G.rows * G.cols) cap g t (b + 1) (t * G.cols) ((b + 1 - t) * G.cols) wx rfl e1 rfl (by omega) hR hK h1 h2
    rw [rowsV_pos (n := G.rows * G.cols) (by omega) h1 (by omega)] at h
    exact h))
  have MV := hide (fun g cap cp (h1 : (b + 1 - t) * G.cols ≤ cp) (h2 : cp ≤ maxLen) (wx : World) (ho : wx.ownsRow w.heap.size 56 5 (.slice (some ⟨g, 0, none⟩) (G.rows * G.cols) cap) (G.rows * G.cols) (ccells (PG.cells G))) => epull_rows hG ht hb rfl m hm0 q hk p h1 h2 ho)
  have WI := hide (fun wx => within_e m D q wx hkm)
  have HS := hide (PG.scroll_size G t b m p)
  have HLG := hide (PG.cells_len G)
  have HL2 := hide (show (PG.cells (PG.scrollG G t b m p)).length = G.rows * G.cols by rw [PG.cells_len, HS.out.1, HS.out.2])
  have HCL := hide (rfl : PG.cells (PG.scrollG G t b m p) = PG.cells (PG.scrollG G t b m p))
  have GOT : ∀ (g cap : Nat) (w3 : World), w3.ownsRow w.heap.size 56 5 (.slice (some ⟨g, 0, none⟩) (G.rows * G.cols) cap) (G.rows * G.cols) (ccells (PG.cells (PG.scrollG G t b m p))) → Below w.heap.size w w3 → GotG w (PG.scrollG G t b m p) (.returned (gv G.rows G.cols (.slice (some ⟨g, 0, none⟩) (G.rows * G.cols) cap))) w3 := fun g cap w3 ho hb => by
    refine ⟨_, rfl, ⟨.slice (some ⟨g, 0, none⟩) (G.rows * G.cols) cap, by rw [HS.out.1, HS.out.2], ?_⟩, hb⟩
    rw [HS.out.1, HS.out.2]
    exact own_base' ho (Nat.zero_le _)
  have GOT := hide GOT
  generalize PG.cells (PG.scrollG G t b m p) = l2 at *
  generalize PG.cells G = l1 at *
  rw [hD] at MV RW e1 hMp
  have q0 : (b : Int) + 1 - (t : Int) = (D : Int) := by omega
  have htb : (t : Int) ≤ (b : Int) := by omega
  have hrI : (b : Int) + 1 ≤ 40 := by omega
  have hDb : D ≤ 40 := by omega
  have hq4 : q ≤ 40 := by omega
  generalize q * G.cols = Q at *
  generalize D * G.cols = M at *
  generalize t * G.cols = z at *
  generalize (b + 1) * G.cols = z2 at *
  generalize G.rows * G.cols = n at *
  unfold GaveG at CL
  clear h hl h2
  unfold gv pv at *
  go_enter Tryd.func61, Tryd.ntmps61
  go_upto_region 2 with (
       go_at_call 90
       obtain ⟨x0, x1, x2, bw⟩ := boxes3 (w := w) (t0 := 24) (t1 := 26) (t2 := 24) (cs := #[.int .i64 G.rows, .int .i64 G.cols, .slice (some ad) n cp]) (ds := #[.int .i64 p.1, .int .i64 p.2.1, .int .i64 p.2.2]) (es := #[.int .i64 0, .int .i64 0, .slice none 0 0])
       go_must (refine (CL.out _ bw).mono ?_)
       rintro e w1 ⟨v1, rfl, o1, b1⟩
       rw [HLG.out] at o1
       obtain ⟨g, cap, rfl, hgb, hnc, hcm⟩ := own_at o1 (by omega)
       have y0 := x0.below b1 x0.lt
       have y1 := x1.below b1 x1.lt
       have y2 := x2.below b1 x2.lt
       have bb := bw.trans (b1.mono bw.size)
       have o1 := own_base' o1 bw.size
       obtain ⟨a0, a1, a2, a3, a4, a5⟩ := y0.three
       have n0 := own_ne_box o1 y0 (by decide)
       have X0 := (y0.set3 (.int .i64 G.rows) (.int .i64 G.cols) (.slice (some ⟨g, 0, none⟩) n cap))
       have X1 := (y1.far3 (g' := w.heap.size) (by omega) (.int .i64 G.rows) (.int .i64 G.cols) (.slice (some ⟨g, 0, none⟩) n cap))
       have X2 := (y2.far3 (g' := w.heap.size) (by omega) (.int .i64 G.rows) (.int .i64 G.cols) (.slice (some ⟨g, 0, none⟩) n cap))
       have O := (ownsRow_setCell_other (ownsRow_setCell_other (ownsRow_setCell_other o1 (a := ⟨w.heap.size, 0, none⟩) n0 (.int .i64 G.rows)) (a := ⟨w.heap.size, 1, none⟩) n0 (.int .i64 G.cols)) (a := ⟨w.heap.size, 2, none⟩) n0 (.slice (some ⟨g, 0, none⟩) n cap))
       have bs := (below_set3 bb (Nat.le_refl _) (.int .i64 G.rows) (.int .i64 G.cols) (.slice (some ⟨g, 0, none⟩) n cap))
       have H := hide (show EIn w G.rows G.cols n g cap p l1 _ from ⟨X0, X1, X2, O, bs⟩)
       clear x0 x1 x2 bw b1 y0 y1 y2 CL o1 n0 bb X0 X1 X2 O bs)
  go_cut [29] (fun u wx => u = .bool false ∧ EIn w G.rows G.cols n g cap p l1 wx)
  case first =>
    generalize (((w1.setCell ⟨w.heap.size, 0, none⟩ (.int .i64 G.rows)).setCell ⟨w.heap.size, 1, none⟩ (.int .i64 G.cols)).setCell ⟨w.heap.size, 2, none⟩ (.slice (some ⟨g, 0, none⟩) n cap)) = w0 at *
    obtain ⟨s0, s1, s2, _⟩ := H.out.1.three
    clear a0 a1 a2 a3 a4 a5
    have hdb : decide (b < t) = false := by simp; omega
    go_wp2_with (
      go_at_call 91
      go_must (refine (IP.out _ g cap _ H.out (by first | exact Or.inl rfl | exact Or.inr rfl)).mono ?_)
      rintro e w2 ⟨rfl, b2⟩
      have H := hide (H.out.call b2)
      clear b2
      obtain ⟨r0, r1, r2, _⟩ := H.out.1.three)
    go_meet
    exact ⟨rfl, H.out⟩
  case rest =>
  obtain ⟨rfl, H⟩ := hcut
  have H := hide H
  go_upto_region 4 with fail
  have MV := hide (MV.out g cap (cap - z) (by omega) (by simp only [maxLen] at hcm ⊢; omega))
  have RW := hide (RW.out g cap hnc hcm)
  have WI := hide (fun wx => (WI.out wx).mono (fun e w' h => (show e = .returned (.int .i64 q) ∧ Below wx.heap.size wx w' from ⟨h.1, h.2 ▸ Below.refl _ _⟩)))
  have ST := hide (show ∀ (b : Bool) (x y : World), EIn w G.rows G.cols n g cap p (if b = true then l2 else l1) x → Below x.heap.size x y → EIn w G.rows G.cols n g cap p (if b = true then l2 else l1) y from fun b x y h hb => h.call hb)
  have FIN := hide (show ∀ (x y : World), EIn w G.rows G.cols n g cap p (if false = true then l2 else l1) x → (y.ownsRow w.heap.size 56 5 (.slice (some ⟨g, 0, none⟩) n cap) n (ccells l2) ∧ Kept [some g] x y) → EIn w G.rows G.cols n g cap p (if true = true then l2 else l1) y from fun x y h h2 => EIn.wrote h h2.1 h2.2)
  have qb : IntKind.i64.wrap ((b : Int) + 1) = (b : Int) + 1 := IntWalk.i64_in _ (by omega)
  have qw : IntKind.i64.wrap (D : Int) = (D : Int) := IntWalk.i64_in _ (by omega)
  have qQ : IntKind.i64.wrap (Q : Int) = (Q : Int) := IntWalk.i64_in _ (by omega)
  go_cut [] (fun wx => EIn w G.rows G.cols n g cap p l2 wx)
  case first =>
    have H0 := hide (show EIn w G.rows G.cols n g cap p (if false = true then l2 else l1) _ from H.out.drew)
    refine wp_region_vals (n := 49) (TJ 16 (fun b wx => EIn w G.rows G.cols n g cap p (if b = true then l2 else l1) wx) (fun j => [(.func (.func 62) #[] #[]), (.agg #[.int .i64 G.rows, .int .i64 G.cols, .slice (some ⟨g, 0, none⟩) n cap]), (.int .i64 t), (.int .i64 b), (.int .i64 ((b : Int) + 1)), (.slice (some ⟨g, z * 5, none⟩) M (cap - z)), (.int .i64 m), (.int .i64 b), (.int .i64 ((b : Int) + 1)), (.int .i64 t), (.int .i64 D), (.int .i64 q), (.pointer (some ⟨w.heap.size, 1, none⟩)), (.int .i64 G.cols), (.int .i64 Q), (.agg #[.int .i64 p.1, .int .i64 p.2.1, .int .i64 p.2.2])].getD j undef)) (by kernel_rfl) (by kernel_rfl) (by kernel_rfl) rfl (fun L u u' wx he hj => hj.same he) (cases17 ⟨?_, ?_, ?_, ?_, ?_, ?_, ?_, ?_, ?_, ?_, ?_, ?_, ?_, ?_, ?_, ?_, ?_⟩) ?_ ⟨H0.out, fun j _ h => by cases h⟩
    · intro L a w' hL hsame hsz hJ hdep hcl
      have e0 : a.eval (.tmp 0) = (.func (.func 62) #[] #[]) := eval_base hsame (by kernel_rfl)
      refine Step.val _ rfl rfl (wanted_none rfl) (.func (.func 62) #[] #[]) w' (fun ρ hρ => ?_) (hJ.val ST.out (by decide) (Below.refl _ _) _ rfl)
      rw [hρ] at e0
      clear hJ hsame hdep hcl hρ hsz
      go_simp
    · intro L a w' hL hsame hsz hJ hdep hcl
      have e0 : a.eval (.tmp 7) = (.pointer (some ⟨w.heap.size, 0, none⟩)) := eval_base hsame (by kernel_rfl)
      obtain ⟨q0, q1, q2, _⟩ := hJ.put.1.three
      refine Step.val _ rfl rfl (wanted_none rfl) (.agg #[.int .i64 G.rows, .int .i64 G.cols, .slice (some ⟨g, 0, none⟩) n cap]) w' (fun ρ hρ => ?_) (hJ.val ST.out (by decide) (Below.refl _ _) _ rfl)
      rw [hρ] at e0
      clear hJ hsame hdep hcl hρ hsz
      go_simp
    · intro L a w' hL hsame hsz hJ hdep hcl
      have e0 : a.eval (.tmp 2) = (.int .i64 t) := eval_base hsame (by kernel_rfl)
      refine Step.val _ rfl rfl (wanted_none rfl) (.int .i64 t) w' (fun ρ hρ => ?_) (hJ.val ST.out (by decide) (Below.refl _ _) _ rfl)
      rw [hρ] at e0
      clear hJ hsame hdep hcl hρ hsz
      go_simp
    · intro L a w' hL hsame hsz hJ hdep hcl
      have e0 : a.eval (.tmp 3) = (.int .i64 b) := eval_base hsame (by kernel_rfl)
      refine Step.val _ rfl rfl (wanted_none rfl) (.int .i64 b) w' (fun ρ hρ => ?_) (hJ.val ST.out (by decide) (Below.refl _ _) _ rfl)
      rw [hρ] at e0
      clear hJ hsame hdep hcl hρ hsz
      go_simp
    · intro L a w' hL hsame hsz hJ hdep hcl
      have e0 : a.eval (.tmp 34) = (.int .i64 b) := eval_slot (j := 3) (by kernel_rfl) (hJ.all 3 (by decide) (dep_of hdep 3 (by kernel_rfl)))
      refine Step.val _ rfl rfl (wanted_none rfl) (.int .i64 ((b : Int) + 1)) w' (fun ρ hρ => ?_) (hJ.val ST.out (by decide) (Below.refl _ _) _ rfl)
      rw [hρ] at e0
      have ec1 : ρ (.const (.int .i64 1)) = (.int .i64 1) := (hρ _).symm
      clear hJ hsame hdep hcl hρ hsz
      go_simp
    · intro L a w' hL hsame hsz hJ hdep hcl
      have e0 : a.eval (.tmp 32) = (.agg #[.int .i64 G.rows, .int .i64 G.cols, .slice (some ⟨g, 0, none⟩) n cap]) := eval_slot (j := 1) (by kernel_rfl) (hJ.all 1 (by decide) (dep_of hdep 1 (by kernel_rfl)))
      have e1 : a.eval (.tmp 33) = (.int .i64 t) := eval_slot (j := 2) (by kernel_rfl) (hJ.all 2 (by decide) (dep_of hdep 2 (by kernel_rfl)))
      have e2 : a.eval (.tmp 35) = (.int .i64 ((b : Int) + 1)) := eval_slot (j := 4) (by kernel_rfl) (hJ.all 4 (by decide) (dep_of hdep 4 (by kernel_rfl)))
      refine Step.call _ rfl rfl (wanted_none rfl) 92 #[.agg #[.int .i64 G.rows, .int .i64 G.cols, .slice (some ⟨g, 0, none⟩) n cap], .int .i64 t, .int .i64 ((b : Int) + 1)] (fun ρ hρ => ?_) ?_
      · skip
        rw [hρ] at e0 e1 e2
        have ef : ρ (.func 92) = .func (.func 92) #[] #[] := (hρ _).symm
        clear hJ hsame hdep hcl hρ hsz
        go_simp
      · refine (RW.out w').mono ?_
        rintro e w2 ⟨rfl, bb⟩
        exact ⟨_, rfl, hJ.val ST.out (by decide) bb _ rfl⟩
    · intro L a w' hL hsame hsz hJ hdep hcl
      have e0 : a.eval (.tmp 4) = (.int .i64 m) := eval_base hsame (by kernel_rfl)
      refine Step.val _ rfl rfl (wanted_none rfl) (.int .i64 m) w' (fun ρ hρ => ?_) (hJ.val ST.out (by decide) (Below.refl _ _) _ rfl)
      rw [hρ] at e0
      clear hJ hsame hdep hcl hρ hsz
      go_simp
    · intro L a w' hL hsame hsz hJ hdep hcl
      have e0 : a.eval (.tmp 3) = (.int .i64 b) := eval_base hsame (by kernel_rfl)
      refine Step.val _ rfl rfl (wanted_none rfl) (.int .i64 b) w' (fun ρ hρ => ?_) (hJ.val ST.out (by decide) (Below.refl _ _) _ rfl)
      rw [hρ] at e0
      clear hJ hsame hdep hcl hρ hsz
      go_simp
    · intro L a w' hL hsame hsz hJ hdep hcl
      have e0 : a.eval (.tmp 38) = (.int .i64 b) := eval_slot (j := 7) (by kernel_rfl) (hJ.all 7 (by decide) (dep_of hdep 7 (by kernel_rfl)))
      refine Step.val _ rfl rfl (wanted_none rfl) (.int .i64 ((b : Int) + 1)) w' (fun ρ hρ => ?_) (hJ.val ST.out (by decide) (Below.refl _ _) _ rfl)
      rw [hρ] at e0
      have ec1 : ρ (.const (.int .i64 1)) = (.int .i64 1) := (hρ _).symm
      clear hJ hsame hdep hcl hρ hsz
      go_simp
    · intro L a w' hL hsame hsz hJ hdep hcl
      have e0 : a.eval (.tmp 2) = (.int .i64 t) := eval_base hsame (by kernel_rfl)
      refine Step.val _ rfl rfl (wanted_none rfl) (.int .i64 t) w' (fun ρ hρ => ?_) (hJ.val ST.out (by decide) (Below.refl _ _) _ rfl)
      rw [hρ] at e0
      clear hJ hsame hdep hcl hρ hsz
      go_simp
    · intro L a w' hL hsame hsz hJ hdep hcl
      have e0 : a.eval (.tmp 39) = (.int .i64 ((b : Int) + 1)) := eval_slot (j := 8) (by kernel_rfl) (hJ.all 8 (by decide) (dep_of hdep 8 (by kernel_rfl)))
      have e1 : a.eval (.tmp 40) = (.int .i64 t) := eval_slot (j := 9) (by kernel_rfl) (hJ.all 9 (by decide) (dep_of hdep 9 (by kernel_rfl)))
      refine Step.val _ rfl rfl (wanted_none rfl) (.int .i64 D) w' (fun ρ hρ => ?_) (hJ.val ST.out (by decide) (Below.refl _ _) _ rfl)
      rw [hρ] at e0 e1
      clear hJ hsame hdep hcl hρ hsz
      go_simp
    · intro L a w' hL hsame hsz hJ hdep hcl
      have e0 : a.eval (.tmp 37) = (.int .i64 m) := eval_slot (j := 6) (by kernel_rfl) (hJ.all 6 (by decide) (dep_of hdep 6 (by kernel_rfl)))
      have e1 : a.eval (.tmp 41) = (.int .i64 D) := eval_slot (j := 10) (by kernel_rfl) (hJ.all 10 (by decide) (dep_of hdep 10 (by kernel_rfl)))
      refine Step.call _ rfl rfl (wanted_none rfl) 93 #[.int .i64 m, .int .i64 D] (fun ρ hρ => ?_) ?_
      · skip
        rw [hρ] at e0 e1
        have ef : ρ (.func 93) = .func (.func 93) #[] #[] := (hρ _).symm
        clear hJ hsame hdep hcl hρ hsz
        go_simp
      · refine (WI.out w').mono ?_
        rintro e w2 ⟨rfl, bb⟩
        exact ⟨_, rfl, hJ.val ST.out (by decide) bb _ rfl⟩
    · intro L a w' hL hsame hsz hJ hdep hcl
      have e0 : a.eval (.tmp 7) = (.pointer (some ⟨w.heap.size, 0, none⟩)) := eval_base hsame (by kernel_rfl)
      refine Step.val _ rfl rfl (wanted_none rfl) (.pointer (some ⟨w.heap.size, 1, none⟩)) w' (fun ρ hρ => ?_) (hJ.val ST.out (by decide) (Below.refl _ _) _ rfl)
      rw [hρ] at e0
      clear hJ hsame hdep hcl hρ hsz
      go_simp
    · intro L a w' hL hsame hsz hJ hdep hcl
      have e0 : a.eval (.tmp 43) = (.pointer (some ⟨w.heap.size, 1, none⟩)) := eval_slot (j := 12) (by kernel_rfl) (hJ.all 12 (by decide) (dep_of hdep 12 (by kernel_rfl)))
      obtain ⟨q0, q1, q2, _⟩ := hJ.put.1.three
      refine Step.val _ rfl rfl (wanted_none rfl) (.int .i64 G.cols) w' (fun ρ hρ => ?_) (hJ.val ST.out (by decide) (Below.refl _ _) _ rfl)
      rw [hρ] at e0
      clear hJ hsame hdep hcl hρ hsz
      go_simp
    · intro L a w' hL hsame hsz hJ hdep hcl
      have e0 : a.eval (.tmp 42) = (.int .i64 q) := eval_slot (j := 11) (by kernel_rfl) (hJ.all 11 (by decide) (dep_of hdep 11 (by kernel_rfl)))
      have e1 : a.eval (.tmp 44) = (.int .i64 G.cols) := eval_slot (j := 13) (by kernel_rfl) (hJ.all 13 (by decide) (dep_of hdep 13 (by kernel_rfl)))
      refine Step.val _ rfl rfl (wanted_none rfl) (.int .i64 Q) w' (fun ρ hρ => ?_) (hJ.val ST.out (by decide) (Below.refl _ _) _ rfl)
      rw [hρ] at e0 e1
      clear hJ hsame hdep hcl hρ hsz
      go_simp
    · intro L a w' hL hsame hsz hJ hdep hcl
      have e0 : a.eval (.tmp 11) = (.pointer (some ⟨w.heap.size + 1, 0, none⟩)) := eval_base hsame (by kernel_rfl)
      obtain ⟨q0, q1, q2, _⟩ := hJ.put.2.1.three
      refine Step.val _ rfl rfl (wanted_none rfl) (.agg #[.int .i64 p.1, .int .i64 p.2.1, .int .i64 p.2.2]) w' (fun ρ hρ => ?_) (hJ.val ST.out (by decide) (Below.refl _ _) _ rfl)
      rw [hρ] at e0
      clear hJ hsame hdep hcl hρ hsz
      go_simp
    · intro L a w' hL hsame hsz hJ hdep hcl
      have e0 : a.eval (.tmp 31) = (.func (.func 62) #[] #[]) := eval_slot (j := 0) (by kernel_rfl) (hJ.all 0 (by decide) (dep_of hdep 0 (by kernel_rfl)))
      have e1 : a.eval (.tmp 36) = (.slice (some ⟨g, z * 5, none⟩) M (cap - z)) := eval_slot (j := 5) (by kernel_rfl) (hJ.all 5 (by decide) (dep_of hdep 5 (by kernel_rfl)))
      have e2 : a.eval (.tmp 45) = (.int .i64 Q) := eval_slot (j := 14) (by kernel_rfl) (hJ.all 14 (by decide) (dep_of hdep 14 (by kernel_rfl)))
      have e3 : a.eval (.tmp 46) = (.agg #[.int .i64 p.1, .int .i64 p.2.1, .int .i64 p.2.2]) := eval_slot (j := 15) (by kernel_rfl) (hJ.all 15 (by decide) (dep_of hdep 15 (by kernel_rfl)))
      refine Step.call _ rfl rfl (wanted_none rfl) 62 #[.slice (some ⟨g, z * 5, none⟩) M (cap - z), .int .i64 Q, .agg #[.int .i64 p.1, .int .i64 p.2.1, .int .i64 p.2.2]] (fun ρ hρ => ?_) ?_
      · skip
        rw [hρ] at e0 e1 e2 e3
        clear hJ hsame hdep hcl hρ hsz
        go_simp
      · have hL0 : L 16 = false := hL
        have hp := hJ.put
        rw [hL0] at hp
        refine (MV.out w' hp.2.2.2.1).mono ?_
        rintro e w2 ⟨rfl, h2⟩
        exact ⟨_, rfl, hJ.fin _ (FIN.out _ _ hp h2)⟩
    · intro L a w' hsame hsz hJ hall
      obtain ⟨u, hu, ha⟩ := act_puts hsame
      have h := hJ.put
      rw [hall 16 (by decide)] at h
      have h := hide h
      clear hJ hall hsz hu hsame
      subst ha
      change Exit.then _ _ Exit.normal (Act.put (Act.put (Act.put (Act.put (Act.put (Act.put (Act.put (Act.put (Act.put (Act.put (Act.put (Act.put (Act.put (Act.put (Act.put (Act.put (Act.put (putAll _ u 0 _) (some 31) (u 0)) (some 32) (u 1)) (some 33) (u 2)) (some 34) (u 3)) (some 35) (u 4)) (some 36) (u 5)) (some 37) (u 6)) (some 38) (u 7)) (some 39) (u 8)) (some 40) (u 9)) (some 41) (u 10)) (some 42) (u 11)) (some 43) (u 12)) (some 44) (u 13)) (some 45) (u 14)) (some 46) (u 15)) (some 47) (u 16)) _
      simp only [putAll]
      generalize u 0 = v0
      generalize u 1 = v1
      generalize u 2 = v2
      generalize u 3 = v3
      generalize u 4 = v4
      generalize u 5 = v5
      generalize u 6 = v6
      generalize u 7 = v7
      generalize u 8 = v8
      generalize u 9 = v9
      generalize u 10 = v10
      generalize u 11 = v11
      generalize u 12 = v12
      generalize u 13 = v13
      generalize u 14 = v14
      generalize u 15 = v15
      generalize u 16 = v16
      go_simp
      go_step
      go_meet
      exact h.out
  case rest =>
    have H := hide hcut
    clear hcut
    obtain ⟨a0, a1, a2, a3, a4, a5⟩ := H.out.1.three
    obtain ⟨j0, j1, j2, f0, f1, f2⟩ := H.out.2.2.1.three
    have X2 := H.out.2.2.1.set3 (.int .i64 G.rows) (.int .i64 G.cols) (.slice (some ⟨g, 0, none⟩) n cap)
    have n2 := own_ne_box H.out.2.2.2.1 H.out.2.2.1 (by decide)
    have O2 := ownsRow_setCell_other (ownsRow_setCell_other (ownsRow_setCell_other H.out.2.2.2.1 (a := ⟨w.heap.size + 1 + 1, 0, none⟩) n2 (.int .i64 G.rows)) (a := ⟨w.heap.size + 1 + 1, 1, none⟩) n2 (.int .i64 G.cols)) (a := ⟨w.heap.size + 1 + 1, 2, none⟩) n2 (.slice (some ⟨g, 0, none⟩) n cap)
    have B2 := below_set3 H.out.2.2.2.2 (show w.heap.size ≤ w.heap.size + 1 + 1 by omega) (.int .i64 G.rows) (.int .i64 G.cols) (.slice (some ⟨g, 0, none⟩) n cap)
    obtain ⟨i0', i1', i2', _⟩ := X2.three
    have O2 := hide O2
    have B2 := hide B2
    go_wp2_with fail
    refine bodyPost_ret (v := .agg #[.int .i64 G.rows, .int .i64 G.cols, .slice (some ⟨g, 0, none⟩) n cap]) (by simp [results, Tryd.results61, go_sem, i0', i1', i2']) rfl (GOT.out g cap _ O2.out B2.out)
end Go.Proofs.YtbhnipepbckalaaDoor
set_option maxRecDepth 100000
namespace Go.Proofs.YtbhnipepbckalaaDoor
open Go.RowKit
set_option linter.unusedVariables false
set_option maxHeartbeats 4000000 in
theorem lines_out {G : PG.Gr} {v : Value} {w : World} (hG : PG.RightG G) (h : IsG w G v) (fv : Value) (r c m : Int) (p : PG.Pn) (hp : ¬ (0 ≤ r ∧ r ≤ c ∧ c < G.rows)) :
    Calls Tryd.prog 61 #[fv, v, .int .i64 r, .int .i64 c, .int .i64 m, pv p] w (GotG w G) := by
  obtain ⟨A, cp, rfl, hl, h1, h2⟩ := h.open_
  have hnn : 0 * G.cols + 0 < G.rows * G.cols := PG.place_lt hG.1 hG.2.2.1
  obtain ⟨c0, hc0'⟩ : ∃ c0, (PG.cells G)[0]? = some c0 := ⟨_, List.getElem?_eq_getElem (by rw [PG.cells_len]; omega)⟩
  obtain ⟨ad, rfl, _⟩ := hl.at_ hc0'
  clear hc0'
  have h24 := size_le hG
  have hR := hG.2.1
  have CL := hide (fun w' (hb : Below w.heap.size w w') => eclone_any G.rows G.cols (G.rows * G.cols) cp w.heap.size ad (PG.cells G) w' (hl.below hb) hb.size (by omega))
  have HLG := hide (PG.cells_len G)
  have IP := hide (fun (wx : World) g cap (x y : Int) (z : Bool) (he : EIn w G.rows G.cols (G.rows * G.cols) g cap p (PG.cells G) wx) hb => isplace_any hG (v := gv G.rows G.cols (.slice (some ⟨g, 0, none⟩) (G.rows * G.cols) cap)) (w := wx) ⟨_, rfl, own_base' he.2.2.2.1 (Nat.zero_le _)⟩ x y z hb)
  have GOT : ∀ (g cap : Nat) (w3 : World), EIn w G.rows G.cols (G.rows * G.cols) g cap p (PG.cells G) w3 → GotG w G (.returned (gv G.rows G.cols (.slice (some ⟨g, 0, none⟩) (G.rows * G.cols) cap))) (((w3.setCell ⟨w.heap.size + 1 + 1, 0, none⟩ (.int .i64 G.rows)).setCell ⟨w.heap.size + 1 + 1, 1, none⟩ (.int .i64 G.cols)).setCell ⟨w.heap.size + 1 + 1, 2, none⟩ (.slice (some ⟨g, 0, none⟩) (G.rows * G.cols) cap)) := fun g cap w3 H => by
    have n2 := own_ne_box H.2.2.2.1 H.2.2.1 (by decide)
    exact ⟨_, rfl, ⟨_, rfl, own_base' (ownsRow_setCell_other (ownsRow_setCell_other (ownsRow_setCell_other H.2.2.2.1 (a := ⟨w.heap.size + 1 + 1, 0, none⟩) n2 (.int .i64 G.rows)) (a := ⟨w.heap.size + 1 + 1, 1, none⟩) n2 (.int .i64 G.cols)) (a := ⟨w.heap.size + 1 + 1, 2, none⟩) n2 (.slice (some ⟨g, 0, none⟩) (G.rows * G.cols) cap)) (Nat.zero_le _)⟩, below_set3 H.2.2.2.2 (by omega) _ _ _⟩
  have GOT := hide GOT
  obtain ⟨ans, hans⟩ : ∃ ans : Int → Bool, ∀ x, (ans x = true ∧ 0 ≤ x ∧ x < G.rows) ∨ (ans x = false ∧ ¬ (0 ≤ x ∧ x < G.rows)) := ⟨fun x => decide (0 ≤ x ∧ x < G.rows), fun x => by
    by_cases h : 0 ≤ x ∧ x < (G.rows : Int)
    · exact .inl ⟨by simpa using h, h⟩
    · exact .inr ⟨by simpa using h, h⟩⟩
  have IP := hide (fun (wx : World) g cap (x : Int) (he : EIn w G.rows G.cols (G.rows * G.cols) g cap p (PG.cells G) wx) => isplace_any hG (v := gv G.rows G.cols (.slice (some ⟨g, 0, none⟩) (G.rows * G.cols) cap)) (w := wx) ⟨_, rfl, own_base' he.2.2.2.1 (Nat.zero_le _)⟩ x 0 (ans x) ((hans x).imp (fun h => ⟨h.1, h.2.1, h.2.2, by omega, by have := hG.2.2.1; omega⟩) (fun h => ⟨h.1, fun k => h.2 ⟨k.1, k.2.1⟩⟩)))
  have hcase : c < r ∨ (r ≤ c ∧ ans r = false) ∨ (r ≤ c ∧ ans r = true ∧ ans c = false) := by
    rcases hans r with ⟨x1, x2⟩ | ⟨x1, x2⟩ <;> rcases hans c with ⟨y1, y2⟩ | ⟨y1, y2⟩ <;> rcases Int.lt_or_le c r with z | z
    all_goals first | exact .inl z | exact .inr (.inl ⟨z, x1⟩) | exact .inr (.inr ⟨z, x1, y1⟩) | exact absurd ⟨x2.1, z, y2.2⟩ hp
  clear hans hp
  clear h hl h2 hR
  generalize G.rows * G.cols = n at *
  unfold GaveG at CL
  unfold gv pv at *
  go_enter Tryd.func61, Tryd.ntmps61
  go_upto_region 2 with (
       go_at_call 90
       obtain ⟨x0, x1, x2, bw⟩ := boxes3 (w := w) (t0 := 24) (t1 := 26) (t2 := 24) (cs := #[.int .i64 G.rows, .int .i64 G.cols, .slice (some ad) n cp]) (ds := #[.int .i64 p.1, .int .i64 p.2.1, .int .i64 p.2.2]) (es := #[.int .i64 0, .int .i64 0, .slice none 0 0])
       go_must (refine (CL.out _ bw).mono ?_)
       rintro e w1 ⟨v1, rfl, o1, b1⟩
       rw [HLG.out] at o1
       obtain ⟨g, cap, rfl, hgb, hnc, hcm⟩ := own_at o1 (by omega)
       have y0 := x0.below b1 x0.lt
       have y1 := x1.below b1 x1.lt
       have y2 := x2.below b1 x2.lt
       have bb := bw.trans (b1.mono bw.size)
       have o1 := own_base' o1 bw.size
       obtain ⟨a0, a1, a2, a3, a4, a5⟩ := y0.three
       have n0 := own_ne_box o1 y0 (by decide)
       have X0 := (y0.set3 (.int .i64 G.rows) (.int .i64 G.cols) (.slice (some ⟨g, 0, none⟩) n cap))
       have X1 := (y1.far3 (g' := w.heap.size) (by omega) (.int .i64 G.rows) (.int .i64 G.cols) (.slice (some ⟨g, 0, none⟩) n cap))
       have X2 := (y2.far3 (g' := w.heap.size) (by omega) (.int .i64 G.rows) (.int .i64 G.cols) (.slice (some ⟨g, 0, none⟩) n cap))
       have O := (ownsRow_setCell_other (ownsRow_setCell_other (ownsRow_setCell_other o1 (a := ⟨w.heap.size, 0, none⟩) n0 (.int .i64 G.rows)) (a := ⟨w.heap.size, 1, none⟩) n0 (.int .i64 G.cols)) (a := ⟨w.heap.size, 2, none⟩) n0 (.slice (some ⟨g, 0, none⟩) n cap))
       have bs := (below_set3 bb (Nat.le_refl _) (.int .i64 G.rows) (.int .i64 G.cols) (.slice (some ⟨g, 0, none⟩) n cap))
       have H := hide (show EIn w G.rows G.cols n g cap p (PG.cells G) _ from ⟨X0, X1, X2, O, bs⟩)
       clear x0 x1 x2 bw b1 y0 y1 y2 CL o1 n0 bb X0 X1 X2 O bs)
  go_cut [29] (fun u wx => u = .bool true ∧ EIn w G.rows G.cols n g cap p (PG.cells G) wx)
  case first =>
    generalize (((w1.setCell ⟨w.heap.size, 0, none⟩ (.int .i64 G.rows)).setCell ⟨w.heap.size, 1, none⟩ (.int .i64 G.cols)).setCell ⟨w.heap.size, 2, none⟩ (.slice (some ⟨g, 0, none⟩) n cap)) = w0 at *
    obtain ⟨s0, s1, s2, _⟩ := H.out.1.three
    clear a0 a1 a2 a3 a4 a5
    rcases hcase with hdb | ⟨hdb, ha⟩ | ⟨hdb, ha, hb⟩
    all_goals
      go_wp2_with (
        go_at_call 91
        go_must (refine (IP.out _ g cap _ H.out).mono ?_)
        rintro e w2 ⟨rfl, b2⟩
        have H := hide (H.out.call b2)
        clear b2
        obtain ⟨r0, r1, r2, _⟩ := H.out.1.three)
      go_meet
      exact ⟨rfl, H.out⟩
  case rest =>
  obtain ⟨rfl, H⟩ := hcut
  have H := hide H
  obtain ⟨a0, a1, a2, a3, a4, a5⟩ := H.out.1.three
  obtain ⟨j0, j1, j2, f0, f1, f2⟩ := H.out.2.2.1.three
  go_wp2_with fail
  have X2 := H.out.2.2.1.set3 (.int .i64 G.rows) (.int .i64 G.cols) (.slice (some ⟨g, 0, none⟩) n cap)
  obtain ⟨i0', i1', i2', _⟩ := X2.three
  refine bodyPost_ret (v := .agg #[.int .i64 G.rows, .int .i64 G.cols, .slice (some ⟨g, 0, none⟩) n cap]) (by simp [results, Tryd.results61, go_sem, i0', i1', i2']) rfl (GOT.out g cap _ H.out)
/-- a call gives such a grid back, in new memory -/
def NewG (w : World) (G : PG.Gr) (e : Ending) (w' : World) : Prop := ∃ s, e = .returned (gv G.rows G.cols s) ∧ w'.ownsRow w.heap.size 56 5 s (G.rows * G.cols) (ccells (PG.cells G)) ∧ Below w.heap.size w w'
theorem NewG.got {w w' : World} {G : PG.Gr} {e : Ending} (h : NewG w G e w') : GotG w G e w' := by
  obtain ⟨s, rfl, ho, hb⟩ := h
  exact ⟨_, rfl, ⟨_, rfl, own_base' ho (Nat.zero_le _)⟩, hb⟩
theorem new_made {w : World} {R K : Nat} {G : PG.Gr} {l : List PG.Cl} {e : Ending} {w' : World} (h : MadeG w R K (R * K) l e w') (hl : l = PG.cells G) (hR : G.rows = R) (hK : G.cols = K) : NewG w G e w' := by
  subst hR hK hl
  obtain ⟨g, rfl, ho, hb⟩ := h
  exact ⟨_, rfl, ho, hb⟩
theorem new_gave {w : World} {R K : Nat} {G : PG.Gr} {l : List PG.Cl} {e : Ending} {w' : World} (h : GaveG w R K l e w') (hl : l = PG.cells G) (hR : G.rows = R) (hK : G.cols = K) : NewG w G e w' := by
  subst hR hK hl
  obtain ⟨v, rfl, ho, hb⟩ := h
  rw [PG.cells_len] at ho
  exact ⟨_, rfl, ho, hb⟩
theorem n_clone {G : PG.Gr} {v : Value} {w : World} (hG : PG.RightG G) (h : IsG w G v) : Calls Tryd.prog 90 #[v] w (NewG w G) := by
  obtain ⟨A, cp, rfl, hl, h1, h2⟩ := h.open_
  have hnn : 0 * G.cols + 0 < G.rows * G.cols := PG.place_lt hG.1 hG.2.2.1
  obtain ⟨c0, hc0'⟩ : ∃ c0, (PG.cells G)[0]? = some c0 := ⟨_, List.getElem?_eq_getElem (by rw [PG.cells_len]; omega)⟩
  obtain ⟨ad, rfl, _⟩ := hl.at_ hc0'
  have h24 := size_le hG
  exact (eclone_any G.rows G.cols (G.rows * G.cols) cp w.heap.size ad (PG.cells G) w hl (Nat.le_refl _) (by omega)).mono fun e w' h => new_gave h rfl rfl rfl
/-- an answer stored into its box -/
theorem new_stored {w w3 : World} {H : PG.Gr} {A : Option Addr} {n c gb B : Nat} {cs : Array Value} (ho : w3.ownsRow B 56 5 (.slice A n c) (H.rows * H.cols) (ccells (PG.cells H))) (hB : w.heap.size ≤ B) (x : Box w3 gb 24 cs) (hb : Below w.heap.size w w3) (hg : w.heap.size ≤ gb) :
    NewG w H (.returned (.agg #[.int .i64 H.rows, .int .i64 H.cols, .slice A n c])) (((w3.setCell ⟨gb, 0, none⟩ (.int .i64 H.rows)).setCell ⟨gb, 1, none⟩ (.int .i64 H.cols)).setCell ⟨gb, 2, none⟩ (.slice A n c)) := by
  have n2 := own_ne_box ho x (by decide)
  exact ⟨_, rfl, own_base' (ownsRow_setCell_other (ownsRow_setCell_other (ownsRow_setCell_other ho (a := ⟨gb, 0, none⟩) n2 (.int .i64 H.rows)) (a := ⟨gb, 1, none⟩) n2 (.int .i64 H.cols)) (a := ⟨gb, 2, none⟩) n2 (.slice A n c)) hB, below_set3 hb hg _ _ _⟩
theorem got_stored {w w3 : World} {H : PG.Gr} {A : Option Addr} {n c gb B : Nat} {cs : Array Value} (ho : w3.ownsRow B 56 5 (.slice A n c) (H.rows * H.cols) (ccells (PG.cells H))) (x : Box w3 gb 24 cs) (hb : Below w.heap.size w w3) (hg : w.heap.size ≤ gb) :
    GotG w H (.returned (.agg #[.int .i64 H.rows, .int .i64 H.cols, .slice A n c])) (((w3.setCell ⟨gb, 0, none⟩ (.int .i64 H.rows)).setCell ⟨gb, 1, none⟩ (.int .i64 H.cols)).setCell ⟨gb, 2, none⟩ (.slice A n c)) := by
  have n2 := own_ne_box ho x (by decide)
  exact ⟨_, rfl, ⟨_, rfl, own_base' (ownsRow_setCell_other (ownsRow_setCell_other (ownsRow_setCell_other ho (a := ⟨gb, 0, none⟩) n2 (.int .i64 H.rows)) (a := ⟨gb, 1, none⟩) n2 (.int .i64 H.cols)) (a := ⟨gb, 2, none⟩) n2 (.slice A n c)) (Nat.zero_le _)⟩, below_set3 hb hg _ _ _⟩
theorem up_c {G : PG.Gr} {v : Value} {w : World} (hG : PG.RightG G) (h : IsG w G v) (t b n : Int) (p : PG.Pn) (hn : 0 ≤ n ∧ n ≤ 65535) : Calls Tryd.prog 61 #[.func (.func 62) #[] #[], v, .int .i64 t, .int .i64 b, .int .i64 n, pv p] w (GotG w (PG.scrollI G t b n p)) := by
  by_cases hi : 0 ≤ t ∧ t ≤ b ∧ b < G.rows
  · obtain ⟨r', rfl⟩ := Int.eq_ofNat_of_zero_le hi.1
    obtain ⟨c', rfl⟩ := Int.eq_ofNat_of_zero_le (show 0 ≤ b by omega)
    have e : PG.scrollI G r' c' n p = PG.scrollG G r' c' n p := by unfold PG.scrollI; rw [if_pos (by omega)]; rfl
    rw [e]
    exact lines_pull hG h r' c' n p (by omega) (by omega) hn.1 hn.2
  · rw [PG.scrollI_out hi]
    exact lines_out hG h _ t b n p hi
set_option maxHeartbeats 2000000 in
theorem u_up {G : PG.Gr} {v : Value} {w : World} (hG : PG.RightG G) (h : IsG w G v) (t b n : Int) (p : PG.Pn) (hp : PG.okPen p) (hr : -1000 ≤ t ∧ t ≤ 1000) (hc : -1000 ≤ b ∧ b ≤ 1000) (hn : 0 ≤ n ∧ n ≤ 65535) : Calls Tryd.prog 37 #[v, .int .i64 t, .int .i64 b, .int .i64 n, pv p] w (GotG w (PG.scrollI G t b n p)) := by
  have C := hide (fun w' (hb' : Below w.heap.size w w') => up_c hG (h.low hb') t b n p hn)
  obtain ⟨A, cp, rfl, hl, h1, h2⟩ := h.open_
  clear hl h1 h2 h
  generalize G.rows * G.cols = n0 at *
  generalize PG.scrollI G t b n p = GH at *
  unfold gv pv at *
  go_enter Tryd.func37, Tryd.ntmps37
  go_wp2_with (
    go_at_call 61
    obtain ⟨x0, x1, x2, bw⟩ := boxes3 (w := w) (t0 := 24) (t1 := 26) (t2 := 24) (cs := #[.int .i64 G.rows, .int .i64 G.cols, .slice A n0 cp]) (ds := #[.int .i64 p.1, .int .i64 p.2.1, .int .i64 p.2.2]) (es := #[.int .i64 0, .int .i64 0, .slice none 0 0])
    go_must (refine (C.out _ bw).mono ?_)
    rintro e w1 ⟨v1, rfl, ⟨s, rfl, o1⟩, b1⟩
    obtain ⟨A1, c1, rfl, _⟩ := own_form' o1
    have x2 := x2.below b1 x2.lt
    have bb := bw.trans (b1.mono bw.size)
    unfold gv
    obtain ⟨j0, j1, j2, f0, f1, f2⟩ := x2.three
    have F := hide (got_stored o1 x2 bb (show w.heap.size ≤ w.heap.size + 1 + 1 by omega))
    have X2 := x2.set3 (.int .i64 GH.rows) (.int .i64 GH.cols) (.slice A1 (GH.rows * GH.cols) c1)
    obtain ⟨i0', i1', i2', _⟩ := X2.three
    clear x0 x1 bw b1 C o1 bb X2 x2)
  refine bodyPost_ret (v := .agg #[.int .i64 GH.rows, .int .i64 GH.cols, .slice A1 (GH.rows * GH.cols) c1]) (by simp [results, Tryd.results37, go_sem, i0', i1', i2']) rfl F.out
theorem down_c {G : PG.Gr} {v : Value} {w : World} (hG : PG.RightG G) (h : IsG w G v) (t b n : Int) (p : PG.Pn) (hn : 0 ≤ n ∧ n ≤ 65535) : Calls Tryd.prog 61 #[.func (.func 69) #[] #[], v, .int .i64 t, .int .i64 b, .int .i64 n, pv p] w (GotG w (PG.scrollI G t b (-n) p)) := by
  by_cases hi : 0 ≤ t ∧ t ≤ b ∧ b < G.rows
  · obtain ⟨r', rfl⟩ := Int.eq_ofNat_of_zero_le hi.1
    obtain ⟨c', rfl⟩ := Int.eq_ofNat_of_zero_le (show 0 ≤ b by omega)
    have e : PG.scrollI G r' c' (-n) p = PG.scrollG G r' c' (-n) p := by unfold PG.scrollI; rw [if_pos (by omega)]; rfl
    rw [e]
    exact lines_push hG h r' c' n p (by omega) (by omega) hn.1 hn.2
  · rw [PG.scrollI_out hi]
    exact lines_out hG h _ t b n p hi
set_option maxHeartbeats 2000000 in
theorem u_down {G : PG.Gr} {v : Value} {w : World} (hG : PG.RightG G) (h : IsG w G v) (t b n : Int) (p : PG.Pn) (hp : PG.okPen p) (hr : -1000 ≤ t ∧ t ≤ 1000) (hc : -1000 ≤ b ∧ b ≤ 1000) (hn : 0 ≤ n ∧ n ≤ 65535) : Calls Tryd.prog 46 #[v, .int .i64 t, .int .i64 b, .int .i64 n, pv p] w (GotG w (PG.scrollI G t b (-n) p)) := by
  have C := hide (fun w' (hb' : Below w.heap.size w w') => down_c hG (h.low hb') t b n p hn)
  obtain ⟨A, cp, rfl, hl, h1, h2⟩ := h.open_
  clear hl h1 h2 h
  generalize G.rows * G.cols = n0 at *
  generalize PG.scrollI G t b (-n) p = GH at *
  unfold gv pv at *
  go_enter Tryd.func46, Tryd.ntmps46
  go_wp2_with (
    go_at_call 61
    obtain ⟨x0, x1, x2, bw⟩ := boxes3 (w := w) (t0 := 24) (t1 := 26) (t2 := 24) (cs := #[.int .i64 G.rows, .int .i64 G.cols, .slice A n0 cp]) (ds := #[.int .i64 p.1, .int .i64 p.2.1, .int .i64 p.2.2]) (es := #[.int .i64 0, .int .i64 0, .slice none 0 0])
    go_must (refine (C.out _ bw).mono ?_)
    rintro e w1 ⟨v1, rfl, ⟨s, rfl, o1⟩, b1⟩
    obtain ⟨A1, c1, rfl, _⟩ := own_form' o1
    have x2 := x2.below b1 x2.lt
    have bb := bw.trans (b1.mono bw.size)
    unfold gv
    obtain ⟨j0, j1, j2, f0, f1, f2⟩ := x2.three
    have F := hide (got_stored o1 x2 bb (show w.heap.size ≤ w.heap.size + 1 + 1 by omega))
    have X2 := x2.set3 (.int .i64 GH.rows) (.int .i64 GH.cols) (.slice A1 (GH.rows * GH.cols) c1)
    obtain ⟨i0', i1', i2', _⟩ := X2.three
    clear x0 x1 bw b1 C o1 bb X2 x2)
  refine bodyPost_ret (v := .agg #[.int .i64 GH.rows, .int .i64 GH.cols, .slice A1 (GH.rows * GH.cols) c1]) (by simp [results, Tryd.results46, go_sem, i0', i1', i2']) rfl F.out
end Go.Proofs.YtbhnipepbckalaaDoor
set_option maxRecDepth 100000
namespace Go.Proofs.YtbhnipepbckalaaDoor
open Go.RowKit
set_option linter.unusedVariables false
theorem PG.lineI_out {g : PG.Gr} {r c k : Int} {p : PG.Pn} (h : ¬ ((0 ≤ r ∧ r < g.rows ∧ 0 ≤ c ∧ c < g.cols) ∧ 0 ≤ k ∧ k ≤ 2)) : PG.lineI g r c k p = g := if_neg h
theorem PG.eraseI_out {g : PG.Gr} {r c k : Int} {p : PG.Pn} (h : ¬ ((0 ≤ r ∧ r < g.rows ∧ 0 ≤ c ∧ c < g.cols) ∧ 0 ≤ k ∧ k ≤ 2)) : PG.eraseI g r c k p = g := if_neg h
theorem PG.lineI_0 {g : PG.Gr} {r c : Int} {p : PG.Pn} (hi : 0 ≤ r ∧ r < g.rows ∧ 0 ≤ c ∧ c < g.cols) : PG.lineI g r c 0 p = PG.wipeI g r c g.cols p := by
  unfold PG.lineI PG.wipeI
  rw [if_pos ⟨hi, by decide, by decide⟩, if_pos hi.1, if_pos rfl, if_neg (by decide)]
  rw [show (max (c : Int) 0).toNat = c.toNat by omega, show (min (g.cols : Int) g.cols).toNat = g.cols by omega]
theorem PG.lineI_1 {g : PG.Gr} {r c : Int} {p : PG.Pn} (hi : 0 ≤ r ∧ r < g.rows ∧ 0 ≤ c ∧ c < g.cols) : PG.lineI g r c 1 p = PG.wipeI g r 0 (c + 1) p := by
  unfold PG.lineI PG.wipeI
  rw [if_pos ⟨hi, by decide, by decide⟩, if_pos hi.1, if_neg (by decide), if_pos rfl]
  rw [show (max (0 : Int) 0).toNat = 0 by omega, show (min ((c + 1) : Int) g.cols).toNat = c.toNat + 1 by omega]
theorem PG.lineI_2 {g : PG.Gr} {r c : Int} {p : PG.Pn} (hi : 0 ≤ r ∧ r < g.rows ∧ 0 ≤ c ∧ c < g.cols) : PG.lineI g r c 2 p = PG.wipeI g r 0 g.cols p := by
  unfold PG.lineI PG.wipeI
  rw [if_pos ⟨hi, by decide, by decide⟩, if_pos hi.1, if_neg (by decide), if_neg (by decide)]
  rw [show (max (0 : Int) 0).toNat = 0 by omega, show (min (g.cols : Int) g.cols).toNat = g.cols by omega]
end Go.Proofs.YtbhnipepbckalaaDoor
set_option maxRecDepth 100000
namespace Go.Proofs.YtbhnipepbckalaaDoor
open Go.RowKit
set_option linter.unusedVariables false
/-- the grid, the pen, the answer, the grid under way, each in a box; the cells under way in a row of the call's own -/
def EEr (w : World) (R K n cp : Nat) (A : Option Addr) (g cap gb : Nat) (p : PG.Pn) (l : List PG.Cl) (wx : World) : Prop :=
  Box wx w.heap.size 24 #[.int .i64 R, .int .i64 K, .slice A n cp] ∧ Box wx (w.heap.size + 1) 26 #[.int .i64 p.1, .int .i64 p.2.1, .int .i64 p.2.2] ∧ Box wx (w.heap.size + 1 + 1) 24 #[.int .i64 0, .int .i64 0, .slice none 0 0] ∧
  Box wx gb 24 #[.int .i64 R, .int .i64 K, .slice (some ⟨g, 0, none⟩) n cap] ∧ w.heap.size + 1 + 1 < gb ∧ wx.ownsRow w.heap.size 56 5 (.slice (some ⟨g, 0, none⟩) n cap) n (ccells l) ∧ Below w.heap.size w wx
section
variable {w wx wy : World} {R K n cp g cap gb : Nat} {A : Option Addr} {p : PG.Pn} {l l2 : List PG.Cl}
theorem EEr.call (h : EEr w R K n cp A g cap gb p l wx) (b : Below wx.heap.size wx wy) : EEr w R K n cp A g cap gb p l wy :=
  ⟨h.1.below b h.1.lt, h.2.1.below b h.2.1.lt, h.2.2.1.below b h.2.2.1.lt, h.2.2.2.1.below b h.2.2.2.1.lt, h.2.2.2.2.1, h.2.2.2.2.2.1.kept (grown_of_below b none) (by simp [Value.ownBlock]), h.2.2.2.2.2.2.trans (b.mono h.2.2.2.2.2.2.size)⟩
theorem EEr.drew (h : EEr w R K n cp A g cap gb p l wx) : EEr w R K n cp A g cap gb p l wx.drew := ⟨h.1.drew, h.2.1.drew, h.2.2.1.drew, h.2.2.2.1.drew, h.2.2.2.2.1, h.2.2.2.2.2.1, h.2.2.2.2.2.2.drew⟩
theorem EEr.wrote (h : EEr w R K n cp A g cap gb p l wx) (o : wy.ownsRow w.heap.size 56 5 (.slice (some ⟨g, 0, none⟩) n cap) n (ccells l2)) (k : Kept [some g] wx wy) : EEr w R K n cp A g cap gb p l2 wy := by
  have ho := h.2.2.2.2.2.1
  have hb := h.2.2.2.2.2.2
  have n0 := own_ne_box ho h.1 (by decide)
  have n1 := own_ne_box ho h.2.1 (by decide)
  have n2 := own_ne_box ho h.2.2.1 (by decide)
  have n3 := own_ne_box ho h.2.2.2.1 (by decide)
  have lt := (ho.lt g rfl).1
  have hn : ∀ q, (Value.slice (some ⟨g, 0, none⟩) n cap).ownBlock ≠ some q → some q ∉ [some g] := fun q hq hm => hq (by
    simp only [List.mem_singleton, Option.some.injEq] at hm
    rw [hm]
    rfl)
  exact ⟨h.1.kept k (hn _ n0), h.2.1.kept k (hn _ n1), h.2.2.1.kept k (hn _ n2), h.2.2.2.1.kept k (hn _ n3), h.2.2.2.2.1, o, hb.trans (k.toBelow hb.size (fun q hq => by simp at hq; omega))⟩
end
namespace PG
theorem erase_0 {g : Gr} {r c : Nat} {p : Pn} (hr : r < g.rows) : spl (cells (wipeG g r c g.cols p)) ((r + 1) * g.cols) (List.replicate ((g.rows - (r + 1)) * g.cols) (blank p)) = cells (eraseG g r c 0 p) := by
  have hs := wipe_size g r c g.cols p
  have e := blank_rows (g := wipeG g r c g.cols p) (t := r + 1) (b := g.rows) (p := p) (by omega) (by rw [hs.1]; exact Nat.le_refl _)
  rw [hs.2, hs.1] at e
  rw [e]
  refine cells_ext ⟨rfl, rfl, fun i j hi hj => ?_⟩
  have hi : i < g.rows := hi
  unfold eraseG wipeG
  rw [if_pos hr]
  show (if r + 1 ≤ i ∧ i < g.rows then blank p else if i = r then mend (wiped (g.f r) c g.cols p) g.cols j else g.f i j) = if (0 : Nat) = 2 ∨ (0 : Nat) = 0 ∧ r < i ∨ (0 : Nat) = 1 ∧ i < r then blank p else if i = r then mend (wiped (g.f r) (if (0 : Nat) = 0 then c else 0) (if (0 : Nat) = 1 then c + 1 else g.cols) p) g.cols j else g.f i j
  by_cases h : r < i
  · rw [if_pos (by omega), if_pos (by omega)]
  · rw [if_neg (show ¬ (r + 1 ≤ i ∧ i < g.rows) by omega), if_neg (show ¬ ((0 : Nat) = 2 ∨ (0 : Nat) = 0 ∧ r < i ∨ (0 : Nat) = 1 ∧ i < r) by omega)]
    rfl
theorem erase_1 {g : Gr} {r c : Nat} {p : Pn} (hr : r < g.rows) : spl (cells (wipeG g r 0 (c + 1) p)) 0 (List.replicate (r * g.cols) (blank p)) = cells (eraseG g r c 1 p) := by
  have hs := wipe_size g r 0 (c + 1) p
  have e := blank_rows (g := wipeG g r 0 (c + 1) p) (t := 0) (b := r) (p := p) (by omega) (by rw [hs.1]; omega)
  rw [hs.2, hs.1, Nat.zero_mul, Nat.sub_zero] at e
  rw [e]
  refine cells_ext ⟨rfl, rfl, fun i j hi hj => ?_⟩
  unfold eraseG wipeG
  rw [if_pos hr]
  show (if 0 ≤ i ∧ i < r then blank p else if i = r then mend (wiped (g.f r) 0 (c + 1) p) g.cols j else g.f i j) = if (1 : Nat) = 2 ∨ (1 : Nat) = 0 ∧ r < i ∨ (1 : Nat) = 1 ∧ i < r then blank p else if i = r then mend (wiped (g.f r) (if (1 : Nat) = 0 then c else 0) (if (1 : Nat) = 1 then c + 1 else g.cols) p) g.cols j else g.f i j
  by_cases h : i < r
  · rw [if_pos (by omega), if_pos (by omega)]
  · rw [if_neg (show ¬ (0 ≤ i ∧ i < r) by omega), if_neg (show ¬ ((1 : Nat) = 2 ∨ (1 : Nat) = 0 ∧ r < i ∨ (1 : Nat) = 1 ∧ i < r) by omega)]
    rfl
theorem erase_2 {g : Gr} {r c : Nat} {p : Pn} (l : List Cl) (hl : l.length = g.rows * g.cols) : spl l 0 (List.replicate (g.rows * g.cols) (blank p)) = cells (eraseG g r c 2 p) := by
  rw [spl_all (by rw [List.length_replicate, hl]), new_cells]
  exact (cells_ext (erase_all g r c p)).symm
theorem line_size (g : Gr) (r c k : Int) (p : Pn) : (lineI g r c k p).rows = g.rows ∧ (lineI g r c k p).cols = g.cols := lineI_size g r c k p
end PG
end Go.Proofs.YtbhnipepbckalaaDoor
namespace Go.Proofs.YtbhnipepbckalaaDoor
open Go.RowKit
set_option linter.unusedVariables false
section
variable {G : PG.Gr} {v : Value} {w : World}
end
end Go.Proofs.YtbhnipepbckalaaDoor
