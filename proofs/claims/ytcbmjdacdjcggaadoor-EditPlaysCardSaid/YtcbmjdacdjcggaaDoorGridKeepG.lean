/- The contract of the given grids that statements make of numbers. -/
import Derived.Test.YtcbmjdacdjcggaaDoorGridRefNew
import Derived.Test.YtcbmjdacdjcggaaDoorSameCell
import Derived.Deep.RegionHeld3
import Derived.Deep.RegionHeldLaw
import Derived.IntWalk
set_option maxRecDepth 100000
namespace Go.Proofs.YtcbmjdacdjcggaaDoor
open Go.RowKit
set_option linter.unusedVariables false
set_option maxHeartbeats 1000000 in
theorem pick_wide (l : List Int) (A : Option Addr) (B n c i : Nat) (w : World) (hx : Seen w B A n (l.map (Value.int .i64))) (hn : n ≤ 9223372036854775807) (hi : i ≤ 1099511627776) :
    Calls Tryd.prog 38 #[.slice A n c, .int .i64 i] w fun e w' => e = .returned (.int .i64 (PG.pick l i)) ∧ w = w' := by
  have hlen : l.length = n := by simpa using hx.1
  by_cases h0 : n < 1
  · have hr : PG.pick l i = 0 := by
      unfold PG.pick
      rw [if_pos (List.eq_nil_of_length_eq_zero (by omega))]
    obtain rfl : n = 0 := by omega
    have hr := hide hr
    clear hx hlen h0
    go_enter Tryd.func38, Tryd.ntmps38
    go_wp2_with fail
    go_ret
    exact ⟨by rw [hr.out]; rfl, rfl⟩
  · have hk : i % n < n := Nat.mod_lt _ (by omega)
    obtain ⟨ad, u, rfl, _, hu, hc⟩ := hx.at_ hk
    rw [List.getElem?_map] at hu
    obtain ⟨z, hz, rfl⟩ := Option.map_eq_some_iff.1 hu
    have hr : PG.pick l i = z := by
      unfold PG.pick
      rw [if_neg (fun e => by subst e; simp at hlen; omega), hlen, List.getD_eq_getElem?_getD, hz]
      rfl
    have hm : (i : Int).tmod (n : Int) = ((i % n : Nat) : Int) := (Int.ofNat_tmod i n).symm
    have hne : ((n : Int) == 0) = false := by simp; omega
    have hr := hide hr
    clear hu hz hx hlen
    generalize i % n = j at *
    go_enter Tryd.func38, Tryd.ntmps38
    go_wp2_with fail
    go_ret
    exact ⟨by rw [hr.out]; rfl, rfl⟩
theorem pick_is (l : List Int) (A : Option Addr) (B n c : Nat) (j : Int) (i : Nat) (hj : j = (i : Int)) (v : Int) (hv : PG.pick l i = v) (w : World) (hx : Seen w B A n (l.map (Value.int .i64))) (hn : n ≤ 9223372036854775807) (hi : i ≤ 1099511627776) :
    Calls Tryd.prog 38 #[.slice A n c, .int .i64 j] w fun e w' => e = .returned (.int .i64 v) ∧ w = w' := by
  subst hj hv
  exact pick_wide l A B n c i w hx hn hi
theorem pick_bd {l : List Int} (h : ∀ x ∈ l, -9223372036854775808 ≤ x ∧ x ≤ 9223372036854775807) (i : Nat) : -9223372036854775808 ≤ PG.pick l i ∧ PG.pick l i ≤ 9223372036854775807 := by
  unfold PG.pick
  split
  · omega
  · rename_i h0
    have hl : 0 < l.length := List.length_pos_iff.2 h0
    have hk : i % l.length < l.length := Nat.mod_lt _ hl
    rw [List.getD_eq_getElem?_getD, List.getElem?_eq_getElem hk]
    exact h _ (List.getElem_mem hk)
theorem pos_of_tmod9 {n : Int} (h : n.tmod 5 = 4) : 0 ≤ n.tmod 9 ∧ n.tmod 9 ≤ 8 := by
  have h0 := PG.tmod_pos h
  have h1 := Int.tmod_nonneg (9 : Int) h0
  have h2 := Int.tmod_lt_of_pos n (b := 9) (by omega)
  omega
/-- what stands between the rounds -/
structure KGr (w : World) (rw cl : Int) (Ar Ap : Option Addr) (nr cr np cp R K N gt : Nat) (rs ps : List Int) (l : List PG.Cl) (v : Value) (wx : World) : Prop where
  box0 : Box wx w.heap.size 36 #[.int .i64 rw, .int .i64 cl, .slice Ar nr cr, .slice Ap np cp]
  box1 : Box wx (w.heap.size + 1) 27 #[.int .i64 0, .int .i64 0, .slice none 0 0]
  boxT : Box wx gt 27 #[.int .i64 R, .int .i64 K, v]
  own : wx.ownsRow w.heap.size 45 5 v l.length (ccells l)
  below : Below w.heap.size w wx
  ok : PG.Ok K l
  fit : l.length ≤ N
  rest : PG.keepGo rs ps K N N l = PG.keepGo rs ps K N N []
theorem KGr.call {w wx wy : World} {rw cl : Int} {Ar Ap : Option Addr} {nr cr np cp R K N gt : Nat} {rs ps : List Int} {l : List PG.Cl} {v : Value} (h : KGr w rw cl Ar Ap nr cr np cp R K N gt rs ps l v wx) (b : Below wx.heap.size wx wy) : KGr w rw cl Ar Ap nr cr np cp R K N gt rs ps l v wy :=
  ⟨h.box0.below b h.box0.lt, h.box1.below b h.box1.lt, h.boxT.below b h.boxT.lt, own_low h.own b, h.below.trans (b.mono h.below.size), h.ok, h.fit, h.rest⟩
/-- one round's cells appended, and the field stored -/
theorem KGr.grow {w wx w1 : World} {rw cl : Int} {Ar Ap : Option Addr} {nr cr np cp R K N gt : Nat} {rs ps : List Int} {l m : List PG.Cl} {v : Value} {A1 : Option Addr} {c1 : Nat} (h : KGr w rw cl Ar Ap nr cr np cp R K N gt rs ps l v wx) (hN : N = R * K)
    (o1 : w1.ownsRow w.heap.size 45 5 (.slice A1 (l.length + m.length) c1) (l.length + m.length) (ccells (l ++ m))) (b0 : wx.grownBy w1 v.ownBlock) (hs : w.heap.size + 1 < gt) (hl : l.length < N) (hm : l ++ m = PG.keepStep rs ps K l) :
    KGr w rw cl Ar Ap nr cr np cp R K N gt rs ps (l ++ m) (.slice A1 (l.length + m.length) c1) (w1.setCell ⟨gt, 2, none⟩ (.slice A1 (l.length + m.length) c1)) := by
  subst hN
  obtain ⟨k1, k2, k3⟩ := PG.keepStep_ok rs ps (R := R) h.ok hl
  have hb : ∀ g, v.ownBlock = some g → w.heap.size ≤ g := fun g hg => (h.own.lt g hg).1
  have y0 := h.box0.grown b0 (fun e => own_ne_box h.own h.box0 (by decide) e.symm)
  have y1 := h.box1.grown b0 (fun e => own_ne_box h.own h.box1 (by decide) e.symm)
  have yT := h.boxT.grown b0 (fun e => own_ne_box h.own h.boxT (by decide) e.symm)
  have nT := own_ne_box o1 yT (by decide)
  refine ⟨y0.far (by show w.heap.size ≠ gt; omega) _, y1.far (by show w.heap.size + 1 ≠ gt; omega) _, by simpa using yT.set 2 (.slice A1 (l.length + m.length) c1), ?_, (h.below.grown b0 h.below.size hb).setCell (show w.heap.size ≤ gt by omega) _, by rw [hm]; exact k1, by rw [hm]; exact k3, ?_⟩
  · rw [List.length_append]
    exact ownsRow_setCell_other o1 (a := ⟨gt, 2, none⟩) nT _
  · rw [hm, ← PG.keepGo_step rs ps h.ok hl (by omega)]
    exact h.rest
set_option maxHeartbeats 8000000 in
theorem keepGrid_any (rw cl : Int) (R K nr cr np cp B : Nat) (rs ps : List Int) (Ar Ap : Option Addr) (w : World) (hR : 1 + rw % (5 - 1 + 1) = (R : Int)) (hK : 1 + cl % (9 - 1 + 1) = (K : Int)) (hr0 : -9223372036854775808 ≤ rw) (hr1 : rw ≤ 9223372036854775807) (hc0 : -9223372036854775808 ≤ cl) (hc1 : cl ≤ 9223372036854775807)
    (hs : Seen w B Ar nr (rs.map (Value.int .i64))) (hp : Seen w B Ap np (ps.map (Value.int .i64))) (hB : B ≤ w.heap.size) (hnr : nr ≤ 9223372036854775807) (hnp : np ≤ 9223372036854775807) (hsb : ∀ x ∈ rs, -9223372036854775808 ≤ x ∧ x ≤ 9223372036854775807) (hpb : ∀ x ∈ ps, -9223372036854775808 ≤ x ∧ x ≤ 9223372036854775807) :
    Calls Tryd.prog 16 #[.agg #[.int .i64 rw, .int .i64 cl, .slice Ar nr cr, .slice Ap np cp]] w (GaveG w R K (PG.keepCells rs ps R K)) := by
  obtain ⟨i0, hi, hz0, hz1, hz2⟩ := info_parts info_cell
  have WR := hide (fun w' => within_is rw 1 5 R hR w' hr0 hr1 (by omega) (by omega) (by omega))
  have WK := hide (fun w' => within_is cl 1 9 K hK w' hc0 hc1 (by omega) (by omega) (by omega))
  have hR5 : 1 ≤ R ∧ R ≤ 5 := by omega
  have hK9 : 1 ≤ K ∧ K ≤ 9 := by omega
  have hN : R * K ≤ 45 := Nat.mul_le_mul hR5.2 hK9.2
  have eN : (R : Int) * (K : Int) = ((R * K : Nat) : Int) := by simp
  have PR := hide (fun (w' : World) (i : Nat) v (hv : PG.pick rs i = v) (hb : Below w.heap.size w w') (hi : i ≤ 45) => pick_is rs Ar B nr cr i i rfl v hv w' (hs.below (hb.mono hB)) hnr (by omega))
  have PP := hide (fun (w' : World) (j : Int) (i : Nat) v (hj : j = (i : Int)) (hv : PG.pick ps i = v) (hb : Below w.heap.size w w') (hi : i ≤ 45) => pick_is ps Ap B np cp j i hj v hv w' (hp.below (hb.mono hB)) hnp (by omega))
  have hkw := hide (PG.keepCells_ok rs ps R K)
  have hsb := hide hsb
  have hpb := hide hpb
  clear hR hK hr0 hr1 hc0 hc1 hs hp hB hnr hnp
  have hNN : ∃ N, R * K = N := ⟨_, rfl⟩
  obtain ⟨N, hNN⟩ := hNN
  rw [hNN] at hN eN
  have hNN := hide hNN
  unfold GaveG gv
  go_enter Tryd.func16, Tryd.ntmps16
  go_wp2_with fail
  go_region_held3 (fun w' => w'.cell? ⟨w.heap.size, 0, none⟩ = some (.int .i64 rw) ∧ w'.cell? ⟨w.heap.size, 1, none⟩ = some (.int .i64 cl)) (go_keep)
    (first | (go_at_call_of 18 (Value.int IntKind.i64 rw); refine (WR.out _).mono ?_; rintro e w' ⟨rfl, rfl⟩) | (go_at_call_of 18 (Value.int IntKind.i64 cl); refine (WK.out _).mono ?_; rintro e w' ⟨rfl, rfl⟩))
  go_wp2_with fail
  go_loopw [6] (fun j wr => ∃ (i : Nat) (l : List PG.Cl) (v : Value), j = .int .i64 i ∧ Hid (l.length = i) ∧ KGr w rw cl Ar Ap nr cr np cp R K N (w.heap.size + 1 + 1) rs ps l v wr) (fun j _ => N - (intOf j).toNat)
  case atStart =>
    refine ⟨0, [], .slice none 0 0, rfl, hide rfl, ?_⟩
    have x0 := (((Box.new w 36 #[.int .i64 rw, .int .i64 cl, .slice Ar nr cr, .slice Ap np cp]).alloc (.cells #[.int .i64 0, .int .i64 0, .slice none 0 0] 27)).drew).alloc (.cells #[.int .i64 R, .int .i64 K, .slice none 0 0] 27)
    have x1 := ((Box.new (w.alloc (.cells #[.int .i64 rw, .int .i64 cl, .slice Ar nr cr, .slice Ap np cp] 36)) 27 #[.int .i64 0, .int .i64 0, .slice none 0 0]).drew).alloc (.cells #[.int .i64 R, .int .i64 K, .slice none 0 0] 27)
    have xT := Box.new ((w.alloc (.cells #[.int .i64 rw, .int .i64 cl, .slice Ar nr cr, .slice Ap np cp] 36)).alloc (.cells #[.int .i64 0, .int .i64 0, .slice none 0 0] 27)).drew 27 #[.int .i64 R, .int .i64 K, .slice none 0 0]
    rw [World.size_alloc] at x1
    rw [show (((w.alloc (.cells #[.int .i64 rw, .int .i64 cl, .slice Ar nr cr, .slice Ap np cp] 36)).alloc (.cells #[.int .i64 0, .int .i64 0, .slice none 0 0] 27)).drew).heap.size = w.heap.size + 1 + 1 from by simp [World.drew]] at xT
    exact ⟨x0, x1, xT, World.ownsRow_nil _ _ _ _, ((((Below.refl _ _).alloc (Nat.le_refl _) _).alloc (by simp) _).drew).alloc (by simp [World.drew]; omega) _, PG.ok_nil K, Nat.zero_le _, rfl⟩
  case round =>
    obtain ⟨i, l, v, rfl, hli, H⟩ := hrel
    have ho := H.own
    rw [hli.out] at ho
    have hiN : i ≤ N := by rw [← hli.out]; exact H.fit
    obtain ⟨Av, cv, rfl, _, _, hblk⟩ := own_form' ho
    have b2 : wr.cell? ⟨w.heap.size, 2, none⟩ = some (.slice Ar nr cr) := H.box0.cell 2
    have b3 : wr.cell? ⟨w.heap.size, 3, none⟩ = some (.slice Ap np cp) := H.box0.cell 3
    have l0 := H.box0.lt
    have l1 := H.box1.lt
    have lT := H.boxT.lt
    by_cases hlt : i < N
    · obtain ⟨n, hn⟩ : ∃ n, PG.pick rs i = n := ⟨_, rfl⟩
      obtain ⟨u, hu⟩ : ∃ u, PG.pick ps (i / 3) = u := ⟨_, rfl⟩
      have hnb := pick_bd hsb.out i
      have hub := pick_bd hpb.out (i / 3)
      rw [hn] at hnb
      rw [hu] at hub
      have PRi := hide (fun w' hb => PR.out w' i n hn hb (by omega))
      have PPi := hide (fun w' j hj hb => PP.out w' j (i / 3) u hj hu hb (by omega))
      have hd16 : -9223372036854775808 ≤ u.tdiv 16 ∧ u.tdiv 16 ≤ 9223372036854775807 := by have h1 := Int.mul_tdiv_add_tmod u 16; have h2 := Int.tmod_lt_of_pos u (b := 16) (by omega); have h3 := Int.tmod_lt_of_pos (-u) (b := 16) (by omega); rw [Int.neg_tmod] at h3; omega
      have hd64 : -9223372036854775808 ≤ u.tdiv 64 ∧ u.tdiv 64 ≤ 9223372036854775807 := by have h1 := Int.mul_tdiv_add_tmod u 64; have h2 := Int.tmod_lt_of_pos u (b := 64) (by omega); have h3 := Int.tmod_lt_of_pos (-u) (b := 64) (by omega); rw [Int.neg_tmod] at h3; omega
      have KP := hide (fun w' => keepPen_any u (u.tdiv 16) (u.tdiv 64) w' hub.1 hub.2 hd16.1 hd16.2 hd64.1 hd64.2)
      have hstep : PG.keepStep rs ps K l = if n.tmod 5 = 4 ∧ (i + 1) % K ≠ 0 then l ++ [(19968 + n.tmod 9, 1, PG.keepPen u), (0, 2, PG.keepPen u)] else l ++ [(97 + n % 10, 0, PG.keepPen u)] := by
        unfold PG.keepStep
        rw [hli.out, hn, hu]
      have hkp : PG.keepPen u = (C.kcol u, C.kcol (u.tdiv 16), u.tdiv 64 % 256) := rfl
      rw [hkp] at hstep
      generalize C.kcol u = p1 at *
      generalize C.kcol (u.tdiv 16) = p2 at *
      generalize u.tdiv 64 % 256 = p3 at *
      have hstep := hide hstep
      have H := hide H
      have hblk := hide hblk
      have hsz := H.out.below.size
      have hKz : ((K : Int) == 0) = false := by simp; omega
      have hgo := hide (show Below w.heap.size w wr from H.out.below)
      clear hkp hn hu PR PP ho
      go_upto_region 9 with (first
        | (go_at_call_of 38 (Value.slice Ar nr cr)
           go_must (refine (PRi.out _ hgo.out).mono ?_)
           rintro e w' ⟨rfl, rfl⟩)
        | (go_at_call_of 38 (Value.slice Ap np cp)
           go_must (refine (PPi.out _ _ (by omega) hgo.out).mono ?_)
           rintro e w' ⟨rfl, rfl⟩)
        | (go_at_call 17
           go_must (refine (KP.out _).mono ?_)
           rintro e w5 ⟨rfl, b5⟩
           have H5 := hide (H.out.call b5)
           clear b5 KP H))
      have xP := Box.new w5 23 #[.int .i64 p1, .int .i64 p2, .int .i64 p3]
      have H6 := H5.out.call ((Below.refl _ w5).alloc (Nat.le_refl _) (.cells #[.int .i64 p1, .int .i64 p2, .int .i64 p3] 23))
      generalize w5.alloc (.cells #[.int .i64 p1, .int .i64 p2, .int .i64 p3] 23) = w6 at xP H6 ⊢
      generalize w5.heap.size = gp at xP ⊢
      clear H5 PRi PPi hgo hub hd16 hd64 b2 b3 l0 l1 lT hsz
      have t2 : w6.cell? ⟨w.heap.size + 1 + 1, 2, none⟩ = some (.slice Av i cv) := H6.boxT.cell 2
      have fT := H6.boxT.frozen 2
      have lT := H6.boxT.lt
      have lp := xP.lt
      obtain ⟨P0, P1, P2, _⟩ := xP.three
      have ho := H6.own
      rw [hli.out] at ho
      have ho := hide ho
      have hll : l.length < N := by rw [hli.out]; exact hlt
      have hll := hide hll
      have H6 := hide H6
      obtain ⟨m, hm⟩ : ∃ m, (i + 1) % K = m := ⟨_, rfl⟩
      have hm1 : ((i : Int) + 1).tmod (K : Int) = (m : Int) := by rw [← hm]; exact (Int.ofNat_tmod (i + 1) K).symm
      have hm2 : ((i : Int) + 1) % (K : Int) = (m : Int) := by rw [← Int.tmod_eq_emod_of_nonneg (by omega)]; exact hm1
      by_cases h5 : n.tmod 5 = 4
      · by_cases hm0 : m = 0
        · have hs1 := hstep.out
          rw [hm, if_neg (fun h => h.2 hm0)] at hs1
          have q5 : (n.tmod 5 == 4) = true := by simpa using h5
          have qm : ((m : Int) != 0) = false := by simp; omega
          clear hstep hm h5 hm0
          obtain ⟨y, hy⟩ : ∃ y, n % 10 = y := ⟨_, rfl⟩
          have hyb : 0 ≤ y ∧ y ≤ 9 := by omega
          have WN := hide (fun w' => within_is n 0 9 y (by omega) w' hnb.1 hnb.2 (by omega) (by omega) (by omega))
          rw [hy] at hs1
          have hs1 := hide hs1
          have w32 : IntKind.i32.wrap (97 + y) = 97 + y := IntWalk.i32_in _ (by omega)
          have w64 : IntKind.i64.wrap (97 + y) = 97 + y := IntWalk.i64_in _ (by omega)
          have t2o : ∀ o, (w6.alloc o).cell? ⟨w.heap.size + 1 + 1, 2, none⟩ = some (.slice Av i cv) := fun o => (World.cell?_alloc_lt w6 o ⟨w.heap.size + 1 + 1, 2, none⟩ lT).trans t2
          clear hy
          go_wp2_with fail
          go_region_law (first
            | (go_simp; go_at_call 18; refine (WN.out _).mono ?_; rintro e w' ⟨rfl, rfl⟩)
            | (refine step_appB (by rfl) (.tmp 68) (.tmp 75) 25 (by rfl) w.heap.size 45 i0 _ 5 40 Tryd.underlying25 hi hz0 hz1 hz2 zcell_size (by omega) (.slice Av i cv) i (ccells l) (by rfl) (show ((w6.alloc (.cells #[.int .i32 (97 + y), .int .i64 0, .int .i64 p1, .int .i64 p2, .int .i64 p3] 45)).drew).ownsRow w.heap.size 45 5 (.slice Av i cv) i (ccells l) from ho.out.alloc _) #[.int .i32 (97 + y), .int .i64 0, .int .i64 p1, .int .i64 p2, .int .i64 p3] 45 w6.heap.size (by rfl) (Box.new w6 _ _).drew rfl (by simp [Value.oneCell']) (by omega) (by omega) (by have := H6.out.below.size; simp [World.drew]; omega) ?_
               intro v1 w1 o1 hg1 hmv
               (obtain ⟨A1, c1, rfl, _⟩ := own_form' o1)
               have hg1' : (w6.alloc (.cells #[.int .i32 (97 + y), .int .i64 0, .int .i64 p1, .int .i64 p2, .int .i64 p3] 45)).grownBy w1 (Value.slice Av i cv).ownBlock := ⟨hg1.os, hg1.tape, hg1.output, hg1.size, hg1.block⟩
               have H7 := H6.out.call ((Below.refl _ w6).alloc (Nat.le_refl _) (.cells #[.int .i32 (97 + y), .int .i64 0, .int .i64 p1, .int .i64 p2, .int .i64 p3] 45))
               have b1T := H7.boxT.grown hg1' (fun e => own_ne_box H7.own H7.boxT (by decide) e.symm)
               have f1T := b1T.frozen 2
               have c1T : w1.cell? ⟨w.heap.size + 1 + 1, 2, none⟩ = some (.slice Av i cv) := b1T.cell 2
               have H8 := hide (KGr.grow (m := [(97 + y, 0, (p1, p2, p3))]) H7 hNN.out.symm (A1 := A1) (c1 := c1) (by rw [hli.out, ccells_append]; exact o1) hg1' (by omega) hll.out hs1.out.symm)))
          all_goals
            clear o1 hg1 hg1' hmv H7 b1T H6 ho t2 fT P0 P1 P2 t2o
            go_wp2_with fail
            go_roundw
            case rel =>
              have H9 := H8.out
              rw [hli.out] at H9
              exact ⟨i + 1, _, _, by go_num, hide (by rw [List.length_append, hli.out]; rfl), H9⟩
            case measure => simp [intOf]; omega
        · have hs1 := hstep.out
          rw [hm, if_pos ⟨h5, hm0⟩] at hs1
          have hs1 := hide hs1
          have q5 : (n.tmod 5 == 4) = true := by simpa using h5
          have qm : ((m : Int) != 0) = true := by simp; omega
          have h9 := pos_of_tmod9 h5
          have w32 : IntKind.i32.wrap (19968 + n.tmod 9) = 19968 + n.tmod 9 := IntWalk.i32_in _ (by omega)
          clear hstep hm h5 hm0
          go_wp2_with (
            at_builtin
            go_must (refine wpList_appC rfl (.tmp 53) (.tmp 62) 25 rfl w.heap.size 45 i0 _ 40 Tryd.underlying25 hi hz0 hz1 hz2 rfl (.slice Av i cv) i l rfl (ho.out.alloc _) (w6.heap.size + 1) (some ⟨w6.heap.size, 0, none⟩) 2 2 [(19968 + n.tmod 9, 1, (p1, p2, p3)), (0, 2, (p1, p2, p3))] rfl (Seen.of_box (Box.new w6 45 #[.int .i32 (19968 + n.tmod 9), .int .i64 1, .int .i64 p1, .int .i64 p2, .int .i64 p3, .int .i32 0, .int .i64 2, .int .i64 p1, .int .i64 p2, .int .i64 p3]) rfl rfl (Nat.lt_succ_self _)) (by omega) (by omega) (by have := H6.out.below.size; simp; omega) ?_)
            intro v1 w1 o1 hg1 hmv
            obtain ⟨A1, c1, rfl, _⟩ := own_form' o1
            have H7 := H6.out.call ((Below.refl _ w6).alloc (Nat.le_refl _) (.cells #[.int .i32 (19968 + n.tmod 9), .int .i64 1, .int .i64 p1, .int .i64 p2, .int .i64 p3, .int .i32 0, .int .i64 2, .int .i64 p1, .int .i64 p2, .int .i64 p3] 45))
            have b1T := H7.boxT.grown hg1 (fun e => own_ne_box H7.own H7.boxT (by decide) e.symm)
            have f1T := b1T.frozen 2
            have c1T : w1.cell? ⟨w.heap.size + 1 + 1, 2, none⟩ = some (.slice Av i cv) := b1T.cell 2
            have H8 := hide (KGr.grow (m := [(19968 + n.tmod 9, 1, (p1, p2, p3)), (0, 2, (p1, p2, p3))]) H7 hNN.out.symm (A1 := A1) (c1 := c1) (by rw [hli.out]; exact o1) hg1 (by omega) hll.out hs1.out.symm)
            clear o1 hg1 hmv H7 b1T H6 ho t2 fT P0 P1 P2)
          go_roundw
          case rel =>
            have H9 := H8.out
            rw [hli.out] at H9
            exact ⟨i + 2, _, _, by go_num, hide (by rw [List.length_append, hli.out]; rfl), H9⟩
          case measure => simp [intOf]; omega
      · have hs1 := hstep.out
        rw [hm, if_neg (fun h => h5 h.1)] at hs1
        have q5 : (n.tmod 5 == 4) = false := by simpa using h5
        clear hstep hm h5
        obtain ⟨y, hy⟩ : ∃ y, n % 10 = y := ⟨_, rfl⟩
        have hyb : 0 ≤ y ∧ y ≤ 9 := by omega
        have WN := hide (fun w' => within_is n 0 9 y (by omega) w' hnb.1 hnb.2 (by omega) (by omega) (by omega))
        rw [hy] at hs1
        have hs1 := hide hs1
        have w32 : IntKind.i32.wrap (97 + y) = 97 + y := IntWalk.i32_in _ (by omega)
        have w64 : IntKind.i64.wrap (97 + y) = 97 + y := IntWalk.i64_in _ (by omega)
        have t2o : ∀ o, (w6.alloc o).cell? ⟨w.heap.size + 1 + 1, 2, none⟩ = some (.slice Av i cv) := fun o => (World.cell?_alloc_lt w6 o ⟨w.heap.size + 1 + 1, 2, none⟩ lT).trans t2
        clear hy
        go_wp2_with fail
        go_region_law (first
          | (go_simp; go_at_call 18; refine (WN.out _).mono ?_; rintro e w' ⟨rfl, rfl⟩)
          | (refine step_appB (by rfl) (.tmp 68) (.tmp 75) 25 (by rfl) w.heap.size 45 i0 _ 5 40 Tryd.underlying25 hi hz0 hz1 hz2 zcell_size (by omega) (.slice Av i cv) i (ccells l) (by rfl) (show ((w6.alloc (.cells #[.int .i32 (97 + y), .int .i64 0, .int .i64 p1, .int .i64 p2, .int .i64 p3] 45)).drew).ownsRow w.heap.size 45 5 (.slice Av i cv) i (ccells l) from ho.out.alloc _) #[.int .i32 (97 + y), .int .i64 0, .int .i64 p1, .int .i64 p2, .int .i64 p3] 45 w6.heap.size (by rfl) (Box.new w6 _ _).drew rfl (by simp [Value.oneCell']) (by omega) (by omega) (by have := H6.out.below.size; simp [World.drew]; omega) ?_
             intro v1 w1 o1 hg1 hmv
             (obtain ⟨A1, c1, rfl, _⟩ := own_form' o1)
             have hg1' : (w6.alloc (.cells #[.int .i32 (97 + y), .int .i64 0, .int .i64 p1, .int .i64 p2, .int .i64 p3] 45)).grownBy w1 (Value.slice Av i cv).ownBlock := ⟨hg1.os, hg1.tape, hg1.output, hg1.size, hg1.block⟩
             have H7 := H6.out.call ((Below.refl _ w6).alloc (Nat.le_refl _) (.cells #[.int .i32 (97 + y), .int .i64 0, .int .i64 p1, .int .i64 p2, .int .i64 p3] 45))
             have b1T := H7.boxT.grown hg1' (fun e => own_ne_box H7.own H7.boxT (by decide) e.symm)
             have f1T := b1T.frozen 2
             have c1T : w1.cell? ⟨w.heap.size + 1 + 1, 2, none⟩ = some (.slice Av i cv) := b1T.cell 2
             have H8 := hide (KGr.grow (m := [(97 + y, 0, (p1, p2, p3))]) H7 hNN.out.symm (A1 := A1) (c1 := c1) (by rw [hli.out, ccells_append]; exact o1) hg1' (by omega) hll.out hs1.out.symm)))
        all_goals
          clear o1 hg1 hg1' hmv H7 b1T H6 ho t2 fT P0 P1 P2 t2o
          go_wp2_with fail
          go_roundw
          case rel =>
            have H9 := H8.out
            rw [hli.out] at H9
            exact ⟨i + 1, _, _, by go_num, hide (by rw [List.length_append, hli.out]; rfl), H9⟩
          case measure => simp [intOf]; omega
    · obtain rfl : i = N := by omega
      have hk := H.rest
      rw [PG.keepGo_done rs ps (by rw [hli.out]; exact Nat.le_refl _)] at hk
      have hcells : l = PG.keepCells rs ps R K := by unfold PG.keepCells; rw [hNN.out]; exact hk
      have t0 : wr.cell? ⟨w.heap.size + 1 + 1, 0, none⟩ = some (.int .i64 R) := H.boxT.cell 0
      have t1 : wr.cell? ⟨w.heap.size + 1 + 1, 1, none⟩ = some (.int .i64 K) := H.boxT.cell 1
      have t2 : wr.cell? ⟨w.heap.size + 1 + 1, 2, none⟩ = some (.slice Av i cv) := H.boxT.cell 2
      obtain ⟨q0, q1, q2, q3, q4, q5⟩ := H.box1.three
      have n1 := own_ne_box ho H.box1 (by decide)
      have X := H.box1.set3 (.int .i64 R) (.int .i64 K) (.slice Av i cv)
      have O := ownsRow_setCell_other (ownsRow_setCell_other (ownsRow_setCell_other ho (a := ⟨w.heap.size + 1, 0, none⟩) n1 (.int .i64 R)) (a := ⟨w.heap.size + 1, 1, none⟩) n1 (.int .i64 K)) (a := ⟨w.heap.size + 1, 2, none⟩) n1 (.slice Av i cv)
      have bz := below_set3 H.below (show w.heap.size ≤ w.heap.size + 1 by omega) (.int .i64 R) (.int .i64 K) (.slice Av i cv)
      obtain ⟨j0, j1, j2, _⟩ := X.three
      have O := hide O
      have bz := hide bz
      have hcells := hide hcells
      clear ho H PR PP hblk hk
      go_wp2_with fail
      refine bodyPost_ret (v := .agg #[.int .i64 R, .int .i64 K, .slice Av i cv]) (by simp [results, Tryd.results16, go_sem, j0, j1, j2]) rfl ⟨_, rfl, ?_, bz.out⟩
      rw [← hcells.out, hli.out]
      exact O.out
end Go.Proofs.YtcbmjdacdjcggaaDoor
