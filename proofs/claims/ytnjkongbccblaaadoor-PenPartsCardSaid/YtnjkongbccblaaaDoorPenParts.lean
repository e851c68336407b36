/- PenParts: parameters in two parts, where no colour is parted, are as at once; a flag set and taken away again is gone; the last colour counts. -/
import Derived.Test.YtnjkongbccblaaaDoorPenTells
import Derived.Test.YtnjkongbccblaaaDoorPenColours
import Derived.Deep.CutBlock
set_option maxRecDepth 100000
namespace Go.Proofs.YtnjkongbccblaaaDoor
open Go.RowKit
set_option linter.unusedVariables false
/-- the call's own parameters, no colour begun -/
def OwnP (w : World) (a0 a1 a2 : Int) (u : Value) (wx : World) : Prop := ∃ (n : Nat) (l : List Int), n ≤ 10 ∧ l.length = n ∧ wx.ownsRow w.heap.size 3 1 u n (j64s l) ∧ Hid (∀ x ∈ l, 0 ≤ x ∧ x ≤ 107 ∧ x ≠ 38 ∧ x ≠ 48) ∧ Box wx w.heap.size 31 #[.int .i64 a0, .int .i64 a1, .int .i64 a2] ∧ Below w.heap.size w wx
theorem bdp_snoc {l : List Int} {z : Int} (h : Hid (∀ x ∈ l, 0 ≤ x ∧ x ≤ 107 ∧ x ≠ 38 ∧ x ≠ 48)) (h0 : 0 ≤ z ∧ z ≤ 107 ∧ z ≠ 38 ∧ z ≠ 48) : Hid (∀ x ∈ l ++ [z], 0 ≤ x ∧ x ≤ 107 ∧ x ≠ 38 ∧ x ≠ 48) := by
  intro x hx
  rcases List.mem_append.1 hx with hx | hx
  · exact h x hx
  · rw [List.mem_singleton.1 hx]
    exact h0
theorem flags_off : ∀ fl, fl < 256 → ∀ f ∈ ([4, 8, 16, 32, 64, 128] : List Nat), (fl ||| f) &&& (255 - f) = fl &&& (255 - f) := by decide +kernel
theorem flags_22 : ∀ fl, fl < 256 → ((fl ||| 1) ||| 2) &&& 252 = fl &&& 252 := by decide +kernel
def onC : Array Value := #[.int .i64 3, .int .i64 4, .int .i64 5, .int .i64 7, .int .i64 8, .int .i64 9]
def offC : Array Value := #[.int .i64 23, .int .i64 24, .int .i64 25, .int .i64 27, .int .i64 28, .int .i64 29]
def flgC : Array Value := #[.int .i64 4, .int .i64 8, .int .i64 16, .int .i64 32, .int .i64 64, .int .i64 128]
/-- the six flags -/
theorem six {k : Nat} (h : k < 6) : ∃ on off f : Nat, onC[k]? = some (.int .i64 (on : Nat)) ∧ offC[k]? = some (.int .i64 (off : Nat)) ∧ flgC[k]? = some (.int .i64 (f : Nat)) ∧ f ∈ ([4, 8, 16, 32, 64, 128] : List Nat) ∧ 3 ≤ on ∧ on ≤ 9 ∧ off = on + 20 ∧ PS.flagOf on = f := by
  have : ∀ k, k < 6 → ∃ on off f : Nat, onC.toList[k]? = some (.int .i64 (on : Nat)) ∧ offC.toList[k]? = some (.int .i64 (off : Nat)) ∧ flgC.toList[k]? = some (.int .i64 (f : Nat)) ∧ f ∈ ([4, 8, 16, 32, 64, 128] : List Nat) ∧ 3 ≤ on ∧ on ≤ 9 ∧ off = on + 20 ∧ PS.flagOf on = f := by
    intro k h
    match k, h with
    | 0, _ => exact ⟨3, 23, 4, rfl, rfl, rfl, by decide, by omega, by omega, rfl, rfl⟩
    | 1, _ => exact ⟨4, 24, 8, rfl, rfl, rfl, by decide, by omega, by omega, rfl, rfl⟩
    | 2, _ => exact ⟨5, 25, 16, rfl, rfl, rfl, by decide, by omega, by omega, rfl, rfl⟩
    | 3, _ => exact ⟨7, 27, 32, rfl, rfl, rfl, by decide, by omega, by omega, rfl, rfl⟩
    | 4, _ => exact ⟨8, 28, 64, rfl, rfl, rfl, by decide, by omega, by omega, rfl, rfl⟩
    | 5, _ => exact ⟨9, 29, 128, rfl, rfl, rfl, by decide, by omega, by omega, rfl, rfl⟩
    | k + 6, h => omega
  simpa using this k h
/-- a flag put, and taken away again -/
theorem pp_on (p : PS.Pn) {on : Nat} (h1 : 3 ≤ on) (h2 : on ≤ 9) : PS.apply p [(on : Int)] = ⟨p.fo, p.ba, p.fl ||| PS.flagOf on⟩ := by
  have py : PS.pos (on : Int) = on := by unfold PS.pos; omega
  unfold PS.apply
  rw [if_neg (by simp), PS.sgr_one (by omega) (by omega), py, one_flag p (by omega) h2]
  rfl
theorem pp_off (p : PS.Pn) (hp : PS.Ok p) {on : Nat} (h1 : 3 ≤ on) (h2 : on ≤ 9) (hf : PS.flagOf on ∈ ([4, 8, 16, 32, 64, 128] : List Nat)) : PS.apply p [(on : Int), ((on + 20 : Nat) : Int)] = ⟨p.fo, p.ba, p.fl &&& (255 - PS.flagOf on)⟩ := by
  have py : PS.pos (on : Int) = on := by unfold PS.pos; omega
  have pz : PS.pos ((on + 20 : Nat) : Int) = on + 20 := by unfold PS.pos; omega
  unfold PS.apply
  rw [if_neg (by simp), PS.sgr_one (by omega) (by omega), py, one_flag p (by omega) h2, PS.sgr_one (by omega) (by omega), pz, one_off _ (by omega) (by omega), Nat.add_sub_cancel, flags_off _ hp _ hf]
  rfl
theorem pp_39 (fo ba : Int) (fl : Nat) : PS.apply ⟨fo, ba, fl⟩ [31, 39] = ⟨-1, ba, fl⟩ := rfl
theorem pp_94 (fo ba : Int) (fl : Nat) : PS.apply ⟨fo, ba, fl⟩ [31, 94] = ⟨12, ba, fl⟩ := rfl
theorem pp_22 (fo ba : Int) {fl : Nat} (h : fl < 256) : PS.apply ⟨fo, ba, fl⟩ [1, 2, 22] = ⟨fo, ba, fl &&& 252⟩ := by
  have e : PS.apply ⟨fo, ba, fl⟩ [1, 2, 22] = ⟨fo, ba, ((fl ||| 1) ||| 2) &&& 252⟩ := rfl
  rw [e, flags_22 fl h]
theorem apply_cons {p : PS.Pn} {l : List Int} (h : l ≠ []) : PS.apply p l = PS.sgr p l := by
  unfold PS.apply
  rw [if_neg h]
theorem own_addr {w : World} {base n c : Nat} {e : TypeId} {A : Option Addr} {xs : List Value} (h : w.ownsRow base e 1 (.slice A n c) n xs) (hn : 1 ≤ n) : ∃ g, A = some ⟨g, 0, none⟩ := by
  obtain ⟨g, c', h1, _, _⟩ := own_first h hn
  simp only [Value.slice.injEq] at h1
  exact ⟨g, h1.1⟩
set_option maxHeartbeats 16000000 in
theorem penParts_t (a0 a1 a2 pf pb ct fn : Int) (pg fi : Nat) (Ap : Option Addr) (np cp : Nat) (lp : List Int) (w : World) (hp : PR ⟨pf, pb, pg⟩) (hA : Arg .i64 w Ap np cp lp) (hct : -9223372036854775808 ≤ ct ∧ ct ≤ 9223372036854775807)
    (hFT : FlagT w) (PRN : Hid (∀ w, FlagT w → Calls Tryd.prog 3 #[] w fun e w' => e = .returned (.bool true) ∧ Below w.heap.size w w'))
    (KPA : Hid (∀ w, Calls Tryd.prog 15 #[.agg #[.int .i64 a0, .int .i64 a1, .int .i64 a2]] w fun e w' => e = .returned (.agg #[.int .i64 pf, .int .i64 pb, .int .i64 (pg : Nat)]) ∧ Below w.heap.size w w'))
    (FW : Hid (∀ w, Calls Tryd.prog 13 #[.int .i64 fn, .int .i64 0, .int .i64 5] w fun e w' => e = .returned (.int .i64 fi) ∧ w = w')) (hfi : fi < 6) :
    Calls Tryd.prog 6 #[.agg #[.int .i64 a0, .int .i64 a1, .int .i64 a2], .slice Ap np cp, .int .i64 ct, .int .i64 fn] w fun e w' => e = .returned (.bool true) ∧ Below w.heap.size w w' := by
  obtain ⟨i0, hi, hz0, hz1, hz2⟩ := info_parts info_int9
  have HA := hide hA
  have HPR := hide hp
  have HT := hide hFT
  have hcap1 := hA.cap
  have hle1 := hA.le
  unfold maxLen at hcap1
  clear hA hp
  go_enter Tryd.func6, Tryd.ntmps6
  have hK0 := Box.new w 31 #[.int .i64 a0, .int .i64 a1, .int .i64 a2]
  have hB0 := (Below.refl w.heap.size w).alloc (Nat.le_refl _) (.cells #[.int .i64 a0, .int .i64 a1, .int .i64 a2] 31)
  go_upto_block 0 with fail
  generalize w.alloc (.cells #[.int .i64 a0, .int .i64 a1, .int .i64 a2] 31) = wa at hK0 hB0 ⊢
  have HK0 := hide hK0
  have HB0 := hide hB0
  clear hK0 hB0
  go_cut [9] (fun u wx => OwnP w a0 a1 a2 u wx)
  case first =>
    go_wp2_with fail
    go_loopw [9, 10] (fun u i wr => ∃ (k n : Nat) (l : List Int), k ≤ 10 ∧ n ≤ k ∧ k ≤ np ∧ i = .int .i64 k ∧ Hid (l.length = n) ∧ wr.ownsRow w.heap.size 3 1 u n (j64s l) ∧ Hid (∀ x ∈ l, 0 ≤ x ∧ x ≤ 107 ∧ x ≠ 38 ∧ x ≠ 48) ∧ Hid (Box wr w.heap.size 31 #[.int .i64 a0, .int .i64 a1, .int .i64 a2]) ∧ Below w.heap.size w wr) (fun _ i _ => 10 - (intOf i).toNat)
    case atStart => exact ⟨0, 0, [], by omega, by omega, Nat.zero_le _, rfl, by exact rfl, World.ownsRow_nil _ _ _ _, (by intro x hx; simp at hx), HK0.out, HB0.out⟩
    case round =>
      obtain ⟨k, n, l, hk, hnk, hkn, rfl, hl, ho, hbd, hbx, b0⟩ := hrel
      have cs : (np ≤ k ∨ (k < np ∧ 10 ≤ k)) ∨ (k < np ∧ k < 10) := by omega
      rcases cs with hh | ⟨h, h'⟩
      · have FIN := hide (show OwnP w a0 a1 a2 u9 wr from ⟨n, l, by omega, hl.out, ho, hbd, hbx.out, b0⟩)
        clear ho
        rcases hh with hh | ⟨hh, hh'⟩
        · go_wp2_with fail
          go_meet
          exact FIN.out
        · go_wp2_with fail
          go_meet
          exact FIN.out
      · obtain ⟨ad, u, rfl, _, hu, hc⟩ := (HA.out.seen.below b0).at_ h
        rw [List.getElem?_map] at hu
        obtain ⟨x, hx, rfl⟩ := Option.map_eq_some_iff.1 hu
        obtain ⟨x0, x1⟩ := bounds_i64 (HA.out.wf x (List.mem_of_getElem? hx))
        obtain ⟨y, hy, hyb⟩ : ∃ y : Int, 0 + x % (107 - 0 + 1) = y ∧ 0 ≤ y ∧ y ≤ 107 := ⟨_, rfl, by omega, by omega⟩
        have WI := hide (fun w' => within_is x 0 107 y hy w' x0 x1 (by omega) (by omega) (by omega))
        have hsz := b0.size
        clear hu hx hy
        have cy : (y = 38 ∨ y = 48) ∨ (y ≠ 38 ∧ y ≠ 48) := by omega
        rcases cy with (rfl | rfl) | ⟨h1, h2⟩
        · have HO := hide ho
          clear ho
          go_wp2_with fail
          refine (WI.out _).mono ?_
          rintro e w' ⟨rfl, rfl⟩
          go_wp2_with fail
          go_roundw
          case rel => exact ⟨k + 1, n, l, by omega, by omega, by omega, by go_num, hl, HO.out, hbd, hbx, b0⟩
          case measure => simp [intOf]; omega
        · have HO := hide ho
          clear ho
          go_wp2_with fail
          refine (WI.out _).mono ?_
          rintro e w' ⟨rfl, rfl⟩
          go_wp2_with fail
          go_roundw
          case rel => exact ⟨k + 1, n, l, by omega, by omega, by omega, by go_num, hl, HO.out, hbd, hbx, b0⟩
          case measure => simp [intOf]; omega
        · have h1' : (y != 38) = true := by simpa using h1
          have h2' : (y != 48) = true := by simpa using h2
          have HY := hide (And.intro hyb.1 (And.intro hyb.2 (And.intro h1 h2)))
          clear h1 h2
          go_wp2_with fail
          refine (WI.out _).mono ?_
          rintro e w' ⟨rfl, rfl⟩
          go_wp2_with (at_builtin; go_must (refine wpList_app1 rfl (.tmp 42) (.tmp 44) 27 rfl w.heap.size 3 i0 _ 8 Tryd.underlying27 hi hz0 hz1 hz2 rfl u9 n _ rfl ho _ _ _ rfl (by simp) rfl (by omega) (by omega) hsz ?_); intro v1 w3 hown1 hg1 hm1)
          go_roundw
          case rel =>
            refine ⟨k + 1, n + 1, l ++ [y], by omega, by omega, by omega, by go_num, by rw [List.length_append, hl.out]; rfl, by simpa [j64s] using hown1, bdp_snoc hbd HY.out, ?_, b0.grown hg1 hsz (fun g hg => (ho.lt g hg).1)⟩
            exact hbx.out.grown hg1 (fun e => hbx.out.notOwn ho (by decide) e)
          case measure => simp [intOf]; omega
  case rest =>
    obtain ⟨n, l, hn, hl, ho, hbd, hbx, hbw⟩ := hcut
    obtain ⟨A1, c1, rfl, hnc, hcm, _⟩ := own_form ho
    obtain ⟨c, hc, hcn⟩ : ∃ c : Nat, 0 + ct % ((n : Int) - 0 + 1) = (c : Int) ∧ c ≤ n := by
      have h1 := Int.emod_nonneg ct (show ((n : Int) - 0 + 1) ≠ 0 by omega)
      have h2 := Int.emod_lt_of_pos ct (show 0 < ((n : Int) - 0 + 1) by omega)
      exact ⟨(0 + ct % ((n : Int) - 0 + 1)).toNat, by omega, by omega⟩
    have CW := hide (fun w' => within_is ct 0 n c hc w' hct.1 hct.2 (by omega) (by omega) (by omega))
    have S0 := hide (Seen.of_own ho)
    have HA1 := hide (fun (h : 1 ≤ n) => own_addr ho h)
    have HL := hide hl
    have HK1 := hide hbx
    have BW1 := hide hbw
    have hbw' := hbw.size
    obtain ⟨m0, m1, m2, _, _, _⟩ := hbx.three
    clear ho hl hbx hbw hc HK0 HB0 HA hcap1 hle1
    go_upto_region 9 with fail
    go_wp2_with fail
    refine (CW.out _).mono ?_
    rintro e w' ⟨rfl, rfl⟩
    go_wp2_with fail
    refine (KPA.out _).mono ?_
    rintro e w2 ⟨rfl, b2⟩
    have hsz2 := b2.size
    have BP := Box.new w2 23 #[.int .i64 pf, .int .i64 pb, .int .i64 (pg : Nat)]
    obtain ⟨p0, p1, p2, q0, q1, q2⟩ := BP.three
    have BP2 := BP.alloc (.cells #[.int .i64 pf, .int .i64 pb, .int .i64 (pg : Nat)] 23)
    have BQ2 := Box.new (w2.alloc (.cells #[.int .i64 pf, .int .i64 pb, .int .i64 (pg : Nat)] 23)) 23 #[.int .i64 pf, .int .i64 pb, .int .i64 (pg : Nat)]
    have SL2 := (((S0.out.below b2).alloc hsz2 (.cells #[.int .i64 pf, .int .i64 pb, .int .i64 (pg : Nat)] 23)).alloc (by simp; omega) (.cells #[.int .i64 pf, .int .i64 pb, .int .i64 (pg : Nat)] 23))
    have BW2 := (((BW1.out.trans (b2.mono BW1.out.size)).alloc (Nat.le_trans BW1.out.size hsz2) (.cells #[.int .i64 pf, .int .i64 pb, .int .i64 (pg : Nat)] 23)).alloc (by have := BW1.out.size; simp; omega) (.cells #[.int .i64 pf, .int .i64 pb, .int .i64 (pg : Nat)] 23))
    rw [World.size_alloc] at BQ2
    clear b2 m0 m1 m2 S0 BW1
    go_upto_if 54 with fail
    obtain ⟨nb, hnb⟩ : ∃ nb, wc.heap.size = nb := ⟨_, rfl⟩
    have HWN := hide (show w.heap.size ≤ nb by rw [← hnb]; exact hbw')
    rw [hnb] at SL2 hsz2
    have HN := hide (show nb ≤ ((w2.alloc (.cells #[.int .i64 pf, .int .i64 pb, .int .i64 (pg : Nat)] 23)).alloc (.cells #[.int .i64 pf, .int .i64 pb, .int .i64 (pg : Nat)] 23)).heap.size by simp; omega)
    have HNQ := hide (show nb ≤ w2.heap.size + 1 by omega)
    have HNP := hide (show nb ≤ w2.heap.size by omega)
    have HPQ := hide (show w2.heap.size ≠ w2.heap.size + 1 by omega)
    have HQ := hide BQ2
    have HP := hide BP2
    have SL := hide SL2
    have BW := hide BW2
    clear BQ2 BP2 SL2 BW2 BP p0 p1 p2 q0 q1 q2 hsz2 hnb hbw'
    generalize (w2.alloc (.cells #[.int .i64 pf, .int .i64 pb, .int .i64 (pg : Nat)] 23)).alloc (.cells #[.int .i64 pf, .int .i64 pb, .int .i64 (pg : Nat)] 23) = w3 at HQ HP SL BW HN ⊢
    generalize w2.heap.size + 1 = gQ at HQ HNQ HPQ ⊢
    generalize w2.heap.size = gP at HP HPQ HNP ⊢
    obtain ⟨y1, hy1⟩ : ∃ y, PS.sgr ⟨pf, pb, pg⟩ (l.take c) = y := ⟨_, rfl⟩
    obtain ⟨z, hz⟩ : ∃ y, PS.sgr ⟨pf, pb, pg⟩ l = y := ⟨_, rfl⟩
    have hyz : PS.sgr y1 (l.drop c) = z := by
      rw [← hy1, ← PS.sgr_append _ _ _ (fun x hx => by
        have := hbd.out x (List.mem_of_mem_take hx)
        unfold PS.pos
        omega), List.take_append_drop, hz]
    have hok1 : PS.Ok y1 := by rw [← hy1]; exact PS.sgr_ok HPR.out.1 _
    obtain ⟨f1, b1, g1⟩ := y1
    obtain ⟨zf, zb, zg⟩ := z
    have HY1 := hide hy1
    have HYZ := hide hyz
    have HZ := hide hz
    have HOK1 := hide hok1
    clear hy1 hyz hz hok1
    go_cut [] from 53 to 59 (fun wx => Box wx gQ 23 #[.int .i64 f1, .int .i64 b1, .int .i64 (g1 : Nat)] ∧ Box wx gP 23 #[.int .i64 pf, .int .i64 pb, .int .i64 (pg : Nat)] ∧ Seen wx nb A1 n (j64s l) ∧ nb ≤ wx.heap.size ∧ Below w.heap.size w wx)
    case first =>
      by_cases h0 : c = 0
      · have e := HY1.out
        rw [h0, List.take_zero] at e
        have e : (⟨pf, pb, pg⟩ : PS.Pn) = ⟨f1, b1, g1⟩ := e
        simp only [PS.Pn.mk.injEq] at e
        obtain ⟨e1, e2, e3⟩ := e
        have hh : Box w3 gQ 23 #[.int .i64 f1, .int .i64 b1, .int .i64 (g1 : Nat)] := by rw [← e1, ← e2, ← e3]; exact HQ.out
        have HH := hide hh
        have h0' : c ≤ 0 := by omega
        clear e1 e2 e3 hh h0
        go_wp2_with fail
        go_meet
        exact ⟨HH.out, HP.out, SL.out, HN.out, BW.out⟩
      · have hcp : 0 < c := by omega
        have hne : l.take c ≠ [] := by
          intro e
          have := congrArg List.length e
          rw [List.length_take, HL.out] at this
          simp at this
          omega
        have ht : ∀ (B : Nat) w', Seen w' B A1 n (j64s l) → Seen w' B A1 c (j64s (l.take c)) := fun B w' h => by
          have := h.take (k := c) hcn
          unfold j64s at this ⊢
          rwa [← List.map_take] at this
        have A12 := hide (fun (B : Nat) w' (h : Seen w' B A1 n (j64s l)) hft => papply_ok ⟨pf, pb, pg⟩ ⟨f1, b1, g1⟩ A1 c c1 B (l.take c) (by rw [apply_cons hne]; exact HY1.out) w' HPR.out.1 (ht B w' h) (by omega) (by omega) (fun x hx => by have := hbd.out x (List.mem_of_mem_take hx); omega) hft)
        clear hne ht
        clear h0
        go_upto_region 12 with fail
        refine wp_region_gj (n := 147) [some gQ] (fun _ => #[.int .i64 pf, .int .i64 pb, .int .i64 (pg : Nat)]) [(0, 0, 0, 0, 0), (0, 0, 0, 0, 0), (0, 0, 0, 0, 0), (0, 0, 0, 0, 0), (0, 0, 0, 0, 0), (4, 0, 4, 23, 3)] (fun j => [(.agg #[.int .i64 pf, .int .i64 pb, .int .i64 (pg : Nat)]), (.slice A1 n c1), (.int .i64 (c : Nat)), (.slice A1 c c1), (.agg #[.int .i64 f1, .int .i64 b1, .int .i64 (g1 : Nat)]), undef].getD j undef) [] (fun _ => gQ) (by kernel_rfl) (by kernel_rfl) (by kernel_rfl) rfl (by kernel_rfl) (gonly4 (k := 5) rfl ⟨by simp, rfl, HQ.out⟩) (gonly44 (k := 5) rfl) (AllG.nil _) (fun hGS => cases6 ⟨?_, ?_, ?_, ?_, ?_, ?_⟩) ?_
        · intro L a w' hL hsame hsz hJ hdep hcl
          have hb := hJ.kept.toBelow (B := nb) HN.out (fun k hk => by simp at hk; have := HNQ.out; omega)
          have e0 : a.eval (.tmp 14) = (.pointer (some ⟨gQ, 0, none⟩)) := eval_base hsame (by kernel_rfl)
          have hx := hJ.old 5 rfl (not_cameG hcl hL (by kernel_rfl))
          have q0 : w'.cell? ⟨gQ, 0, none⟩ = some (.int .i64 pf) := hx.cell 0
          have q1 : w'.cell? ⟨gQ, 1, none⟩ = some (.int .i64 pb) := hx.cell 1
          have q2 : w'.cell? ⟨gQ, 2, none⟩ = some (.int .i64 (pg : Nat)) := hx.cell 2
          refine Step.val _ rfl rfl (wanted_none rfl) (.agg #[.int .i64 pf, .int .i64 pb, .int .i64 (pg : Nat)]) w' (fun ρ hρ => ?_) (hJ.val hGS hcl hL rfl (Below.refl _ _) _ rfl)
          clear hx
          rw [hρ] at e0
          clear hJ hsame hdep hcl hρ hsz hb
          go_simp
        · intro L a w' hL hsame hsz hJ hdep hcl
          have hb := hJ.kept.toBelow (B := nb) HN.out (fun k hk => by simp at hk; have := HNQ.out; omega)
          have e0 : a.eval (.tmp 9) = (.slice A1 n c1) := eval_base hsame (by kernel_rfl)
          refine Step.val _ rfl rfl (wanted_none rfl) (.slice A1 n c1) w' (fun ρ hρ => ?_) (hJ.val hGS hcl hL rfl (Below.refl _ _) _ rfl)
          rw [hρ] at e0
          clear hJ hsame hdep hcl hρ hsz hb
          go_simp
        · intro L a w' hL hsame hsz hJ hdep hcl
          have hb := hJ.kept.toBelow (B := nb) HN.out (fun k hk => by simp at hk; have := HNQ.out; omega)
          have e0 : a.eval (.tmp 12) = (.int .i64 (c : Nat)) := eval_base hsame (by kernel_rfl)
          refine Step.val _ rfl rfl (wanted_none rfl) (.int .i64 (c : Nat)) w' (fun ρ hρ => ?_) (hJ.val hGS hcl hL rfl (Below.refl _ _) _ rfl)
          rw [hρ] at e0
          clear hJ hsame hdep hcl hρ hsz hb
          go_simp
        · intro L a w' hL hsame hsz hJ hdep hcl
          have hb := hJ.kept.toBelow (B := nb) HN.out (fun k hk => by simp at hk; have := HNQ.out; omega)
          have e0 : a.eval (.tmp 56) = (.slice A1 n c1) := eval_slot (j := 1) (by kernel_rfl) (hJ.valOf (by decide) (dep_of hdep 1 (by kernel_rfl)) rfl rfl)
          have e1 : a.eval (.tmp 57) = (.int .i64 (c : Nat)) := eval_slot (j := 2) (by kernel_rfl) (hJ.valOf (by decide) (dep_of hdep 2 (by kernel_rfl)) rfl rfl)
          refine Step.val _ rfl rfl (wanted_none rfl) (.slice A1 c c1) w' (fun ρ hρ => ?_) (hJ.val hGS hcl hL rfl (Below.refl _ _) _ rfl)
          rw [hρ] at e0 e1
          clear hJ hsame hdep hcl hρ hsz hb
          go_simp
          intro h
          have := hnc
          omega
        · intro L a w' hL hsame hsz hJ hdep hcl
          have hb := hJ.kept.toBelow (B := nb) HN.out (fun k hk => by simp at hk; have := HNQ.out; omega)
          have e0 : a.eval (.tmp 55) = (.agg #[.int .i64 pf, .int .i64 pb, .int .i64 (pg : Nat)]) := eval_slot (j := 0) (by kernel_rfl) (hJ.valOf (by decide) (dep_of hdep 0 (by kernel_rfl)) rfl rfl)
          have e1 : a.eval (.tmp 58) = (.slice A1 c c1) := eval_slot (j := 3) (by kernel_rfl) (hJ.valOf (by decide) (dep_of hdep 3 (by kernel_rfl)) rfl rfl)
          refine Step.call _ rfl rfl (wanted_none rfl) 8 #[.agg #[.int .i64 pf, .int .i64 pb, .int .i64 (pg : Nat)], .slice A1 c c1] (fun ρ hρ => ?_) ?_
          · skip
            rw [hρ] at e0 e1
            have ef : ρ (.func 8) = .func (.func 8) #[] #[] := (hρ _).symm
            clear hJ hsame hdep hcl hρ hsz hb
            go_simp
          · refine (A12.out _ _ (SL.out.below hb) (HT.out.keep (BW.out.trans (hb.mono HWN.out)))).mono ?_
            rintro e w2 ⟨rfl, bb⟩
            exact ⟨_, rfl, hJ.val hGS hcl hL rfl bb _ rfl⟩
        · intro L a w' hL hsame hsz hJ hdep hcl
          have hb := hJ.kept.toBelow (B := nb) HN.out (fun k hk => by simp at hk; have := HNQ.out; omega)
          have hsv := hJ.valOf (j := 4) (by decide) (dep_of hdep 4 (by kernel_rfl)) rfl rfl
          have es : a.eval (.tmp 59) = (.agg #[.int .i64 f1, .int .i64 b1, .int .i64 (g1 : Nat)]) := eval_slot (j := 4) (by kernel_rfl) hsv
          have hx : Box w' gQ 23 #[.int .i64 pf, .int .i64 pb, .int .i64 (pg : Nat)] := hJ.old 5 rfl hL
          have hs : (#[.int .i64 pf, .int .i64 pb, .int .i64 (pg : Nat)] : Array Value).size = 3 := rfl
          have ea : a.eval (.tmp 14) = .pointer (some ⟨gQ, 0, none⟩) := eval_base hsame (by kernel_rfl)
          obtain ⟨m0, hm0⟩ : ∃ m, w'.cell? ⟨gQ, 0, none⟩ = some m := ⟨_, (hx.cell 0).trans (Array.getElem?_eq_getElem (by rw [hs]; decide))⟩
          have hf0 := hx.frozen 0
          obtain ⟨m1, hm1⟩ : ∃ m, w'.cell? ⟨gQ, 1, none⟩ = some m := ⟨_, (hx.cell 1).trans (Array.getElem?_eq_getElem (by rw [hs]; decide))⟩
          have hf1 := hx.frozen 1
          obtain ⟨m2, hm2⟩ : ∃ m, w'.cell? ⟨gQ, 2, none⟩ = some m := ⟨_, (hx.cell 2).trans (Array.getElem?_eq_getElem (by rw [hs]; decide))⟩
          have hf2 := hx.frozen 2
          refine Step.skip _ rfl (wanted_none rfl) (setL w' gQ 0 [.int .i64 f1, .int .i64 b1, .int .i64 (g1 : Nat)]) (fun ρ hρ => ?_) (hJ.set hGS hcl hL rfl (dep_of hdep 4 (by kernel_rfl)) rfl hsv)
          rw [hρ] at es ea
          clear hJ hsame hdep hcl hρ hsz hb hsv hx hs
          simp only [setL]
          go_simp
        · intro u w' hF
          change Exit.then _ _ Exit.normal (Act.put (Act.put (Act.put (Act.put (Act.put (Act.put (putAll _ u 0 _) (some 55) (u 0)) (some 56) (u 1)) (some 57) (u 2)) (some 58) (u 3)) (some 59) (u 4)) none (u 5)) _
          simp only [putAll]
          have hx := hF.fin4 (j := 5) (v := 4) (by decide) rfl rfl (by decide) rfl (cs := #[.int .i64 f1, .int .i64 b1, .int .i64 (g1 : Nat)]) rfl
          have hk := hF.kept
          have hk2 := hk.toBelow (B := nb) HN.out (fun k hk => by simp at hk; have := HNQ.out; omega)
          clear hF
          generalize u 0 = z0
          generalize u 1 = z1
          generalize u 2 = z2
          generalize u 3 = z3
          generalize u 4 = z4
          generalize u 5 = z5
          go_simp
          go_step
          go_meet
          exact ⟨hx, HP.out.kept hk (by simp; exact HPQ.out), SL.out.below hk2, Nat.le_trans HN.out hk.size, BW.out.trans (hk2.mono HWN.out)⟩
    case rest =>
      obtain ⟨hq, hpx, hsl, hnw, hbw2⟩ := hcut
      clear HQ HP SL HN BW HY1
      have HQ := hide hq
      have HP := hide hpx
      have SL := hide hsl
      have HN := hide hnw
      have BW := hide hbw2
      clear hq hpx hsl hnw hbw2
      go_upto_if 63 with fail
      go_cut [] from 60 to 68 (fun wx => Box wx gQ 23 #[.int .i64 zf, .int .i64 zb, .int .i64 (zg : Nat)] ∧ Box wx gP 23 #[.int .i64 pf, .int .i64 pb, .int .i64 (pg : Nat)] ∧ Seen wx nb A1 n (j64s l) ∧ nb ≤ wx.heap.size ∧ Below w.heap.size w wx)
      case first =>
        by_cases h0 : c < n
        · obtain ⟨gA, rfl⟩ := HA1.out (by omega)
          have hne : l.drop c ≠ [] := by
            intro e
            have := congrArg List.length e
            rw [List.length_drop, HL.out] at this
            simp at this
            omega
          have ht : ∀ (B : Nat) w', Seen w' B (some ⟨gA, 0, none⟩) n (j64s l) → Seen w' B (some ⟨gA, c, none⟩) (n - c) (j64s (l.drop c)) := fun B w' h => by
            have := h.drop (k := c) (cap := c1) hcn hnc
            unfold j64s at this ⊢
            rw [if_neg (by omega), ← List.map_drop] at this
            simpa [Addr.add_lit] using this
          have A14 := hide (fun (B : Nat) w' (h : Seen w' B (some ⟨gA, 0, none⟩) n (j64s l)) hft => papply_ok ⟨f1, b1, g1⟩ ⟨zf, zb, zg⟩ (some ⟨gA, c, none⟩) (n - c) (c1 - c) B (l.drop c) (by rw [apply_cons hne]; exact HYZ.out) w' HOK1.out (ht B w' h) (by omega) (by omega) (fun x hx => by have := hbd.out x (List.mem_of_mem_drop hx); omega) hft)
          clear hne ht
          go_upto_region 14 with fail
          refine wp_region_gj (n := 147) [some gQ] (fun _ => #[.int .i64 f1, .int .i64 b1, .int .i64 (g1 : Nat)]) [(0, 0, 0, 0, 0), (0, 0, 0, 0, 0), (0, 0, 0, 0, 0), (0, 0, 0, 0, 0), (0, 0, 0, 0, 0), (4, 0, 4, 23, 3)] (fun j => [(.agg #[.int .i64 f1, .int .i64 b1, .int .i64 (g1 : Nat)]), (.slice (some ⟨gA, 0, none⟩) n c1), (.int .i64 (c : Nat)), (.slice (some ⟨gA, c, none⟩) (n - c) (c1 - c)), (.agg #[.int .i64 zf, .int .i64 zb, .int .i64 (zg : Nat)]), undef].getD j undef) [] (fun _ => gQ) (by kernel_rfl) (by kernel_rfl) (by kernel_rfl) rfl (by kernel_rfl) (gonly4 (k := 5) rfl ⟨by simp, rfl, HQ.out⟩) (gonly44 (k := 5) rfl) (AllG.nil _) (fun hGS => cases6 ⟨?_, ?_, ?_, ?_, ?_, ?_⟩) ?_
          · intro L a w' hL hsame hsz hJ hdep hcl
            have hb := hJ.kept.toBelow (B := nb) HN.out (fun k hk => by simp at hk; have := HNQ.out; omega)
            have e0 : a.eval (.tmp 14) = (.pointer (some ⟨gQ, 0, none⟩)) := eval_base hsame (by kernel_rfl)
            have hx := hJ.old 5 rfl (not_cameG hcl hL (by kernel_rfl))
            have q0 : w'.cell? ⟨gQ, 0, none⟩ = some (.int .i64 f1) := hx.cell 0
            have q1 : w'.cell? ⟨gQ, 1, none⟩ = some (.int .i64 b1) := hx.cell 1
            have q2 : w'.cell? ⟨gQ, 2, none⟩ = some (.int .i64 (g1 : Nat)) := hx.cell 2
            refine Step.val _ rfl rfl (wanted_none rfl) (.agg #[.int .i64 f1, .int .i64 b1, .int .i64 (g1 : Nat)]) w' (fun ρ hρ => ?_) (hJ.val hGS hcl hL rfl (Below.refl _ _) _ rfl)
            clear hx
            rw [hρ] at e0
            clear hJ hsame hdep hcl hρ hsz hb
            go_simp
          · intro L a w' hL hsame hsz hJ hdep hcl
            have hb := hJ.kept.toBelow (B := nb) HN.out (fun k hk => by simp at hk; have := HNQ.out; omega)
            have e0 : a.eval (.tmp 9) = (.slice (some ⟨gA, 0, none⟩) n c1) := eval_base hsame (by kernel_rfl)
            refine Step.val _ rfl rfl (wanted_none rfl) (.slice (some ⟨gA, 0, none⟩) n c1) w' (fun ρ hρ => ?_) (hJ.val hGS hcl hL rfl (Below.refl _ _) _ rfl)
            rw [hρ] at e0
            clear hJ hsame hdep hcl hρ hsz hb
            go_simp
          · intro L a w' hL hsame hsz hJ hdep hcl
            have hb := hJ.kept.toBelow (B := nb) HN.out (fun k hk => by simp at hk; have := HNQ.out; omega)
            have e0 : a.eval (.tmp 12) = (.int .i64 (c : Nat)) := eval_base hsame (by kernel_rfl)
            refine Step.val _ rfl rfl (wanted_none rfl) (.int .i64 (c : Nat)) w' (fun ρ hρ => ?_) (hJ.val hGS hcl hL rfl (Below.refl _ _) _ rfl)
            rw [hρ] at e0
            clear hJ hsame hdep hcl hρ hsz hb
            go_simp
          · intro L a w' hL hsame hsz hJ hdep hcl
            have hb := hJ.kept.toBelow (B := nb) HN.out (fun k hk => by simp at hk; have := HNQ.out; omega)
            have e0 : a.eval (.tmp 65) = (.slice (some ⟨gA, 0, none⟩) n c1) := eval_slot (j := 1) (by kernel_rfl) (hJ.valOf (by decide) (dep_of hdep 1 (by kernel_rfl)) rfl rfl)
            have e1 : a.eval (.tmp 66) = (.int .i64 (c : Nat)) := eval_slot (j := 2) (by kernel_rfl) (hJ.valOf (by decide) (dep_of hdep 2 (by kernel_rfl)) rfl rfl)
            refine Step.val _ rfl rfl (wanted_none rfl) (.slice (some ⟨gA, c, none⟩) (n - c) (c1 - c)) w' (fun ρ hρ => ?_) (hJ.val hGS hcl hL rfl (Below.refl _ _) _ rfl)
            rw [hρ] at e0 e1
            clear hJ hsame hdep hcl hρ hsz hb
            go_simp
            try (intro h; omega)
          · intro L a w' hL hsame hsz hJ hdep hcl
            have hb := hJ.kept.toBelow (B := nb) HN.out (fun k hk => by simp at hk; have := HNQ.out; omega)
            have e0 : a.eval (.tmp 64) = (.agg #[.int .i64 f1, .int .i64 b1, .int .i64 (g1 : Nat)]) := eval_slot (j := 0) (by kernel_rfl) (hJ.valOf (by decide) (dep_of hdep 0 (by kernel_rfl)) rfl rfl)
            have e1 : a.eval (.tmp 67) = (.slice (some ⟨gA, c, none⟩) (n - c) (c1 - c)) := eval_slot (j := 3) (by kernel_rfl) (hJ.valOf (by decide) (dep_of hdep 3 (by kernel_rfl)) rfl rfl)
            refine Step.call _ rfl rfl (wanted_none rfl) 8 #[.agg #[.int .i64 f1, .int .i64 b1, .int .i64 (g1 : Nat)], .slice (some ⟨gA, c, none⟩) (n - c) (c1 - c)] (fun ρ hρ => ?_) ?_
            · skip
              rw [hρ] at e0 e1
              have ef : ρ (.func 8) = .func (.func 8) #[] #[] := (hρ _).symm
              clear hJ hsame hdep hcl hρ hsz hb
              go_simp
            · refine (A14.out _ _ (SL.out.below hb) (HT.out.keep (BW.out.trans (hb.mono HWN.out)))).mono ?_
              rintro e w2 ⟨rfl, bb⟩
              exact ⟨_, rfl, hJ.val hGS hcl hL rfl bb _ rfl⟩
          · intro L a w' hL hsame hsz hJ hdep hcl
            have hb := hJ.kept.toBelow (B := nb) HN.out (fun k hk => by simp at hk; have := HNQ.out; omega)
            have hsv := hJ.valOf (j := 4) (by decide) (dep_of hdep 4 (by kernel_rfl)) rfl rfl
            have es : a.eval (.tmp 68) = (.agg #[.int .i64 zf, .int .i64 zb, .int .i64 (zg : Nat)]) := eval_slot (j := 4) (by kernel_rfl) hsv
            have hx : Box w' gQ 23 #[.int .i64 f1, .int .i64 b1, .int .i64 (g1 : Nat)] := hJ.old 5 rfl hL
            have hs : (#[.int .i64 f1, .int .i64 b1, .int .i64 (g1 : Nat)] : Array Value).size = 3 := rfl
            have ea : a.eval (.tmp 14) = .pointer (some ⟨gQ, 0, none⟩) := eval_base hsame (by kernel_rfl)
            obtain ⟨m0, hm0⟩ : ∃ m, w'.cell? ⟨gQ, 0, none⟩ = some m := ⟨_, (hx.cell 0).trans (Array.getElem?_eq_getElem (by rw [hs]; decide))⟩
            have hf0 := hx.frozen 0
            obtain ⟨m1, hm1⟩ : ∃ m, w'.cell? ⟨gQ, 1, none⟩ = some m := ⟨_, (hx.cell 1).trans (Array.getElem?_eq_getElem (by rw [hs]; decide))⟩
            have hf1 := hx.frozen 1
            obtain ⟨m2, hm2⟩ : ∃ m, w'.cell? ⟨gQ, 2, none⟩ = some m := ⟨_, (hx.cell 2).trans (Array.getElem?_eq_getElem (by rw [hs]; decide))⟩
            have hf2 := hx.frozen 2
            refine Step.skip _ rfl (wanted_none rfl) (setL w' gQ 0 [.int .i64 zf, .int .i64 zb, .int .i64 (zg : Nat)]) (fun ρ hρ => ?_) (hJ.set hGS hcl hL rfl (dep_of hdep 4 (by kernel_rfl)) rfl hsv)
            rw [hρ] at es ea
            clear hJ hsame hdep hcl hρ hsz hb hsv hx hs
            simp only [setL]
            go_simp
          · intro u w' hF
            change Exit.then _ _ Exit.normal (Act.put (Act.put (Act.put (Act.put (Act.put (Act.put (putAll _ u 0 _) (some 64) (u 0)) (some 65) (u 1)) (some 66) (u 2)) (some 67) (u 3)) (some 68) (u 4)) none (u 5)) _
            simp only [putAll]
            have hx := hF.fin4 (j := 5) (v := 4) (by decide) rfl rfl (by decide) rfl (cs := #[.int .i64 zf, .int .i64 zb, .int .i64 (zg : Nat)]) rfl
            have hk := hF.kept
            have hk2 := hk.toBelow (B := nb) HN.out (fun k hk => by simp at hk; have := HNQ.out; omega)
            clear hF
            generalize u 0 = z0
            generalize u 1 = z1
            generalize u 2 = z2
            generalize u 3 = z3
            generalize u 4 = z4
            generalize u 5 = z5
            go_simp
            go_step
            go_meet
            exact ⟨hx, HP.out.kept hk (by simp; exact HPQ.out), SL.out.below hk2, Nat.le_trans HN.out hk.size, BW.out.trans (hk2.mono HWN.out)⟩
        · have e := HYZ.out
          rw [List.drop_of_length_le (by rw [HL.out]; omega)] at e
          have e : (⟨f1, b1, g1⟩ : PS.Pn) = ⟨zf, zb, zg⟩ := e
          simp only [PS.Pn.mk.injEq] at e
          obtain ⟨e1, e2, e3⟩ := e
          have hh : Box wc gQ 23 #[.int .i64 zf, .int .i64 zb, .int .i64 (zg : Nat)] := by rw [← e1, ← e2, ← e3]; exact HQ.out
          have HH := hide hh
          have h0' : n ≤ c := by omega
          clear e1 e2 e3 hh h0
          go_wp2_with fail
          go_meet
          exact ⟨HH.out, HP.out, SL.out, HN.out, BW.out⟩
      case rest =>
        obtain ⟨hq, hpx, hsl, hnw, hbw2⟩ := hcut
        clear HQ HP SL HN BW HYZ HOK1 HA1 HNQ HPQ HNP HWN
        have HQ := hide hq
        have HP := hide hpx
        have SL := hide hsl
        have HN := hide hnw
        have BW := hide hbw2
        clear hq hpx hsl hnw hbw2
        obtain ⟨on, off, fv, hon, hoff, hfv, hmem, ho1, ho2, ho3, hfl⟩ := six hfi
        have HON := hide hon
        have HOFF := hide hoff
        have HFVC := hide hfv
        have HFV := hide (show fv < 256 by rw [← hfl]; exact PS.flag_lt on)
        have AX := hide (papply_boxO ⟨pf, pb, pg⟩ ⟨pf, pb, pg ||| fv⟩ [(on : Int)] 1 rfl (by decide) (by rw [pp_on _ ho1 ho2, hfl]) HPR.out.1 (by intro u hu; simp at hu; omega))
        have AY := hide (papply_boxO ⟨pf, pb, pg⟩ ⟨pf, pb, pg &&& (255 - fv)⟩ [(on : Int), (off : Int)] 2 rfl (by decide) (by rw [ho3, pp_off _ HPR.out.1 ho1 ho2 (by rw [hfl]; exact hmem), hfl]) HPR.out.1 (by intro u hu; simp at hu; omega))
        have B1 := hide (papply_boxO ⟨pf, pb, pg⟩ _ [31, 39] 2 rfl (by decide) (pp_39 _ _ _) HPR.out.1 (by decide))
        have B2 := hide (papply_boxO ⟨pf, pb, pg⟩ _ [31, 94] 2 rfl (by decide) (pp_94 _ _ _) HPR.out.1 (by decide))
        have B3 := hide (papply_boxO ⟨pf, pb, pg⟩ _ [1, 2, 22] 3 rfl (by decide) (pp_22 pf pb HPR.out.1) HPR.out.1 (by decide))
        have fd0 := pen_fld0
        have fd2 := pen_fld2
        have ezz : ∀ w' : World, (binOp .eql 23 (.agg #[.int .i64 zf, .int .i64 zb, .int .i64 (zg : Nat)]) (.agg #[.int .i64 zf, .int .i64 zb, .int .i64 (zg : Nat)])).run Tryd.prog w' = .ok (.bool true) w' := fun w' => by rw [eql_pen10]; simp
        clear hon hoff hfv hmem ho1 ho2 ho3 hfl
        go_wp2_with fail
        refine (FW.out _).mono ?_
        rintro e w' ⟨rfl, rfl⟩
        go_upto_region 16 with fail
        go_cut [16, 17] from 71 to 78 (fun u v wx => u = .int .i64 (on : Nat) ∧ v = .int .i64 (off : Nat) ∧ Below wc.heap.size wc wx)
        case first =>
            refine wp_region_gj (n := 147) [] (fun _ => #[]) [(1, 0, 0, 0, 0), (0, 0, 0, 0, 0), (1, 0, 0, 0, 0), (0, 0, 0, 0, 0), (1, 0, 0, 0, 0), (0, 0, 0, 0, 0), (1, 0, 0, 0, 0), (0, 0, 0, 0, 0), (0, 0, 0, 0, 0), (0, 0, 0, 0, 0)] (fun j => [undef, (.int .i64 (fi : Nat)), undef, (.int .i64 (on : Nat)), undef, (.int .i64 (fi : Nat)), undef, (.int .i64 (off : Nat)), (.int .i64 (on : Nat)), (.int .i64 (off : Nat))].getD j undef) [some (NewS 3 6 #[.int .i64 3, .int .i64 4, .int .i64 5, .int .i64 7, .int .i64 8, .int .i64 9]), none, some (PtrIn 3 #[.int .i64 3, .int .i64 4, .int .i64 5, .int .i64 7, .int .i64 8, .int .i64 9] fi), none, some (NewS 3 6 #[.int .i64 23, .int .i64 24, .int .i64 25, .int .i64 27, .int .i64 28, .int .i64 29]), none, some (PtrIn 3 #[.int .i64 23, .int .i64 24, .int .i64 25, .int .i64 27, .int .i64 28, .int .i64 29] fi)] (fun _ => 0) (by kernel_rfl) (by kernel_rfl) (by kernel_rfl) rfl (by kernel_rfl) (gno4 rfl) (fun i j h => by revert h; exact gno4 (p := fun _ => _) rfl i) (AllG.some_ (NewS.stays (by kernel_rfl)) (AllG.none_ (AllG.some_ (PtrIn.stays (by kernel_rfl)) (AllG.none_ (AllG.some_ (NewS.stays (by kernel_rfl)) (AllG.none_ (AllG.some_ (PtrIn.stays (by kernel_rfl)) (AllG.nil _)))))))) (fun hGS => cases10 ⟨?_, ?_, ?_, ?_, ?_, ?_, ?_, ?_, ?_, ?_⟩) ?_
            · intro L a w' hL hsame hsz hJ hdep hcl
              have hb := hJ.kept.toBelow (Nat.le_refl _) (by simp)
              refine Step.val _ rfl rfl (wanted_none rfl) (.slice (some ⟨w'.heap.size, 0, none⟩) 6 6) (w'.alloc (.cells #[.int .i64 3, .int .i64 4, .int .i64 5, .int .i64 7, .int .i64 8, .int .i64 9] 3)) (fun ρ hρ => ?_) (hJ.pred hGS hcl hL rfl ((Below.refl _ _).alloc (Nat.le_refl _) _) _ (⟨_, rfl, Box.new w' _ _⟩))
              have ec0 : ρ (.const (.int .i64 3)) = (.int .i64 3) := (hρ _).symm
              have ec1 : ρ (.const (.int .i64 4)) = (.int .i64 4) := (hρ _).symm
              have ec2 : ρ (.const (.int .i64 5)) = (.int .i64 5) := (hρ _).symm
              have ec3 : ρ (.const (.int .i64 7)) = (.int .i64 7) := (hρ _).symm
              have ec4 : ρ (.const (.int .i64 8)) = (.int .i64 8) := (hρ _).symm
              have ec5 : ρ (.const (.int .i64 9)) = (.int .i64 9) := (hρ _).symm
              clear hJ hsame hdep hcl hρ hsz hb
              go_simp
            · intro L a w' hL hsame hsz hJ hdep hcl
              have hb := hJ.kept.toBelow (Nat.le_refl _) (by simp)
              have e0 : a.eval (.tmp 15) = (.int .i64 (fi : Nat)) := eval_base hsame (by kernel_rfl)
              refine Step.val _ rfl rfl (wanted_none rfl) (.int .i64 (fi : Nat)) w' (fun ρ hρ => ?_) (hJ.val hGS hcl hL rfl (Below.refl _ _) _ rfl)
              rw [hρ] at e0
              clear hJ hsame hdep hcl hρ hsz hb
              go_simp
            · intro L a w' hL hsame hsz hJ hdep hcl
              have hb := hJ.kept.toBelow (Nat.le_refl _) (by simp)
              obtain ⟨g0, hv0, hs0⟩ := (show (NewS 3 6 #[.int .i64 3, .int .i64 4, .int .i64 5, .int .i64 7, .int .i64 8, .int .i64 9]) (valOf _ 0 a) w' from hJ.predOf (by decide) (dep_of hdep 0 (by kernel_rfl)) rfl)
              have e0 : a.eval (.tmp 71) = .slice (some ⟨g0, 0, none⟩) 6 6 := eval_slot (j := 0) (by kernel_rfl) hv0
              have e1 : a.eval (.tmp 72) = (.int .i64 (fi : Nat)) := eval_slot (j := 1) (by kernel_rfl) (hJ.valOf (by decide) (dep_of hdep 1 (by kernel_rfl)) rfl rfl)
              refine Step.val _ rfl rfl (wanted_none rfl) (.pointer (some ⟨g0, fi, none⟩)) (w') (fun ρ hρ => ?_) (hJ.pred hGS hcl hL rfl (Below.refl _ _) _ (⟨g0, rfl, hs0⟩))
              rw [hρ] at e0 e1
              clear hJ hsame hdep hcl hρ hsz hb
              go_simp
              try (intro h; omega)
              try omega
            · intro L a w' hL hsame hsz hJ hdep hcl
              have hb := hJ.kept.toBelow (Nat.le_refl _) (by simp)
              obtain ⟨g2, hv2, hs2⟩ := (show (PtrIn 3 #[.int .i64 3, .int .i64 4, .int .i64 5, .int .i64 7, .int .i64 8, .int .i64 9] fi) (valOf _ 2 a) w' from hJ.predOf (by decide) (dep_of hdep 2 (by kernel_rfl)) rfl)
              have e0 : a.eval (.tmp 73) = .pointer (some ⟨g2, fi, none⟩) := eval_slot (j := 2) (by kernel_rfl) hv2
              refine Step.val _ rfl rfl (wanted_none rfl) (.int .i64 (on : Nat)) w' (fun ρ hρ => ?_) (hJ.val hGS hcl hL rfl (Below.refl _ _) _ rfl)
              rw [hρ] at e0
              have hc0 : w'.cell? ⟨g2, fi, none⟩ = some (.int .i64 (on : Nat)) := (hs2.cell fi).trans HON.out
              clear hJ hsame hdep hcl hρ hsz hb
              go_simp
            · intro L a w' hL hsame hsz hJ hdep hcl
              have hb := hJ.kept.toBelow (Nat.le_refl _) (by simp)
              refine Step.val _ rfl rfl (wanted_none rfl) (.slice (some ⟨w'.heap.size, 0, none⟩) 6 6) (w'.alloc (.cells #[.int .i64 23, .int .i64 24, .int .i64 25, .int .i64 27, .int .i64 28, .int .i64 29] 3)) (fun ρ hρ => ?_) (hJ.pred hGS hcl hL rfl ((Below.refl _ _).alloc (Nat.le_refl _) _) _ (⟨_, rfl, Box.new w' _ _⟩))
              have ec0 : ρ (.const (.int .i64 23)) = (.int .i64 23) := (hρ _).symm
              have ec1 : ρ (.const (.int .i64 24)) = (.int .i64 24) := (hρ _).symm
              have ec2 : ρ (.const (.int .i64 25)) = (.int .i64 25) := (hρ _).symm
              have ec3 : ρ (.const (.int .i64 27)) = (.int .i64 27) := (hρ _).symm
              have ec4 : ρ (.const (.int .i64 28)) = (.int .i64 28) := (hρ _).symm
              have ec5 : ρ (.const (.int .i64 29)) = (.int .i64 29) := (hρ _).symm
              clear hJ hsame hdep hcl hρ hsz hb
              go_simp
            · intro L a w' hL hsame hsz hJ hdep hcl
              have hb := hJ.kept.toBelow (Nat.le_refl _) (by simp)
              have e0 : a.eval (.tmp 15) = (.int .i64 (fi : Nat)) := eval_base hsame (by kernel_rfl)
              refine Step.val _ rfl rfl (wanted_none rfl) (.int .i64 (fi : Nat)) w' (fun ρ hρ => ?_) (hJ.val hGS hcl hL rfl (Below.refl _ _) _ rfl)
              rw [hρ] at e0
              clear hJ hsame hdep hcl hρ hsz hb
              go_simp
            · intro L a w' hL hsame hsz hJ hdep hcl
              have hb := hJ.kept.toBelow (Nat.le_refl _) (by simp)
              obtain ⟨g4, hv4, hs4⟩ := (show (NewS 3 6 #[.int .i64 23, .int .i64 24, .int .i64 25, .int .i64 27, .int .i64 28, .int .i64 29]) (valOf _ 4 a) w' from hJ.predOf (by decide) (dep_of hdep 4 (by kernel_rfl)) rfl)
              have e0 : a.eval (.tmp 75) = .slice (some ⟨g4, 0, none⟩) 6 6 := eval_slot (j := 4) (by kernel_rfl) hv4
              have e1 : a.eval (.tmp 76) = (.int .i64 (fi : Nat)) := eval_slot (j := 5) (by kernel_rfl) (hJ.valOf (by decide) (dep_of hdep 5 (by kernel_rfl)) rfl rfl)
              refine Step.val _ rfl rfl (wanted_none rfl) (.pointer (some ⟨g4, fi, none⟩)) (w') (fun ρ hρ => ?_) (hJ.pred hGS hcl hL rfl (Below.refl _ _) _ (⟨g4, rfl, hs4⟩))
              rw [hρ] at e0 e1
              clear hJ hsame hdep hcl hρ hsz hb
              go_simp
              try (intro h; omega)
              try omega
            · intro L a w' hL hsame hsz hJ hdep hcl
              have hb := hJ.kept.toBelow (Nat.le_refl _) (by simp)
              obtain ⟨g6, hv6, hs6⟩ := (show (PtrIn 3 #[.int .i64 23, .int .i64 24, .int .i64 25, .int .i64 27, .int .i64 28, .int .i64 29] fi) (valOf _ 6 a) w' from hJ.predOf (by decide) (dep_of hdep 6 (by kernel_rfl)) rfl)
              have e0 : a.eval (.tmp 77) = .pointer (some ⟨g6, fi, none⟩) := eval_slot (j := 6) (by kernel_rfl) hv6
              refine Step.val _ rfl rfl (wanted_none rfl) (.int .i64 (off : Nat)) w' (fun ρ hρ => ?_) (hJ.val hGS hcl hL rfl (Below.refl _ _) _ rfl)
              rw [hρ] at e0
              have hc0 : w'.cell? ⟨g6, fi, none⟩ = some (.int .i64 (off : Nat)) := (hs6.cell fi).trans HOFF.out
              clear hJ hsame hdep hcl hρ hsz hb
              go_simp
            · intro L a w' hL hsame hsz hJ hdep hcl
              have hb := hJ.kept.toBelow (Nat.le_refl _) (by simp)
              have e0 : a.eval (.tmp 74) = (.int .i64 (on : Nat)) := eval_slot (j := 3) (by kernel_rfl) (hJ.valOf (by decide) (dep_of hdep 3 (by kernel_rfl)) rfl rfl)
              refine Step.val _ rfl rfl (wanted_none rfl) (.int .i64 (on : Nat)) w' (fun ρ hρ => ?_) (hJ.val hGS hcl hL rfl (Below.refl _ _) _ rfl)
              rw [hρ] at e0
              clear hJ hsame hdep hcl hρ hsz hb
              go_simp
            · intro L a w' hL hsame hsz hJ hdep hcl
              have hb := hJ.kept.toBelow (Nat.le_refl _) (by simp)
              have e0 : a.eval (.tmp 78) = (.int .i64 (off : Nat)) := eval_slot (j := 7) (by kernel_rfl) (hJ.valOf (by decide) (dep_of hdep 7 (by kernel_rfl)) rfl rfl)
              refine Step.val _ rfl rfl (wanted_none rfl) (.int .i64 (off : Nat)) w' (fun ρ hρ => ?_) (hJ.val hGS hcl hL rfl (Below.refl _ _) _ rfl)
              rw [hρ] at e0
              clear hJ hsame hdep hcl hρ hsz hb
              go_simp
            · intro u w' hF
              change Exit.then _ _ Exit.normal (Act.put (Act.put (Act.put (Act.put (Act.put (Act.put (Act.put (Act.put (Act.put (Act.put (putAll _ u 0 _) (some 71) (u 0)) (some 72) (u 1)) (some 73) (u 2)) (some 74) (u 3)) (some 75) (u 4)) (some 76) (u 5)) (some 77) (u 6)) (some 78) (u 7)) (some 16) (u 8)) (some 17) (u 9)) _
              simp only [putAll]
              have f8 : u 8 = .int .i64 (on : Nat) := hF.fin0 (j := 8) (by decide) rfl rfl
              have f9 : u 9 = .int .i64 (off : Nat) := hF.fin0 (j := 9) (by decide) rfl rfl
              have hk := hF.kept.toBelow (Nat.le_refl _) (by simp)
              clear hF
              generalize u 0 = z0
              generalize u 1 = z1
              generalize u 2 = z2
              generalize u 3 = z3
              generalize u 4 = z4
              generalize u 5 = z5
              generalize u 6 = z6
              generalize u 7 = z7
              generalize u 8 = z8 at f8 ⊢
              generalize u 9 = z9 at f9 ⊢
              go_simp
              go_step
              go_meet
              exact ⟨by first | rfl | exact f8, by first | rfl | exact f9, hk⟩
        case rest =>
          obtain ⟨rfl, rfl, b16⟩ := hcut
          have hcf := ((Box.new wc 3 flgC).cell fi).trans HFVC.out
          unfold flgC at hcf
          have hq4 := (HQ.out.below b16 HQ.out.lt).alloc (.cells #[.int .i64 4, .int .i64 8, .int .i64 16, .int .i64 32, .int .i64 64, .int .i64 128] 3)
          have hp4 := (HP.out.below b16 HP.out.lt).alloc (.cells #[.int .i64 4, .int .i64 8, .int .i64 16, .int .i64 32, .int .i64 64, .int .i64 128] 3)
          have hs4 := (SL.out.below (b16.mono HN.out)).alloc (Nat.le_trans HN.out b16.size) (.cells #[.int .i64 4, .int .i64 8, .int .i64 16, .int .i64 32, .int .i64 64, .int .i64 128] 3)
          have hn4 := Nat.le_trans HN.out b16.size
          have hb4 := BW.out.trans (b16.mono BW.out.size)
          have hb5 := hb4.alloc hb4.size (.cells #[.int .i64 4, .int .i64 8, .int .i64 16, .int .i64 32, .int .i64 64, .int .i64 128] 3)
          have hn5 : nb ≤ (wc.alloc (.cells #[.int .i64 4, .int .i64 8, .int .i64 16, .int .i64 32, .int .i64 64, .int .i64 128] 3)).heap.size := by simp; omega
          clear b16 hn4 hb4 HQ HP SL HN BW
          have HQ := hide hq4
          have HP := hide hp4
          have SL := hide hs4
          have HN := hide hn5
          have BW := hide hb5
          clear hq4 hp4 hs4 hn5 hb5
          go_upto_region 18 with fail
          generalize wc.alloc (.cells #[.int .i64 4, .int .i64 8, .int .i64 16, .int .i64 32, .int .i64 64, .int .i64 128] 3) = wd at HQ HP SL HN BW hcf ⊢
          go_cut [19, 20] from 83 to 91 (fun u v wx => ∃ gX gY, u = .pointer (some ⟨gX, 0, none⟩) ∧ v = .pointer (some ⟨gY, 0, none⟩) ∧ Box wx gX 23 #[.int .i64 pf, .int .i64 pb, .int .i64 ((pg ||| fv : Nat) : Int)] ∧ Box wx gY 23 #[.int .i64 pf, .int .i64 pb, .int .i64 ((pg &&& (255 - fv) : Nat) : Int)] ∧ Below wd.heap.size wd wx)
          case first =>
                refine wp_region_gj (n := 147) [] (fun _ => #[]) [(0, 0, 0, 0, 0), (0, 0, 0, 0, 0), (1, 0, 0, 0, 0), (0, 0, 0, 0, 0), (0, 0, 0, 0, 0), (0, 0, 0, 0, 0), (0, 0, 0, 0, 0), (1, 0, 0, 0, 0), (0, 0, 0, 0, 0), (2, 0, 0, 23, 3), (2, 0, 0, 23, 3), (3, 9, 3, 23, 3), (3, 10, 8, 23, 3)] (fun j => [(.agg #[.int .i64 pf, .int .i64 pb, .int .i64 (pg : Nat)]), (.int .i64 (on : Nat)), undef, (.agg #[.int .i64 pf, .int .i64 pb, .int .i64 ((pg ||| fv : Nat) : Int)]), (.agg #[.int .i64 pf, .int .i64 pb, .int .i64 (pg : Nat)]), (.int .i64 (on : Nat)), (.int .i64 (off : Nat)), undef, (.agg #[.int .i64 pf, .int .i64 pb, .int .i64 ((pg &&& (255 - fv) : Nat) : Int)]), undef, undef, undef, undef].getD j undef) [none, none, some (NewS 3 1 #[.int .i64 (on : Nat)]), none, none, none, none, some (NewS 3 2 #[.int .i64 (on : Nat), .int .i64 (off : Nat)])] (fun _ => 0) (by kernel_rfl) (by kernel_rfl) (by kernel_rfl) rfl (by kernel_rfl) (gno4 rfl) (fun i j h => by revert h; exact gno4 (p := fun _ => _) rfl i) (AllG.none_ (AllG.none_ (AllG.some_ (NewS.stays (by kernel_rfl)) (AllG.none_ (AllG.none_ (AllG.none_ (AllG.none_ (AllG.some_ (NewS.stays (by kernel_rfl)) (AllG.nil _))))))))) (fun hGS => cases13 ⟨?_, ?_, ?_, ?_, ?_, ?_, ?_, ?_, ?_, ?_, ?_, ?_, ?_⟩) ?_
                · intro L a w' hL hsame hsz hJ hdep hcl
                  have hb := hJ.kept.toBelow (Nat.le_refl _) (by simp)
                  have e0 : a.eval (.tmp 13) = (.pointer (some ⟨gP, 0, none⟩)) := eval_base hsame (by kernel_rfl)
                  have hx := hJ.keptBox (HP.out) (by simp)
                  have q0 : w'.cell? ⟨gP, 0, none⟩ = some (.int .i64 pf) := hx.cell 0
                  have q1 : w'.cell? ⟨gP, 1, none⟩ = some (.int .i64 pb) := hx.cell 1
                  have q2 : w'.cell? ⟨gP, 2, none⟩ = some (.int .i64 (pg : Nat)) := hx.cell 2
                  refine Step.val _ rfl rfl (wanted_none rfl) (.agg #[.int .i64 pf, .int .i64 pb, .int .i64 (pg : Nat)]) w' (fun ρ hρ => ?_) (hJ.val hGS hcl hL rfl (Below.refl _ _) _ rfl)
                  clear hx
                  rw [hρ] at e0
                  clear hJ hsame hdep hcl hρ hsz hb
                  go_simp
                · intro L a w' hL hsame hsz hJ hdep hcl
                  have hb := hJ.kept.toBelow (Nat.le_refl _) (by simp)
                  have e0 : a.eval (.tmp 16) = (.int .i64 (on : Nat)) := eval_base hsame (by kernel_rfl)
                  refine Step.val _ rfl rfl (wanted_none rfl) (.int .i64 (on : Nat)) w' (fun ρ hρ => ?_) (hJ.val hGS hcl hL rfl (Below.refl _ _) _ rfl)
                  rw [hρ] at e0
                  clear hJ hsame hdep hcl hρ hsz hb
                  go_simp
                · intro L a w' hL hsame hsz hJ hdep hcl
                  have hb := hJ.kept.toBelow (Nat.le_refl _) (by simp)
                  have e0 : a.eval (.tmp 84) = (.int .i64 (on : Nat)) := eval_slot (j := 1) (by kernel_rfl) (hJ.valOf (by decide) (dep_of hdep 1 (by kernel_rfl)) rfl rfl)
                  refine Step.val _ rfl rfl (wanted_none rfl) (.slice (some ⟨w'.heap.size, 0, none⟩) 1 1) (w'.alloc (.cells #[.int .i64 (on : Nat)] 3)) (fun ρ hρ => ?_) (hJ.pred hGS hcl hL rfl ((Below.refl _ _).alloc (Nat.le_refl _) _) _ (⟨_, rfl, Box.new w' _ _⟩))
                  rw [hρ] at e0
                  clear hJ hsame hdep hcl hρ hsz hb
                  go_simp
                · intro L a w' hL hsame hsz hJ hdep hcl
                  have hb := hJ.kept.toBelow (Nat.le_refl _) (by simp)
                  have e0 : a.eval (.tmp 83) = (.agg #[.int .i64 pf, .int .i64 pb, .int .i64 (pg : Nat)]) := eval_slot (j := 0) (by kernel_rfl) (hJ.valOf (by decide) (dep_of hdep 0 (by kernel_rfl)) rfl rfl)
                  obtain ⟨g2, hv2, hs2⟩ := (show (NewS 3 1 #[.int .i64 (on : Nat)]) (valOf _ 2 a) w' from hJ.predOf (by decide) (dep_of hdep 2 (by kernel_rfl)) rfl)
                  have e1 : a.eval (.tmp 85) = .slice (some ⟨g2, 0, none⟩) 1 1 := eval_slot (j := 2) (by kernel_rfl) hv2
                  refine Step.call _ rfl rfl (wanted_none rfl) 8 #[.agg #[.int .i64 pf, .int .i64 pb, .int .i64 (pg : Nat)], .slice (some ⟨g2, 0, none⟩) 1 1] (fun ρ hρ => ?_) ?_
                  · skip
                    rw [hρ] at e0 e1
                    have ef : ρ (.func 8) = .func (.func 8) #[] #[] := (hρ _).symm
                    clear hJ hsame hdep hcl hρ hsz hb
                    go_simp
                  · refine (AX.out g2 _ hs2 (HT.out.keep (BW.out.trans (hJ.kept.toBelow BW.out.size (fun k hk => by simp at hk))))).mono ?_
                    rintro e w2 ⟨rfl, bb⟩
                    exact ⟨_, rfl, hJ.val hGS hcl hL rfl bb _ rfl⟩
                · intro L a w' hL hsame hsz hJ hdep hcl
                  have hb := hJ.kept.toBelow (Nat.le_refl _) (by simp)
                  have e0 : a.eval (.tmp 13) = (.pointer (some ⟨gP, 0, none⟩)) := eval_base hsame (by kernel_rfl)
                  have hx := hJ.keptBox (HP.out) (by simp)
                  have q0 : w'.cell? ⟨gP, 0, none⟩ = some (.int .i64 pf) := hx.cell 0
                  have q1 : w'.cell? ⟨gP, 1, none⟩ = some (.int .i64 pb) := hx.cell 1
                  have q2 : w'.cell? ⟨gP, 2, none⟩ = some (.int .i64 (pg : Nat)) := hx.cell 2
                  refine Step.val _ rfl rfl (wanted_none rfl) (.agg #[.int .i64 pf, .int .i64 pb, .int .i64 (pg : Nat)]) w' (fun ρ hρ => ?_) (hJ.val hGS hcl hL rfl (Below.refl _ _) _ rfl)
                  clear hx
                  rw [hρ] at e0
                  clear hJ hsame hdep hcl hρ hsz hb
                  go_simp
                · intro L a w' hL hsame hsz hJ hdep hcl
                  have hb := hJ.kept.toBelow (Nat.le_refl _) (by simp)
                  have e0 : a.eval (.tmp 16) = (.int .i64 (on : Nat)) := eval_base hsame (by kernel_rfl)
                  refine Step.val _ rfl rfl (wanted_none rfl) (.int .i64 (on : Nat)) w' (fun ρ hρ => ?_) (hJ.val hGS hcl hL rfl (Below.refl _ _) _ rfl)
                  rw [hρ] at e0
                  clear hJ hsame hdep hcl hρ hsz hb
                  go_simp
                · intro L a w' hL hsame hsz hJ hdep hcl
                  have hb := hJ.kept.toBelow (Nat.le_refl _) (by simp)
                  have e0 : a.eval (.tmp 17) = (.int .i64 (off : Nat)) := eval_base hsame (by kernel_rfl)
                  refine Step.val _ rfl rfl (wanted_none rfl) (.int .i64 (off : Nat)) w' (fun ρ hρ => ?_) (hJ.val hGS hcl hL rfl (Below.refl _ _) _ rfl)
                  rw [hρ] at e0
                  clear hJ hsame hdep hcl hρ hsz hb
                  go_simp
                · intro L a w' hL hsame hsz hJ hdep hcl
                  have hb := hJ.kept.toBelow (Nat.le_refl _) (by simp)
                  have e0 : a.eval (.tmp 88) = (.int .i64 (on : Nat)) := eval_slot (j := 5) (by kernel_rfl) (hJ.valOf (by decide) (dep_of hdep 5 (by kernel_rfl)) rfl rfl)
                  have e1 : a.eval (.tmp 89) = (.int .i64 (off : Nat)) := eval_slot (j := 6) (by kernel_rfl) (hJ.valOf (by decide) (dep_of hdep 6 (by kernel_rfl)) rfl rfl)
                  refine Step.val _ rfl rfl (wanted_none rfl) (.slice (some ⟨w'.heap.size, 0, none⟩) 2 2) (w'.alloc (.cells #[.int .i64 (on : Nat), .int .i64 (off : Nat)] 3)) (fun ρ hρ => ?_) (hJ.pred hGS hcl hL rfl ((Below.refl _ _).alloc (Nat.le_refl _) _) _ (⟨_, rfl, Box.new w' _ _⟩))
                  rw [hρ] at e0 e1
                  clear hJ hsame hdep hcl hρ hsz hb
                  go_simp
                · intro L a w' hL hsame hsz hJ hdep hcl
                  have hb := hJ.kept.toBelow (Nat.le_refl _) (by simp)
                  have e0 : a.eval (.tmp 87) = (.agg #[.int .i64 pf, .int .i64 pb, .int .i64 (pg : Nat)]) := eval_slot (j := 4) (by kernel_rfl) (hJ.valOf (by decide) (dep_of hdep 4 (by kernel_rfl)) rfl rfl)
                  obtain ⟨g7, hv7, hs7⟩ := (show (NewS 3 2 #[.int .i64 (on : Nat), .int .i64 (off : Nat)]) (valOf _ 7 a) w' from hJ.predOf (by decide) (dep_of hdep 7 (by kernel_rfl)) rfl)
                  have e1 : a.eval (.tmp 90) = .slice (some ⟨g7, 0, none⟩) 2 2 := eval_slot (j := 7) (by kernel_rfl) hv7
                  refine Step.call _ rfl rfl (wanted_none rfl) 8 #[.agg #[.int .i64 pf, .int .i64 pb, .int .i64 (pg : Nat)], .slice (some ⟨g7, 0, none⟩) 2 2] (fun ρ hρ => ?_) ?_
                  · skip
                    rw [hρ] at e0 e1
                    have ef : ρ (.func 8) = .func (.func 8) #[] #[] := (hρ _).symm
                    clear hJ hsame hdep hcl hρ hsz hb
                    go_simp
                  · refine (AY.out g7 _ hs7 (HT.out.keep (BW.out.trans (hJ.kept.toBelow BW.out.size (fun k hk => by simp at hk))))).mono ?_
                    rintro e w2 ⟨rfl, bb⟩
                    exact ⟨_, rfl, hJ.val hGS hcl hL rfl bb _ rfl⟩
                · intro L a w' hL hsame hsz hJ hdep hcl
                  have hb := hJ.kept.toBelow (Nat.le_refl _) (by simp)
                  refine Step.val _ rfl rfl (wanted_none rfl) (.pointer (some ⟨w'.heap.size, 0, none⟩)) (w'.alloc (.cells #[.int .i64 0, .int .i64 0, .int .i64 0] 23)) (fun ρ hρ => ?_) (hJ.box hGS hcl hL rfl 23 rfl #[.int .i64 0, .int .i64 0, .int .i64 0] rfl)
                  clear hJ hsame hdep hcl hρ hsz hb
                  go_simp
                · intro L a w' hL hsame hsz hJ hdep hcl
                  have hb := hJ.kept.toBelow (Nat.le_refl _) (by simp)
                  refine Step.val _ rfl rfl (wanted_none rfl) (.pointer (some ⟨w'.heap.size, 0, none⟩)) (w'.alloc (.cells #[.int .i64 0, .int .i64 0, .int .i64 0] 23)) (fun ρ hρ => ?_) (hJ.box hGS hcl hL rfl 23 rfl #[.int .i64 0, .int .i64 0, .int .i64 0] rfl)
                  clear hJ hsame hdep hcl hρ hsz hb
                  go_simp
                · intro L a w' hL hsame hsz hJ hdep hcl
                  have hb := hJ.kept.toBelow (Nat.le_refl _) (by simp)
                  have hsv := hJ.valOf (j := 3) (by decide) (dep_of hdep 3 (by kernel_rfl)) rfl rfl
                  have es : a.eval (.tmp 86) = (.agg #[.int .i64 pf, .int .i64 pb, .int .i64 ((pg ||| fv : Nat) : Int)]) := eval_slot (j := 3) (by kernel_rfl) hsv
                  have la := dep_of hdep 9 (by kernel_rfl)
                  obtain ⟨g, cs, hg, hg0, hx, hs⟩ := hJ.boxOf (j := 9) (by decide) la rfl
                  have ea : a.eval (.tmp 19) = .pointer (some ⟨g, 0, none⟩) := eval_slot (j := 9) (by kernel_rfl) hg
                  obtain ⟨m0, hm0⟩ : ∃ m, w'.cell? ⟨g, 0, none⟩ = some m := ⟨_, (hx.cell 0).trans (Array.getElem?_eq_getElem (by rw [hs]; decide))⟩
                  have hf0 := hx.frozen 0
                  obtain ⟨m1, hm1⟩ : ∃ m, w'.cell? ⟨g, 1, none⟩ = some m := ⟨_, (hx.cell 1).trans (Array.getElem?_eq_getElem (by rw [hs]; decide))⟩
                  have hf1 := hx.frozen 1
                  obtain ⟨m2, hm2⟩ : ∃ m, w'.cell? ⟨g, 2, none⟩ = some m := ⟨_, (hx.cell 2).trans (Array.getElem?_eq_getElem (by rw [hs]; decide))⟩
                  have hf2 := hx.frozen 2
                  refine Step.skip _ rfl (wanted_none rfl) (setL w' g 0 [.int .i64 pf, .int .i64 pb, .int .i64 ((pg ||| fv : Nat) : Int)]) (fun ρ hρ => ?_) (hJ.put hGS hcl hL rfl la (dep_of hdep 3 (by kernel_rfl)) hg rfl hsv)
                  rw [hρ] at es ea
                  clear hJ hsame hdep hcl hρ hsz hb hsv hx hs hg
                  simp only [setL]
                  go_simp
                · intro L a w' hL hsame hsz hJ hdep hcl
                  have hb := hJ.kept.toBelow (Nat.le_refl _) (by simp)
                  have hsv := hJ.valOf (j := 8) (by decide) (dep_of hdep 8 (by kernel_rfl)) rfl rfl
                  have es : a.eval (.tmp 91) = (.agg #[.int .i64 pf, .int .i64 pb, .int .i64 ((pg &&& (255 - fv) : Nat) : Int)]) := eval_slot (j := 8) (by kernel_rfl) hsv
                  have la := dep_of hdep 10 (by kernel_rfl)
                  obtain ⟨g, cs, hg, hg0, hx, hs⟩ := hJ.boxOf (j := 10) (by decide) la rfl
                  have ea : a.eval (.tmp 20) = .pointer (some ⟨g, 0, none⟩) := eval_slot (j := 10) (by kernel_rfl) hg
                  obtain ⟨m0, hm0⟩ : ∃ m, w'.cell? ⟨g, 0, none⟩ = some m := ⟨_, (hx.cell 0).trans (Array.getElem?_eq_getElem (by rw [hs]; decide))⟩
                  have hf0 := hx.frozen 0
                  obtain ⟨m1, hm1⟩ : ∃ m, w'.cell? ⟨g, 1, none⟩ = some m := ⟨_, (hx.cell 1).trans (Array.getElem?_eq_getElem (by rw [hs]; decide))⟩
                  have hf1 := hx.frozen 1
                  obtain ⟨m2, hm2⟩ : ∃ m, w'.cell? ⟨g, 2, none⟩ = some m := ⟨_, (hx.cell 2).trans (Array.getElem?_eq_getElem (by rw [hs]; decide))⟩
                  have hf2 := hx.frozen 2
                  refine Step.skip _ rfl (wanted_none rfl) (setL w' g 0 [.int .i64 pf, .int .i64 pb, .int .i64 ((pg &&& (255 - fv) : Nat) : Int)]) (fun ρ hρ => ?_) (hJ.put hGS hcl hL rfl la (dep_of hdep 8 (by kernel_rfl)) hg rfl hsv)
                  rw [hρ] at es ea
                  clear hJ hsame hdep hcl hρ hsz hb hsv hx hs hg
                  simp only [setL]
                  go_simp
                · intro u w' hF
                  change Exit.then _ _ Exit.normal (Act.put (Act.put (Act.put (Act.put (Act.put (Act.put (Act.put (Act.put (Act.put (Act.put (Act.put (Act.put (Act.put (putAll _ u 0 _) (some 83) (u 0)) (some 84) (u 1)) (some 85) (u 2)) (some 86) (u 3)) (some 87) (u 4)) (some 88) (u 5)) (some 89) (u 6)) (some 90) (u 7)) (some 91) (u 8)) (some 19) (u 9)) (some 20) (u 10)) none (u 11)) none (u 12)) _
                  simp only [putAll]
                  have hk := hF.kept.toBelow (Nat.le_refl _) (by simp)
                  obtain ⟨gX, hgX, _, hbX⟩ := hF.fin3 (j := 11) (a := 9) (v := 3) (by decide) rfl rfl rfl (by decide) rfl (by decide) rfl (cs := #[.int .i64 pf, .int .i64 pb, .int .i64 ((pg ||| fv : Nat) : Int)]) rfl
                  obtain ⟨gY, hgY, _, hbY⟩ := hF.fin3 (j := 12) (a := 10) (v := 8) (by decide) rfl rfl rfl (by decide) rfl (by decide) rfl (cs := #[.int .i64 pf, .int .i64 pb, .int .i64 ((pg &&& (255 - fv) : Nat) : Int)]) rfl
                  clear hF
                  generalize u 0 = z0
                  generalize u 1 = z1
                  generalize u 2 = z2
                  generalize u 3 = z3
                  generalize u 4 = z4
                  generalize u 5 = z5
                  generalize u 6 = z6
                  generalize u 7 = z7
                  generalize u 8 = z8
                  generalize u 9 = z9 at hgX ⊢
                  generalize u 10 = z10 at hgY ⊢
                  generalize u 11 = z11
                  generalize u 12 = z12
                  subst hgX hgY
                  go_simp
                  go_step
                  go_meet
                  exact ⟨gX, gY, rfl, rfl, hbX, hbY, hk⟩
          case rest =>
            obtain ⟨gX, gY, rfl, rfl, hbX, hbY, b18⟩ := hcut
            have hq4 := HQ.out.below b18 HQ.out.lt
            have hp4 := HP.out.below b18 HP.out.lt
            have hs4 := SL.out.below (b18.mono HN.out)
            have hn4 := Nat.le_trans HN.out b18.size
            have hb4 := BW.out.trans (b18.mono BW.out.size)
            clear HQ HP SL HN BW b18 AX AY HON HOFF HFVC hcf
            have HQ := hide hq4
            have HP := hide hp4
            have SL := hide hs4
            have HN := hide hn4
            have BW := hide hb4
            have HX := hide hbX
            have HYY := hide hbY
            clear hq4 hp4 hs4 hn4 hb4 hbX hbY
            go_upto_region 19 with fail
            go_cut [8] from 92 to 146 (fun u wx => u = .bool true ∧ Below w.heap.size w wx)
            case first =>
              by_cases h0 : n = 0
              · have hn0 : n ≤ 0 := by omega
                have hz0 : ((n : Int) == 0) = true := by simp [h0]
                clear h0
                refine wp_region_gj (n := 147) [] (fun _ => #[]) [(0, 0, 0, 0, 0), (0, 0, 0, 0, 0), (0, 0, 0, 0, 0), (0, 0, 0, 0, 0), (0, 0, 0, 0, 0), (0, 0, 0, 0, 0), (0, 0, 0, 0, 0), (0, 0, 0, 0, 0), (0, 0, 0, 0, 0), (0, 0, 0, 0, 0), (0, 0, 0, 0, 0), (0, 0, 0, 0, 0), (0, 0, 0, 0, 0), (0, 0, 0, 0, 0), (0, 0, 0, 0, 0), (0, 0, 0, 0, 0), (0, 0, 0, 0, 0), (0, 0, 0, 0, 0), (0, 0, 0, 0, 0), (0, 0, 0, 0, 0), (0, 0, 0, 0, 0), (0, 0, 0, 0, 0), (0, 0, 0, 0, 0), (0, 0, 0, 0, 0), (0, 0, 0, 0, 0), (0, 0, 0, 0, 0), (0, 0, 0, 0, 0), (0, 0, 0, 0, 0), (0, 0, 0, 0, 0), (0, 0, 0, 0, 0), (1, 0, 0, 0, 0), (0, 0, 0, 0, 0), (0, 0, 0, 0, 0), (0, 0, 0, 0, 0), (0, 0, 0, 0, 0), (0, 0, 0, 0, 0), (0, 0, 0, 0, 0), (1, 0, 0, 0, 0), (0, 0, 0, 0, 0), (0, 0, 0, 0, 0), (0, 0, 0, 0, 0), (0, 0, 0, 0, 0), (0, 0, 0, 0, 0), (0, 0, 0, 0, 0), (1, 0, 0, 0, 0), (0, 0, 0, 0, 0), (0, 0, 0, 0, 0), (0, 0, 0, 0, 0), (0, 0, 0, 0, 0), (0, 0, 0, 0, 0), (0, 0, 0, 0, 0), (0, 0, 0, 0, 0), (0, 0, 0, 0, 0), (0, 0, 0, 0, 0), (0, 0, 0, 0, 0), (0, 0, 0, 0, 0)] (fun j => [(.slice A1 n c1), (.int .i64 (n : Nat)), (.bool true), (.bool true), undef, undef, undef, undef, undef, (.bool true), (.bool true), (.pointer (some ⟨gX, 2, none⟩)), (.int .i64 ((pg ||| fv : Nat) : Int)), (.pointer (some ⟨gP, 2, none⟩)), (.int .i64 (pg : Nat)), (.int .i64 (fv : Nat)), (.int .i64 ((pg ||| fv : Nat) : Int)), (.bool true), (.bool true), (.bool true), (.pointer (some ⟨gY, 2, none⟩)), (.int .i64 ((pg &&& (255 - fv) : Nat) : Int)), (.pointer (some ⟨gP, 2, none⟩)), (.int .i64 (pg : Nat)), (.int .i64 (fv : Nat)), (.int .i64 ((pg &&& (255 - fv) : Nat) : Int)), (.bool true), (.bool true), (.bool true), (.agg #[.int .i64 pf, .int .i64 pb, .int .i64 (pg : Nat)]), undef, (.agg #[.int .i64 (-1), .int .i64 pb, .int .i64 (pg : Nat)]), (.int .i64 (-1)), (.bool true), (.bool true), (.bool true), (.agg #[.int .i64 pf, .int .i64 pb, .int .i64 (pg : Nat)]), undef, (.agg #[.int .i64 12, .int .i64 pb, .int .i64 (pg : Nat)]), (.int .i64 12), (.bool true), (.bool true), (.bool true), (.agg #[.int .i64 pf, .int .i64 pb, .int .i64 (pg : Nat)]), undef, (.agg #[.int .i64 pf, .int .i64 pb, .int .i64 ((pg &&& 252 : Nat) : Int)]), (.int .i64 ((pg &&& 252 : Nat) : Int)), (.pointer (some ⟨gP, 2, none⟩)), (.int .i64 (pg : Nat)), (.int .i64 ((pg &&& 252 : Nat) : Int)), (.bool true), (.bool true), (.bool true), (.bool true), (.bool true), (.bool true)].getD j undef) [none, none, none, none, none, none, none, none, none, none, none, none, none, none, none, none, none, none, none, none, none, none, none, none, none, none, none, none, none, none, some (NewS 3 2 #[.int .i64 31, .int .i64 39]), none, none, none, none, none, none, some (NewS 3 2 #[.int .i64 31, .int .i64 94]), none, none, none, none, none, none, some (NewS 3 3 #[.int .i64 1, .int .i64 2, .int .i64 22])] (fun _ => 0) (by kernel_rfl) (by kernel_rfl) (by kernel_rfl) rfl (by kernel_rfl) (gno4 rfl) (fun i j h => by revert h; exact gno4 (p := fun _ => _) rfl i) (AllG.none_ (AllG.none_ (AllG.none_ (AllG.none_ (AllG.none_ (AllG.none_ (AllG.none_ (AllG.none_ (AllG.none_ (AllG.none_ (AllG.none_ (AllG.none_ (AllG.none_ (AllG.none_ (AllG.none_ (AllG.none_ (AllG.none_ (AllG.none_ (AllG.none_ (AllG.none_ (AllG.none_ (AllG.none_ (AllG.none_ (AllG.none_ (AllG.none_ (AllG.none_ (AllG.none_ (AllG.none_ (AllG.none_ (AllG.none_ (AllG.some_ (NewS.stays (by kernel_rfl)) (AllG.none_ (AllG.none_ (AllG.none_ (AllG.none_ (AllG.none_ (AllG.none_ (AllG.some_ (NewS.stays (by kernel_rfl)) (AllG.none_ (AllG.none_ (AllG.none_ (AllG.none_ (AllG.none_ (AllG.none_ (AllG.some_ (NewS.stays (by kernel_rfl)) (AllG.nil _)))))))))))))))))))))))))))))))))))))))))))))) (fun hGS => cases56 ⟨?_, ?_, ?_, ?_, ?_, ?_, ?_, ?_, ?_, ?_, ?_, ?_, ?_, ?_, ?_, ?_, ?_, ?_, ?_, ?_, ?_, ?_, ?_, ?_, ?_, ?_, ?_, ?_, ?_, ?_, ?_, ?_, ?_, ?_, ?_, ?_, ?_, ?_, ?_, ?_, ?_, ?_, ?_, ?_, ?_, ?_, ?_, ?_, ?_, ?_, ?_, ?_, ?_, ?_, ?_, ?_⟩) ?_
                · intro L a w' hL hsame hsz hJ hdep hcl
                  have hb := hJ.kept.toBelow (Nat.le_refl _) (by simp)
                  have e0 : a.eval (.tmp 9) = (.slice A1 n c1) := eval_base hsame (by kernel_rfl)
                  refine Step.val _ rfl rfl (wanted_none rfl) (.slice A1 n c1) w' (fun ρ hρ => ?_) (hJ.val hGS hcl hL rfl (Below.refl _ _) _ rfl)
                  rw [hρ] at e0
                  clear hJ hsame hdep hcl hρ hsz hb
                  go_simp
                · intro L a w' hL hsame hsz hJ hdep hcl
                  have hb := hJ.kept.toBelow (Nat.le_refl _) (by simp)
                  have e0 : a.eval (.tmp 92) = (.slice A1 n c1) := eval_slot (j := 0) (by kernel_rfl) (hJ.valOf (by decide) (dep_of hdep 0 (by kernel_rfl)) rfl rfl)
                  refine Step.val _ rfl rfl (wanted_none rfl) (.int .i64 (n : Nat)) w' (fun ρ hρ => ?_) (hJ.val hGS hcl hL rfl (Below.refl _ _) _ rfl)
                  rw [hρ] at e0
                  clear hJ hsame hdep hcl hρ hsz hb
                  go_simp
                · intro L a w' hL hsame hsz hJ hdep hcl
                  have hb := hJ.kept.toBelow (Nat.le_refl _) (by simp)
                  have e0 : a.eval (.tmp 93) = (.int .i64 (n : Nat)) := eval_slot (j := 1) (by kernel_rfl) (hJ.valOf (by decide) (dep_of hdep 1 (by kernel_rfl)) rfl rfl)
                  refine Step.val _ rfl rfl (wanted_none rfl) (.bool true) w' (fun ρ hρ => ?_) (hJ.val hGS hcl hL rfl (Below.refl _ _) _ rfl)
                  rw [hρ] at e0
                  have ec0 : ρ (.const (.int .i64 0)) = (.int .i64 0) := (hρ _).symm
                  clear hJ hsame hdep hcl hρ hsz hb
                  go_simp
                  try omega
                · intro L a w' hL hsame hsz hJ hdep hcl
                  have hb := hJ.kept.toBelow (Nat.le_refl _) (by simp)
                  have e0 : a.eval (.tmp 94) = (.bool true) := eval_slot (j := 2) (by kernel_rfl) (hJ.valOf (by decide) (dep_of hdep 2 (by kernel_rfl)) rfl rfl)
                  refine Step.val _ rfl rfl (wanted_none rfl) (.bool true) w' (fun ρ hρ => ?_) (hJ.val hGS hcl hL rfl (Below.refl _ _) _ rfl)
                  rw [hρ] at e0
                  clear hJ hsame hdep hcl hρ hsz hb
                  go_simp
                · intro L a w' hL hsame hsz hJ hdep hcl
                  have gd : valOf _ 3 a = .bool true := hJ.valOf (by decide) (dep_of hdep 3 (by kernel_rfl)) rfl rfl
                  exact GStep.pass _ rfl (gwanted_not (g := 3) (b := false) (c := true) rfl gd (by decide)) (hJ.val hGS hcl hL rfl (Below.refl _ _) _ rfl)
                · intro L a w' hL hsame hsz hJ hdep hcl
                  have gd : valOf _ 3 a = .bool true := hJ.valOf (by decide) (dep_of hdep 3 (by kernel_rfl)) rfl rfl
                  exact GStep.pass _ rfl (gwanted_not (g := 3) (b := false) (c := true) rfl gd (by decide)) (hJ.val hGS hcl hL rfl (Below.refl _ _) _ rfl)
                · intro L a w' hL hsame hsz hJ hdep hcl
                  have gd : valOf _ 3 a = .bool true := hJ.valOf (by decide) (dep_of hdep 3 (by kernel_rfl)) rfl rfl
                  exact GStep.pass _ rfl (gwanted_not (g := 3) (b := false) (c := true) rfl gd (by decide)) (hJ.val hGS hcl hL rfl (Below.refl _ _) _ rfl)
                · intro L a w' hL hsame hsz hJ hdep hcl
                  have gd : valOf _ 3 a = .bool true := hJ.valOf (by decide) (dep_of hdep 3 (by kernel_rfl)) rfl rfl
                  exact GStep.pass _ rfl (gwanted_not (g := 3) (b := false) (c := true) rfl gd (by decide)) (hJ.val hGS hcl hL rfl (Below.refl _ _) _ rfl)
                · intro L a w' hL hsame hsz hJ hdep hcl
                  have gd : valOf _ 3 a = .bool true := hJ.valOf (by decide) (dep_of hdep 3 (by kernel_rfl)) rfl rfl
                  exact GStep.pass _ rfl (gwanted_not (g := 3) (b := false) (c := true) rfl gd (by decide)) (hJ.val hGS hcl hL rfl (Below.refl _ _) _ rfl)
                · intro L a w' hL hsame hsz hJ hdep hcl
                  have hb := hJ.kept.toBelow (Nat.le_refl _) (by simp)
                  have e0 : a.eval (.tmp 95) = (.bool true) := eval_slot (j := 3) (by kernel_rfl) (hJ.valOf (by decide) (dep_of hdep 3 (by kernel_rfl)) rfl rfl)
                  have e2 : a.eval (.tmp 100) = undef := eval_slot (j := 8) (by kernel_rfl) (hJ.valOf (by decide) (dep_of hdep 8 (by kernel_rfl)) rfl rfl)
                  refine Step.val _ rfl rfl (wanted_none rfl) (.bool true) w' (fun ρ hρ => ?_) (hJ.val hGS hcl hL rfl (Below.refl _ _) _ rfl)
                  rw [hρ] at e0 e2
                  have ec0 : ρ (.const (.bool true)) = (.bool true) := (hρ _).symm
                  clear hJ hsame hdep hcl hρ hsz hb
                  go_simp
                · intro L a w' hL hsame hsz hJ hdep hcl
                  have hb := hJ.kept.toBelow (Nat.le_refl _) (by simp)
                  have e0 : a.eval (.tmp 101) = (.bool true) := eval_slot (j := 9) (by kernel_rfl) (hJ.valOf (by decide) (dep_of hdep 9 (by kernel_rfl)) rfl rfl)
                  refine Step.val _ rfl rfl (wanted_none rfl) (.bool true) w' (fun ρ hρ => ?_) (hJ.val hGS hcl hL rfl (Below.refl _ _) _ rfl)
                  rw [hρ] at e0
                  clear hJ hsame hdep hcl hρ hsz hb
                  go_simp
                · intro L a w' hL hsame hsz hJ hdep hcl
                  have gd : valOf _ 10 a = .bool true := hJ.valOf (by decide) (dep_of hdep 10 (by kernel_rfl)) rfl rfl
                  have hb := hJ.kept.toBelow (Nat.le_refl _) (by simp)
                  have e0 : a.eval (.tmp 19) = (.pointer (some ⟨gX, 0, none⟩)) := eval_base hsame (by kernel_rfl)
                  refine Step.val _ rfl rfl (wanted_some (g := 10) (b := true) rfl gd) (.pointer (some ⟨gX, 2, none⟩)) w' (fun ρ hρ => ?_) (hJ.val hGS hcl hL rfl (Below.refl _ _) _ rfl)
                  rw [hρ] at e0
                  clear hJ hsame hdep hcl hρ hsz hb gd
                  go_simp
                · intro L a w' hL hsame hsz hJ hdep hcl
                  have gd : valOf _ 10 a = .bool true := hJ.valOf (by decide) (dep_of hdep 10 (by kernel_rfl)) rfl rfl
                  have hb := hJ.kept.toBelow (Nat.le_refl _) (by simp)
                  have e0 : a.eval (.tmp 103) = (.pointer (some ⟨gX, 2, none⟩)) := eval_slot (j := 11) (by kernel_rfl) (hJ.valOf (by decide) (dep_of hdep 11 (by kernel_rfl)) rfl rfl)
                  have hx := hJ.keptBox (HX.out) (by simp)
                  have q0 : w'.cell? ⟨gX, 2, none⟩ = some (.int .i64 ((pg ||| fv : Nat) : Int)) := hx.cell 2
                  refine Step.val _ rfl rfl (wanted_some (g := 10) (b := true) rfl gd) (.int .i64 ((pg ||| fv : Nat) : Int)) w' (fun ρ hρ => ?_) (hJ.val hGS hcl hL rfl (Below.refl _ _) _ rfl)
                  clear hx
                  rw [hρ] at e0
                  clear hJ hsame hdep hcl hρ hsz hb gd
                  go_simp
                · intro L a w' hL hsame hsz hJ hdep hcl
                  have gd : valOf _ 10 a = .bool true := hJ.valOf (by decide) (dep_of hdep 10 (by kernel_rfl)) rfl rfl
                  have hb := hJ.kept.toBelow (Nat.le_refl _) (by simp)
                  have e0 : a.eval (.tmp 13) = (.pointer (some ⟨gP, 0, none⟩)) := eval_base hsame (by kernel_rfl)
                  refine Step.val _ rfl rfl (wanted_some (g := 10) (b := true) rfl gd) (.pointer (some ⟨gP, 2, none⟩)) w' (fun ρ hρ => ?_) (hJ.val hGS hcl hL rfl (Below.refl _ _) _ rfl)
                  rw [hρ] at e0
                  clear hJ hsame hdep hcl hρ hsz hb gd
                  go_simp
                · intro L a w' hL hsame hsz hJ hdep hcl
                  have gd : valOf _ 10 a = .bool true := hJ.valOf (by decide) (dep_of hdep 10 (by kernel_rfl)) rfl rfl
                  have hb := hJ.kept.toBelow (Nat.le_refl _) (by simp)
                  have e0 : a.eval (.tmp 105) = (.pointer (some ⟨gP, 2, none⟩)) := eval_slot (j := 13) (by kernel_rfl) (hJ.valOf (by decide) (dep_of hdep 13 (by kernel_rfl)) rfl rfl)
                  have hx := hJ.keptBox (HP.out) (by simp)
                  have q0 : w'.cell? ⟨gP, 2, none⟩ = some (.int .i64 (pg : Nat)) := hx.cell 2
                  refine Step.val _ rfl rfl (wanted_some (g := 10) (b := true) rfl gd) (.int .i64 (pg : Nat)) w' (fun ρ hρ => ?_) (hJ.val hGS hcl hL rfl (Below.refl _ _) _ rfl)
                  clear hx
                  rw [hρ] at e0
                  clear hJ hsame hdep hcl hρ hsz hb gd
                  go_simp
                · intro L a w' hL hsame hsz hJ hdep hcl
                  have gd : valOf _ 10 a = .bool true := hJ.valOf (by decide) (dep_of hdep 10 (by kernel_rfl)) rfl rfl
                  have hb := hJ.kept.toBelow (Nat.le_refl _) (by simp)
                  have e0 : a.eval (.tmp 18) = (.int .i64 (fv : Nat)) := eval_base hsame (by kernel_rfl)
                  refine Step.val _ rfl rfl (wanted_some (g := 10) (b := true) rfl gd) (.int .i64 (fv : Nat)) w' (fun ρ hρ => ?_) (hJ.val hGS hcl hL rfl (Below.refl _ _) _ rfl)
                  rw [hρ] at e0
                  clear hJ hsame hdep hcl hρ hsz hb gd
                  go_simp
                · intro L a w' hL hsame hsz hJ hdep hcl
                  have gd : valOf _ 10 a = .bool true := hJ.valOf (by decide) (dep_of hdep 10 (by kernel_rfl)) rfl rfl
                  have hb := hJ.kept.toBelow (Nat.le_refl _) (by simp)
                  have e0 : a.eval (.tmp 106) = (.int .i64 (pg : Nat)) := eval_slot (j := 14) (by kernel_rfl) (hJ.valOf (by decide) (dep_of hdep 14 (by kernel_rfl)) rfl rfl)
                  have e1 : a.eval (.tmp 107) = (.int .i64 (fv : Nat)) := eval_slot (j := 15) (by kernel_rfl) (hJ.valOf (by decide) (dep_of hdep 15 (by kernel_rfl)) rfl rfl)
                  refine Step.val _ rfl rfl (wanted_some (g := 10) (b := true) rfl gd) (.int .i64 ((pg ||| fv : Nat) : Int)) w' (fun ρ hρ => ?_) (hJ.val hGS hcl hL rfl (Below.refl _ _) _ rfl)
                  rw [hρ] at e0 e1
                  clear hJ hsame hdep hcl hρ hsz hb gd
                  go_simp
                  exact i64_or_small HPR.out.1 HFV.out
                · intro L a w' hL hsame hsz hJ hdep hcl
                  have gd : valOf _ 10 a = .bool true := hJ.valOf (by decide) (dep_of hdep 10 (by kernel_rfl)) rfl rfl
                  have hb := hJ.kept.toBelow (Nat.le_refl _) (by simp)
                  have e0 : a.eval (.tmp 104) = (.int .i64 ((pg ||| fv : Nat) : Int)) := eval_slot (j := 12) (by kernel_rfl) (hJ.valOf (by decide) (dep_of hdep 12 (by kernel_rfl)) rfl rfl)
                  have e1 : a.eval (.tmp 108) = (.int .i64 ((pg ||| fv : Nat) : Int)) := eval_slot (j := 16) (by kernel_rfl) (hJ.valOf (by decide) (dep_of hdep 16 (by kernel_rfl)) rfl rfl)
                  refine Step.val _ rfl rfl (wanted_some (g := 10) (b := true) rfl gd) (.bool true) w' (fun ρ hρ => ?_) (hJ.val hGS hcl hL rfl (Below.refl _ _) _ rfl)
                  rw [hρ] at e0 e1
                  clear hJ hsame hdep hcl hρ hsz hb gd
                  go_simp
                · intro L a w' hL hsame hsz hJ hdep hcl
                  have hb := hJ.kept.toBelow (Nat.le_refl _) (by simp)
                  have e0 : a.eval (.tmp 102) = (.bool true) := eval_slot (j := 10) (by kernel_rfl) (hJ.valOf (by decide) (dep_of hdep 10 (by kernel_rfl)) rfl rfl)
                  have e1 : a.eval (.tmp 109) = (.bool true) := eval_slot (j := 17) (by kernel_rfl) (hJ.valOf (by decide) (dep_of hdep 17 (by kernel_rfl)) rfl rfl)
                  refine Step.val _ rfl rfl (wanted_none rfl) (.bool true) w' (fun ρ hρ => ?_) (hJ.val hGS hcl hL rfl (Below.refl _ _) _ rfl)
                  rw [hρ] at e0 e1
                  have ec0 : ρ (.const (.bool false)) = (.bool false) := (hρ _).symm
                  clear hJ hsame hdep hcl hρ hsz hb
                  go_simp
                · intro L a w' hL hsame hsz hJ hdep hcl
                  have hb := hJ.kept.toBelow (Nat.le_refl _) (by simp)
                  have e0 : a.eval (.tmp 110) = (.bool true) := eval_slot (j := 18) (by kernel_rfl) (hJ.valOf (by decide) (dep_of hdep 18 (by kernel_rfl)) rfl rfl)
                  refine Step.val _ rfl rfl (wanted_none rfl) (.bool true) w' (fun ρ hρ => ?_) (hJ.val hGS hcl hL rfl (Below.refl _ _) _ rfl)
                  rw [hρ] at e0
                  clear hJ hsame hdep hcl hρ hsz hb
                  go_simp
                · intro L a w' hL hsame hsz hJ hdep hcl
                  have gd : valOf _ 19 a = .bool true := hJ.valOf (by decide) (dep_of hdep 19 (by kernel_rfl)) rfl rfl
                  have hb := hJ.kept.toBelow (Nat.le_refl _) (by simp)
                  have e0 : a.eval (.tmp 20) = (.pointer (some ⟨gY, 0, none⟩)) := eval_base hsame (by kernel_rfl)
                  refine Step.val _ rfl rfl (wanted_some (g := 19) (b := true) rfl gd) (.pointer (some ⟨gY, 2, none⟩)) w' (fun ρ hρ => ?_) (hJ.val hGS hcl hL rfl (Below.refl _ _) _ rfl)
                  rw [hρ] at e0
                  clear hJ hsame hdep hcl hρ hsz hb gd
                  go_simp
                · intro L a w' hL hsame hsz hJ hdep hcl
                  have gd : valOf _ 19 a = .bool true := hJ.valOf (by decide) (dep_of hdep 19 (by kernel_rfl)) rfl rfl
                  have hb := hJ.kept.toBelow (Nat.le_refl _) (by simp)
                  have e0 : a.eval (.tmp 112) = (.pointer (some ⟨gY, 2, none⟩)) := eval_slot (j := 20) (by kernel_rfl) (hJ.valOf (by decide) (dep_of hdep 20 (by kernel_rfl)) rfl rfl)
                  have hx := hJ.keptBox (HYY.out) (by simp)
                  have q0 : w'.cell? ⟨gY, 2, none⟩ = some (.int .i64 ((pg &&& (255 - fv) : Nat) : Int)) := hx.cell 2
                  refine Step.val _ rfl rfl (wanted_some (g := 19) (b := true) rfl gd) (.int .i64 ((pg &&& (255 - fv) : Nat) : Int)) w' (fun ρ hρ => ?_) (hJ.val hGS hcl hL rfl (Below.refl _ _) _ rfl)
                  clear hx
                  rw [hρ] at e0
                  clear hJ hsame hdep hcl hρ hsz hb gd
                  go_simp
                · intro L a w' hL hsame hsz hJ hdep hcl
                  have gd : valOf _ 19 a = .bool true := hJ.valOf (by decide) (dep_of hdep 19 (by kernel_rfl)) rfl rfl
                  have hb := hJ.kept.toBelow (Nat.le_refl _) (by simp)
                  have e0 : a.eval (.tmp 13) = (.pointer (some ⟨gP, 0, none⟩)) := eval_base hsame (by kernel_rfl)
                  refine Step.val _ rfl rfl (wanted_some (g := 19) (b := true) rfl gd) (.pointer (some ⟨gP, 2, none⟩)) w' (fun ρ hρ => ?_) (hJ.val hGS hcl hL rfl (Below.refl _ _) _ rfl)
                  rw [hρ] at e0
                  clear hJ hsame hdep hcl hρ hsz hb gd
                  go_simp
                · intro L a w' hL hsame hsz hJ hdep hcl
                  have gd : valOf _ 19 a = .bool true := hJ.valOf (by decide) (dep_of hdep 19 (by kernel_rfl)) rfl rfl
                  have hb := hJ.kept.toBelow (Nat.le_refl _) (by simp)
                  have e0 : a.eval (.tmp 114) = (.pointer (some ⟨gP, 2, none⟩)) := eval_slot (j := 22) (by kernel_rfl) (hJ.valOf (by decide) (dep_of hdep 22 (by kernel_rfl)) rfl rfl)
                  have hx := hJ.keptBox (HP.out) (by simp)
                  have q0 : w'.cell? ⟨gP, 2, none⟩ = some (.int .i64 (pg : Nat)) := hx.cell 2
                  refine Step.val _ rfl rfl (wanted_some (g := 19) (b := true) rfl gd) (.int .i64 (pg : Nat)) w' (fun ρ hρ => ?_) (hJ.val hGS hcl hL rfl (Below.refl _ _) _ rfl)
                  clear hx
                  rw [hρ] at e0
                  clear hJ hsame hdep hcl hρ hsz hb gd
                  go_simp
                · intro L a w' hL hsame hsz hJ hdep hcl
                  have gd : valOf _ 19 a = .bool true := hJ.valOf (by decide) (dep_of hdep 19 (by kernel_rfl)) rfl rfl
                  have hb := hJ.kept.toBelow (Nat.le_refl _) (by simp)
                  have e0 : a.eval (.tmp 18) = (.int .i64 (fv : Nat)) := eval_base hsame (by kernel_rfl)
                  refine Step.val _ rfl rfl (wanted_some (g := 19) (b := true) rfl gd) (.int .i64 (fv : Nat)) w' (fun ρ hρ => ?_) (hJ.val hGS hcl hL rfl (Below.refl _ _) _ rfl)
                  rw [hρ] at e0
                  clear hJ hsame hdep hcl hρ hsz hb gd
                  go_simp
                · intro L a w' hL hsame hsz hJ hdep hcl
                  have gd : valOf _ 19 a = .bool true := hJ.valOf (by decide) (dep_of hdep 19 (by kernel_rfl)) rfl rfl
                  have hb := hJ.kept.toBelow (Nat.le_refl _) (by simp)
                  have e0 : a.eval (.tmp 115) = (.int .i64 (pg : Nat)) := eval_slot (j := 23) (by kernel_rfl) (hJ.valOf (by decide) (dep_of hdep 23 (by kernel_rfl)) rfl rfl)
                  have e1 : a.eval (.tmp 116) = (.int .i64 (fv : Nat)) := eval_slot (j := 24) (by kernel_rfl) (hJ.valOf (by decide) (dep_of hdep 24 (by kernel_rfl)) rfl rfl)
                  refine Step.val _ rfl rfl (wanted_some (g := 19) (b := true) rfl gd) (.int .i64 ((pg &&& (255 - fv) : Nat) : Int)) w' (fun ρ hρ => ?_) (hJ.val hGS hcl hL rfl (Below.refl _ _) _ rfl)
                  rw [hρ] at e0 e1
                  clear hJ hsame hdep hcl hρ hsz hb gd
                  go_simp
                  exact i64_andNot_nat HPR.out.1 HFV.out
                · intro L a w' hL hsame hsz hJ hdep hcl
                  have gd : valOf _ 19 a = .bool true := hJ.valOf (by decide) (dep_of hdep 19 (by kernel_rfl)) rfl rfl
                  have hb := hJ.kept.toBelow (Nat.le_refl _) (by simp)
                  have e0 : a.eval (.tmp 113) = (.int .i64 ((pg &&& (255 - fv) : Nat) : Int)) := eval_slot (j := 21) (by kernel_rfl) (hJ.valOf (by decide) (dep_of hdep 21 (by kernel_rfl)) rfl rfl)
                  have e1 : a.eval (.tmp 117) = (.int .i64 ((pg &&& (255 - fv) : Nat) : Int)) := eval_slot (j := 25) (by kernel_rfl) (hJ.valOf (by decide) (dep_of hdep 25 (by kernel_rfl)) rfl rfl)
                  refine Step.val _ rfl rfl (wanted_some (g := 19) (b := true) rfl gd) (.bool true) w' (fun ρ hρ => ?_) (hJ.val hGS hcl hL rfl (Below.refl _ _) _ rfl)
                  rw [hρ] at e0 e1
                  clear hJ hsame hdep hcl hρ hsz hb gd
                  go_simp
                · intro L a w' hL hsame hsz hJ hdep hcl
                  have hb := hJ.kept.toBelow (Nat.le_refl _) (by simp)
                  have e0 : a.eval (.tmp 111) = (.bool true) := eval_slot (j := 19) (by kernel_rfl) (hJ.valOf (by decide) (dep_of hdep 19 (by kernel_rfl)) rfl rfl)
                  have e1 : a.eval (.tmp 118) = (.bool true) := eval_slot (j := 26) (by kernel_rfl) (hJ.valOf (by decide) (dep_of hdep 26 (by kernel_rfl)) rfl rfl)
                  refine Step.val _ rfl rfl (wanted_none rfl) (.bool true) w' (fun ρ hρ => ?_) (hJ.val hGS hcl hL rfl (Below.refl _ _) _ rfl)
                  rw [hρ] at e0 e1
                  have ec0 : ρ (.const (.bool false)) = (.bool false) := (hρ _).symm
                  clear hJ hsame hdep hcl hρ hsz hb
                  go_simp
                · intro L a w' hL hsame hsz hJ hdep hcl
                  have hb := hJ.kept.toBelow (Nat.le_refl _) (by simp)
                  have e0 : a.eval (.tmp 119) = (.bool true) := eval_slot (j := 27) (by kernel_rfl) (hJ.valOf (by decide) (dep_of hdep 27 (by kernel_rfl)) rfl rfl)
                  refine Step.val _ rfl rfl (wanted_none rfl) (.bool true) w' (fun ρ hρ => ?_) (hJ.val hGS hcl hL rfl (Below.refl _ _) _ rfl)
                  rw [hρ] at e0
                  clear hJ hsame hdep hcl hρ hsz hb
                  go_simp
                · intro L a w' hL hsame hsz hJ hdep hcl
                  have gd : valOf _ 28 a = .bool true := hJ.valOf (by decide) (dep_of hdep 28 (by kernel_rfl)) rfl rfl
                  have hb := hJ.kept.toBelow (Nat.le_refl _) (by simp)
                  have e0 : a.eval (.tmp 13) = (.pointer (some ⟨gP, 0, none⟩)) := eval_base hsame (by kernel_rfl)
                  have hx := hJ.keptBox (HP.out) (by simp)
                  have q0 : w'.cell? ⟨gP, 0, none⟩ = some (.int .i64 pf) := hx.cell 0
                  have q1 : w'.cell? ⟨gP, 1, none⟩ = some (.int .i64 pb) := hx.cell 1
                  have q2 : w'.cell? ⟨gP, 2, none⟩ = some (.int .i64 (pg : Nat)) := hx.cell 2
                  refine Step.val _ rfl rfl (wanted_some (g := 28) (b := true) rfl gd) (.agg #[.int .i64 pf, .int .i64 pb, .int .i64 (pg : Nat)]) w' (fun ρ hρ => ?_) (hJ.val hGS hcl hL rfl (Below.refl _ _) _ rfl)
                  clear hx
                  rw [hρ] at e0
                  clear hJ hsame hdep hcl hρ hsz hb gd
                  go_simp
                · intro L a w' hL hsame hsz hJ hdep hcl
                  have gd : valOf _ 28 a = .bool true := hJ.valOf (by decide) (dep_of hdep 28 (by kernel_rfl)) rfl rfl
                  have hb := hJ.kept.toBelow (Nat.le_refl _) (by simp)
                  refine Step.val _ rfl rfl (wanted_some (g := 28) (b := true) rfl gd) (.slice (some ⟨w'.heap.size, 0, none⟩) 2 2) (w'.alloc (.cells #[.int .i64 31, .int .i64 39] 3)) (fun ρ hρ => ?_) (hJ.pred hGS hcl hL rfl ((Below.refl _ _).alloc (Nat.le_refl _) _) _ (⟨_, rfl, Box.new w' _ _⟩))
                  have ec0 : ρ (.const (.int .i64 31)) = (.int .i64 31) := (hρ _).symm
                  have ec1 : ρ (.const (.int .i64 39)) = (.int .i64 39) := (hρ _).symm
                  clear hJ hsame hdep hcl hρ hsz hb gd
                  go_simp
                · intro L a w' hL hsame hsz hJ hdep hcl
                  have gd : valOf _ 28 a = .bool true := hJ.valOf (by decide) (dep_of hdep 28 (by kernel_rfl)) rfl rfl
                  have hb := hJ.kept.toBelow (Nat.le_refl _) (by simp)
                  have e0 : a.eval (.tmp 121) = (.agg #[.int .i64 pf, .int .i64 pb, .int .i64 (pg : Nat)]) := eval_slot (j := 29) (by kernel_rfl) (hJ.valOf (by decide) (dep_of hdep 29 (by kernel_rfl)) rfl rfl)
                  obtain ⟨g30, hv30, hs30⟩ := (show (NewS 3 2 #[.int .i64 31, .int .i64 39]) (valOf _ 30 a) w' from hJ.predOf (by decide) (dep_of hdep 30 (by kernel_rfl)) rfl)
                  have e1 : a.eval (.tmp 122) = .slice (some ⟨g30, 0, none⟩) 2 2 := eval_slot (j := 30) (by kernel_rfl) hv30
                  refine Step.call _ rfl rfl (wanted_some (g := 28) (b := true) rfl gd) 8 #[.agg #[.int .i64 pf, .int .i64 pb, .int .i64 (pg : Nat)], .slice (some ⟨g30, 0, none⟩) 2 2] (fun ρ hρ => ?_) ?_
                  · skip
                    rw [hρ] at e0 e1
                    have ef : ρ (.func 8) = .func (.func 8) #[] #[] := (hρ _).symm
                    clear hJ hsame hdep hcl hρ hsz hb gd
                    go_simp
                  · refine (B1.out g30 _ hs30 (HT.out.keep (BW.out.trans (hJ.kept.toBelow BW.out.size (fun k hk => by simp at hk))))).mono ?_
                    rintro e w2 ⟨rfl, bb⟩
                    exact ⟨_, rfl, hJ.val hGS hcl hL rfl bb _ rfl⟩
                · intro L a w' hL hsame hsz hJ hdep hcl
                  have gd : valOf _ 28 a = .bool true := hJ.valOf (by decide) (dep_of hdep 28 (by kernel_rfl)) rfl rfl
                  have hb := hJ.kept.toBelow (Nat.le_refl _) (by simp)
                  have e0 : a.eval (.tmp 123) = (.agg #[.int .i64 (-1), .int .i64 pb, .int .i64 (pg : Nat)]) := eval_slot (j := 31) (by kernel_rfl) (hJ.valOf (by decide) (dep_of hdep 31 (by kernel_rfl)) rfl rfl)
                  refine Step.val _ rfl rfl (wanted_some (g := 28) (b := true) rfl gd) (.int .i64 (-1)) w' (fun ρ hρ => ?_) (hJ.val hGS hcl hL rfl (Below.refl _ _) _ rfl)
                  rw [hρ] at e0
                  clear hJ hsame hdep hcl hρ hsz hb gd
                  go_simp
                · intro L a w' hL hsame hsz hJ hdep hcl
                  have gd : valOf _ 28 a = .bool true := hJ.valOf (by decide) (dep_of hdep 28 (by kernel_rfl)) rfl rfl
                  have hb := hJ.kept.toBelow (Nat.le_refl _) (by simp)
                  have e0 : a.eval (.tmp 124) = (.int .i64 (-1)) := eval_slot (j := 32) (by kernel_rfl) (hJ.valOf (by decide) (dep_of hdep 32 (by kernel_rfl)) rfl rfl)
                  refine Step.val _ rfl rfl (wanted_some (g := 28) (b := true) rfl gd) (.bool true) w' (fun ρ hρ => ?_) (hJ.val hGS hcl hL rfl (Below.refl _ _) _ rfl)
                  rw [hρ] at e0
                  have ec0 : ρ (.const (.int .i64 (-1))) = (.int .i64 (-1)) := (hρ _).symm
                  clear hJ hsame hdep hcl hρ hsz hb gd
                  go_simp
                · intro L a w' hL hsame hsz hJ hdep hcl
                  have hb := hJ.kept.toBelow (Nat.le_refl _) (by simp)
                  have e0 : a.eval (.tmp 120) = (.bool true) := eval_slot (j := 28) (by kernel_rfl) (hJ.valOf (by decide) (dep_of hdep 28 (by kernel_rfl)) rfl rfl)
                  have e1 : a.eval (.tmp 125) = (.bool true) := eval_slot (j := 33) (by kernel_rfl) (hJ.valOf (by decide) (dep_of hdep 33 (by kernel_rfl)) rfl rfl)
                  refine Step.val _ rfl rfl (wanted_none rfl) (.bool true) w' (fun ρ hρ => ?_) (hJ.val hGS hcl hL rfl (Below.refl _ _) _ rfl)
                  rw [hρ] at e0 e1
                  have ec0 : ρ (.const (.bool false)) = (.bool false) := (hρ _).symm
                  clear hJ hsame hdep hcl hρ hsz hb
                  go_simp
                · intro L a w' hL hsame hsz hJ hdep hcl
                  have hb := hJ.kept.toBelow (Nat.le_refl _) (by simp)
                  have e0 : a.eval (.tmp 126) = (.bool true) := eval_slot (j := 34) (by kernel_rfl) (hJ.valOf (by decide) (dep_of hdep 34 (by kernel_rfl)) rfl rfl)
                  refine Step.val _ rfl rfl (wanted_none rfl) (.bool true) w' (fun ρ hρ => ?_) (hJ.val hGS hcl hL rfl (Below.refl _ _) _ rfl)
                  rw [hρ] at e0
                  clear hJ hsame hdep hcl hρ hsz hb
                  go_simp
                · intro L a w' hL hsame hsz hJ hdep hcl
                  have gd : valOf _ 35 a = .bool true := hJ.valOf (by decide) (dep_of hdep 35 (by kernel_rfl)) rfl rfl
                  have hb := hJ.kept.toBelow (Nat.le_refl _) (by simp)
                  have e0 : a.eval (.tmp 13) = (.pointer (some ⟨gP, 0, none⟩)) := eval_base hsame (by kernel_rfl)
                  have hx := hJ.keptBox (HP.out) (by simp)
                  have q0 : w'.cell? ⟨gP, 0, none⟩ = some (.int .i64 pf) := hx.cell 0
                  have q1 : w'.cell? ⟨gP, 1, none⟩ = some (.int .i64 pb) := hx.cell 1
                  have q2 : w'.cell? ⟨gP, 2, none⟩ = some (.int .i64 (pg : Nat)) := hx.cell 2
                  refine Step.val _ rfl rfl (wanted_some (g := 35) (b := true) rfl gd) (.agg #[.int .i64 pf, .int .i64 pb, .int .i64 (pg : Nat)]) w' (fun ρ hρ => ?_) (hJ.val hGS hcl hL rfl (Below.refl _ _) _ rfl)
                  clear hx
                  rw [hρ] at e0
                  clear hJ hsame hdep hcl hρ hsz hb gd
                  go_simp
                · intro L a w' hL hsame hsz hJ hdep hcl
                  have gd : valOf _ 35 a = .bool true := hJ.valOf (by decide) (dep_of hdep 35 (by kernel_rfl)) rfl rfl
                  have hb := hJ.kept.toBelow (Nat.le_refl _) (by simp)
                  refine Step.val _ rfl rfl (wanted_some (g := 35) (b := true) rfl gd) (.slice (some ⟨w'.heap.size, 0, none⟩) 2 2) (w'.alloc (.cells #[.int .i64 31, .int .i64 94] 3)) (fun ρ hρ => ?_) (hJ.pred hGS hcl hL rfl ((Below.refl _ _).alloc (Nat.le_refl _) _) _ (⟨_, rfl, Box.new w' _ _⟩))
                  have ec0 : ρ (.const (.int .i64 31)) = (.int .i64 31) := (hρ _).symm
                  have ec1 : ρ (.const (.int .i64 94)) = (.int .i64 94) := (hρ _).symm
                  clear hJ hsame hdep hcl hρ hsz hb gd
                  go_simp
                · intro L a w' hL hsame hsz hJ hdep hcl
                  have gd : valOf _ 35 a = .bool true := hJ.valOf (by decide) (dep_of hdep 35 (by kernel_rfl)) rfl rfl
                  have hb := hJ.kept.toBelow (Nat.le_refl _) (by simp)
                  have e0 : a.eval (.tmp 128) = (.agg #[.int .i64 pf, .int .i64 pb, .int .i64 (pg : Nat)]) := eval_slot (j := 36) (by kernel_rfl) (hJ.valOf (by decide) (dep_of hdep 36 (by kernel_rfl)) rfl rfl)
                  obtain ⟨g37, hv37, hs37⟩ := (show (NewS 3 2 #[.int .i64 31, .int .i64 94]) (valOf _ 37 a) w' from hJ.predOf (by decide) (dep_of hdep 37 (by kernel_rfl)) rfl)
                  have e1 : a.eval (.tmp 129) = .slice (some ⟨g37, 0, none⟩) 2 2 := eval_slot (j := 37) (by kernel_rfl) hv37
                  refine Step.call _ rfl rfl (wanted_some (g := 35) (b := true) rfl gd) 8 #[.agg #[.int .i64 pf, .int .i64 pb, .int .i64 (pg : Nat)], .slice (some ⟨g37, 0, none⟩) 2 2] (fun ρ hρ => ?_) ?_
                  · skip
                    rw [hρ] at e0 e1
                    have ef : ρ (.func 8) = .func (.func 8) #[] #[] := (hρ _).symm
                    clear hJ hsame hdep hcl hρ hsz hb gd
                    go_simp
                  · refine (B2.out g37 _ hs37 (HT.out.keep (BW.out.trans (hJ.kept.toBelow BW.out.size (fun k hk => by simp at hk))))).mono ?_
                    rintro e w2 ⟨rfl, bb⟩
                    exact ⟨_, rfl, hJ.val hGS hcl hL rfl bb _ rfl⟩
                · intro L a w' hL hsame hsz hJ hdep hcl
                  have gd : valOf _ 35 a = .bool true := hJ.valOf (by decide) (dep_of hdep 35 (by kernel_rfl)) rfl rfl
                  have hb := hJ.kept.toBelow (Nat.le_refl _) (by simp)
                  have e0 : a.eval (.tmp 130) = (.agg #[.int .i64 12, .int .i64 pb, .int .i64 (pg : Nat)]) := eval_slot (j := 38) (by kernel_rfl) (hJ.valOf (by decide) (dep_of hdep 38 (by kernel_rfl)) rfl rfl)
                  refine Step.val _ rfl rfl (wanted_some (g := 35) (b := true) rfl gd) (.int .i64 12) w' (fun ρ hρ => ?_) (hJ.val hGS hcl hL rfl (Below.refl _ _) _ rfl)
                  rw [hρ] at e0
                  clear hJ hsame hdep hcl hρ hsz hb gd
                  go_simp
                · intro L a w' hL hsame hsz hJ hdep hcl
                  have gd : valOf _ 35 a = .bool true := hJ.valOf (by decide) (dep_of hdep 35 (by kernel_rfl)) rfl rfl
                  have hb := hJ.kept.toBelow (Nat.le_refl _) (by simp)
                  have e0 : a.eval (.tmp 131) = (.int .i64 12) := eval_slot (j := 39) (by kernel_rfl) (hJ.valOf (by decide) (dep_of hdep 39 (by kernel_rfl)) rfl rfl)
                  refine Step.val _ rfl rfl (wanted_some (g := 35) (b := true) rfl gd) (.bool true) w' (fun ρ hρ => ?_) (hJ.val hGS hcl hL rfl (Below.refl _ _) _ rfl)
                  rw [hρ] at e0
                  have ec0 : ρ (.const (.int .i64 12)) = (.int .i64 12) := (hρ _).symm
                  clear hJ hsame hdep hcl hρ hsz hb gd
                  go_simp
                · intro L a w' hL hsame hsz hJ hdep hcl
                  have hb := hJ.kept.toBelow (Nat.le_refl _) (by simp)
                  have e0 : a.eval (.tmp 127) = (.bool true) := eval_slot (j := 35) (by kernel_rfl) (hJ.valOf (by decide) (dep_of hdep 35 (by kernel_rfl)) rfl rfl)
                  have e1 : a.eval (.tmp 132) = (.bool true) := eval_slot (j := 40) (by kernel_rfl) (hJ.valOf (by decide) (dep_of hdep 40 (by kernel_rfl)) rfl rfl)
                  refine Step.val _ rfl rfl (wanted_none rfl) (.bool true) w' (fun ρ hρ => ?_) (hJ.val hGS hcl hL rfl (Below.refl _ _) _ rfl)
                  rw [hρ] at e0 e1
                  have ec0 : ρ (.const (.bool false)) = (.bool false) := (hρ _).symm
                  clear hJ hsame hdep hcl hρ hsz hb
                  go_simp
                · intro L a w' hL hsame hsz hJ hdep hcl
                  have hb := hJ.kept.toBelow (Nat.le_refl _) (by simp)
                  have e0 : a.eval (.tmp 133) = (.bool true) := eval_slot (j := 41) (by kernel_rfl) (hJ.valOf (by decide) (dep_of hdep 41 (by kernel_rfl)) rfl rfl)
                  refine Step.val _ rfl rfl (wanted_none rfl) (.bool true) w' (fun ρ hρ => ?_) (hJ.val hGS hcl hL rfl (Below.refl _ _) _ rfl)
                  rw [hρ] at e0
                  clear hJ hsame hdep hcl hρ hsz hb
                  go_simp
                · intro L a w' hL hsame hsz hJ hdep hcl
                  have gd : valOf _ 42 a = .bool true := hJ.valOf (by decide) (dep_of hdep 42 (by kernel_rfl)) rfl rfl
                  have hb := hJ.kept.toBelow (Nat.le_refl _) (by simp)
                  have e0 : a.eval (.tmp 13) = (.pointer (some ⟨gP, 0, none⟩)) := eval_base hsame (by kernel_rfl)
                  have hx := hJ.keptBox (HP.out) (by simp)
                  have q0 : w'.cell? ⟨gP, 0, none⟩ = some (.int .i64 pf) := hx.cell 0
                  have q1 : w'.cell? ⟨gP, 1, none⟩ = some (.int .i64 pb) := hx.cell 1
                  have q2 : w'.cell? ⟨gP, 2, none⟩ = some (.int .i64 (pg : Nat)) := hx.cell 2
                  refine Step.val _ rfl rfl (wanted_some (g := 42) (b := true) rfl gd) (.agg #[.int .i64 pf, .int .i64 pb, .int .i64 (pg : Nat)]) w' (fun ρ hρ => ?_) (hJ.val hGS hcl hL rfl (Below.refl _ _) _ rfl)
                  clear hx
                  rw [hρ] at e0
                  clear hJ hsame hdep hcl hρ hsz hb gd
                  go_simp
                · intro L a w' hL hsame hsz hJ hdep hcl
                  have gd : valOf _ 42 a = .bool true := hJ.valOf (by decide) (dep_of hdep 42 (by kernel_rfl)) rfl rfl
                  have hb := hJ.kept.toBelow (Nat.le_refl _) (by simp)
                  refine Step.val _ rfl rfl (wanted_some (g := 42) (b := true) rfl gd) (.slice (some ⟨w'.heap.size, 0, none⟩) 3 3) (w'.alloc (.cells #[.int .i64 1, .int .i64 2, .int .i64 22] 3)) (fun ρ hρ => ?_) (hJ.pred hGS hcl hL rfl ((Below.refl _ _).alloc (Nat.le_refl _) _) _ (⟨_, rfl, Box.new w' _ _⟩))
                  have ec0 : ρ (.const (.int .i64 1)) = (.int .i64 1) := (hρ _).symm
                  have ec1 : ρ (.const (.int .i64 2)) = (.int .i64 2) := (hρ _).symm
                  have ec2 : ρ (.const (.int .i64 22)) = (.int .i64 22) := (hρ _).symm
                  clear hJ hsame hdep hcl hρ hsz hb gd
                  go_simp
                · intro L a w' hL hsame hsz hJ hdep hcl
                  have gd : valOf _ 42 a = .bool true := hJ.valOf (by decide) (dep_of hdep 42 (by kernel_rfl)) rfl rfl
                  have hb := hJ.kept.toBelow (Nat.le_refl _) (by simp)
                  have e0 : a.eval (.tmp 135) = (.agg #[.int .i64 pf, .int .i64 pb, .int .i64 (pg : Nat)]) := eval_slot (j := 43) (by kernel_rfl) (hJ.valOf (by decide) (dep_of hdep 43 (by kernel_rfl)) rfl rfl)
                  obtain ⟨g44, hv44, hs44⟩ := (show (NewS 3 3 #[.int .i64 1, .int .i64 2, .int .i64 22]) (valOf _ 44 a) w' from hJ.predOf (by decide) (dep_of hdep 44 (by kernel_rfl)) rfl)
                  have e1 : a.eval (.tmp 136) = .slice (some ⟨g44, 0, none⟩) 3 3 := eval_slot (j := 44) (by kernel_rfl) hv44
                  refine Step.call _ rfl rfl (wanted_some (g := 42) (b := true) rfl gd) 8 #[.agg #[.int .i64 pf, .int .i64 pb, .int .i64 (pg : Nat)], .slice (some ⟨g44, 0, none⟩) 3 3] (fun ρ hρ => ?_) ?_
                  · skip
                    rw [hρ] at e0 e1
                    have ef : ρ (.func 8) = .func (.func 8) #[] #[] := (hρ _).symm
                    clear hJ hsame hdep hcl hρ hsz hb gd
                    go_simp
                  · refine (B3.out g44 _ hs44 (HT.out.keep (BW.out.trans (hJ.kept.toBelow BW.out.size (fun k hk => by simp at hk))))).mono ?_
                    rintro e w2 ⟨rfl, bb⟩
                    exact ⟨_, rfl, hJ.val hGS hcl hL rfl bb _ rfl⟩
                · intro L a w' hL hsame hsz hJ hdep hcl
                  have gd : valOf _ 42 a = .bool true := hJ.valOf (by decide) (dep_of hdep 42 (by kernel_rfl)) rfl rfl
                  have hb := hJ.kept.toBelow (Nat.le_refl _) (by simp)
                  have e0 : a.eval (.tmp 137) = (.agg #[.int .i64 pf, .int .i64 pb, .int .i64 ((pg &&& 252 : Nat) : Int)]) := eval_slot (j := 45) (by kernel_rfl) (hJ.valOf (by decide) (dep_of hdep 45 (by kernel_rfl)) rfl rfl)
                  refine Step.val _ rfl rfl (wanted_some (g := 42) (b := true) rfl gd) (.int .i64 ((pg &&& 252 : Nat) : Int)) w' (fun ρ hρ => ?_) (hJ.val hGS hcl hL rfl (Below.refl _ _) _ rfl)
                  rw [hρ] at e0
                  clear hJ hsame hdep hcl hρ hsz hb gd
                  go_simp
                · intro L a w' hL hsame hsz hJ hdep hcl
                  have gd : valOf _ 42 a = .bool true := hJ.valOf (by decide) (dep_of hdep 42 (by kernel_rfl)) rfl rfl
                  have hb := hJ.kept.toBelow (Nat.le_refl _) (by simp)
                  have e0 : a.eval (.tmp 13) = (.pointer (some ⟨gP, 0, none⟩)) := eval_base hsame (by kernel_rfl)
                  refine Step.val _ rfl rfl (wanted_some (g := 42) (b := true) rfl gd) (.pointer (some ⟨gP, 2, none⟩)) w' (fun ρ hρ => ?_) (hJ.val hGS hcl hL rfl (Below.refl _ _) _ rfl)
                  rw [hρ] at e0
                  clear hJ hsame hdep hcl hρ hsz hb gd
                  go_simp
                · intro L a w' hL hsame hsz hJ hdep hcl
                  have gd : valOf _ 42 a = .bool true := hJ.valOf (by decide) (dep_of hdep 42 (by kernel_rfl)) rfl rfl
                  have hb := hJ.kept.toBelow (Nat.le_refl _) (by simp)
                  have e0 : a.eval (.tmp 139) = (.pointer (some ⟨gP, 2, none⟩)) := eval_slot (j := 47) (by kernel_rfl) (hJ.valOf (by decide) (dep_of hdep 47 (by kernel_rfl)) rfl rfl)
                  have hx := hJ.keptBox (HP.out) (by simp)
                  have q0 : w'.cell? ⟨gP, 2, none⟩ = some (.int .i64 (pg : Nat)) := hx.cell 2
                  refine Step.val _ rfl rfl (wanted_some (g := 42) (b := true) rfl gd) (.int .i64 (pg : Nat)) w' (fun ρ hρ => ?_) (hJ.val hGS hcl hL rfl (Below.refl _ _) _ rfl)
                  clear hx
                  rw [hρ] at e0
                  clear hJ hsame hdep hcl hρ hsz hb gd
                  go_simp
                · intro L a w' hL hsame hsz hJ hdep hcl
                  have gd : valOf _ 42 a = .bool true := hJ.valOf (by decide) (dep_of hdep 42 (by kernel_rfl)) rfl rfl
                  have hb := hJ.kept.toBelow (Nat.le_refl _) (by simp)
                  have e0 : a.eval (.tmp 140) = (.int .i64 (pg : Nat)) := eval_slot (j := 48) (by kernel_rfl) (hJ.valOf (by decide) (dep_of hdep 48 (by kernel_rfl)) rfl rfl)
                  refine Step.val _ rfl rfl (wanted_some (g := 42) (b := true) rfl gd) (.int .i64 ((pg &&& 252 : Nat) : Int)) w' (fun ρ hρ => ?_) (hJ.val hGS hcl hL rfl (Below.refl _ _) _ rfl)
                  rw [hρ] at e0
                  have ec0 : ρ (.const (.int .i64 3)) = (.int .i64 3) := (hρ _).symm
                  clear hJ hsame hdep hcl hρ hsz hb gd
                  go_simp
                  exact i64_andNot_nat (y := 3) HPR.out.1 (by decide)
                · intro L a w' hL hsame hsz hJ hdep hcl
                  have gd : valOf _ 42 a = .bool true := hJ.valOf (by decide) (dep_of hdep 42 (by kernel_rfl)) rfl rfl
                  have hb := hJ.kept.toBelow (Nat.le_refl _) (by simp)
                  have e0 : a.eval (.tmp 138) = (.int .i64 ((pg &&& 252 : Nat) : Int)) := eval_slot (j := 46) (by kernel_rfl) (hJ.valOf (by decide) (dep_of hdep 46 (by kernel_rfl)) rfl rfl)
                  have e1 : a.eval (.tmp 141) = (.int .i64 ((pg &&& 252 : Nat) : Int)) := eval_slot (j := 49) (by kernel_rfl) (hJ.valOf (by decide) (dep_of hdep 49 (by kernel_rfl)) rfl rfl)
                  refine Step.val _ rfl rfl (wanted_some (g := 42) (b := true) rfl gd) (.bool true) w' (fun ρ hρ => ?_) (hJ.val hGS hcl hL rfl (Below.refl _ _) _ rfl)
                  rw [hρ] at e0 e1
                  clear hJ hsame hdep hcl hρ hsz hb gd
                  go_simp
                · intro L a w' hL hsame hsz hJ hdep hcl
                  have hb := hJ.kept.toBelow (Nat.le_refl _) (by simp)
                  have e0 : a.eval (.tmp 134) = (.bool true) := eval_slot (j := 42) (by kernel_rfl) (hJ.valOf (by decide) (dep_of hdep 42 (by kernel_rfl)) rfl rfl)
                  have e1 : a.eval (.tmp 142) = (.bool true) := eval_slot (j := 50) (by kernel_rfl) (hJ.valOf (by decide) (dep_of hdep 50 (by kernel_rfl)) rfl rfl)
                  refine Step.val _ rfl rfl (wanted_none rfl) (.bool true) w' (fun ρ hρ => ?_) (hJ.val hGS hcl hL rfl (Below.refl _ _) _ rfl)
                  rw [hρ] at e0 e1
                  have ec0 : ρ (.const (.bool false)) = (.bool false) := (hρ _).symm
                  clear hJ hsame hdep hcl hρ hsz hb
                  go_simp
                · intro L a w' hL hsame hsz hJ hdep hcl
                  have hb := hJ.kept.toBelow (Nat.le_refl _) (by simp)
                  have e0 : a.eval (.tmp 143) = (.bool true) := eval_slot (j := 51) (by kernel_rfl) (hJ.valOf (by decide) (dep_of hdep 51 (by kernel_rfl)) rfl rfl)
                  refine Step.val _ rfl rfl (wanted_none rfl) (.bool true) w' (fun ρ hρ => ?_) (hJ.val hGS hcl hL rfl (Below.refl _ _) _ rfl)
                  rw [hρ] at e0
                  clear hJ hsame hdep hcl hρ hsz hb
                  go_simp
                · intro L a w' hL hsame hsz hJ hdep hcl
                  have gd : valOf _ 52 a = .bool true := hJ.valOf (by decide) (dep_of hdep 52 (by kernel_rfl)) rfl rfl
                  have hb := hJ.kept.toBelow (Nat.le_refl _) (by simp)
                  refine Step.call _ rfl rfl (wanted_some (g := 52) (b := true) rfl gd) 3 #[] (fun ρ hρ => ?_) ?_
                  · skip
                    have ef : ρ (.func 3) = .func (.func 3) #[] #[] := (hρ _).symm
                    clear hJ hsame hdep hcl hρ hsz hb gd
                    go_simp
                  · refine (PRN.out _ (HT.out.keep (BW.out.trans (hJ.kept.toBelow BW.out.size (fun k hk => by simp at hk))))).mono ?_
                    rintro e w2 ⟨rfl, bb⟩
                    exact ⟨_, rfl, hJ.val hGS hcl hL rfl bb _ rfl⟩
                · intro L a w' hL hsame hsz hJ hdep hcl
                  have hb := hJ.kept.toBelow (Nat.le_refl _) (by simp)
                  have e0 : a.eval (.tmp 144) = (.bool true) := eval_slot (j := 52) (by kernel_rfl) (hJ.valOf (by decide) (dep_of hdep 52 (by kernel_rfl)) rfl rfl)
                  have e1 : a.eval (.tmp 145) = (.bool true) := eval_slot (j := 53) (by kernel_rfl) (hJ.valOf (by decide) (dep_of hdep 53 (by kernel_rfl)) rfl rfl)
                  refine Step.val _ rfl rfl (wanted_none rfl) (.bool true) w' (fun ρ hρ => ?_) (hJ.val hGS hcl hL rfl (Below.refl _ _) _ rfl)
                  rw [hρ] at e0 e1
                  have ec0 : ρ (.const (.bool false)) = (.bool false) := (hρ _).symm
                  clear hJ hsame hdep hcl hρ hsz hb
                  go_simp
                · intro L a w' hL hsame hsz hJ hdep hcl
                  have hb := hJ.kept.toBelow (Nat.le_refl _) (by simp)
                  have e0 : a.eval (.tmp 146) = (.bool true) := eval_slot (j := 54) (by kernel_rfl) (hJ.valOf (by decide) (dep_of hdep 54 (by kernel_rfl)) rfl rfl)
                  refine Step.val _ rfl rfl (wanted_none rfl) (.bool true) w' (fun ρ hρ => ?_) (hJ.val hGS hcl hL rfl (Below.refl _ _) _ rfl)
                  rw [hρ] at e0
                  clear hJ hsame hdep hcl hρ hsz hb
                  go_simp
                · intro u w' hF
                  change Exit.then _ _ Exit.normal (Act.put (Act.put (Act.put (Act.put (Act.put (Act.put (Act.put (Act.put (Act.put (Act.put (Act.put (Act.put (Act.put (Act.put (Act.put (Act.put (Act.put (Act.put (Act.put (Act.put (Act.put (Act.put (Act.put (Act.put (Act.put (Act.put (Act.put (Act.put (Act.put (Act.put (Act.put (Act.put (Act.put (Act.put (Act.put (Act.put (Act.put (Act.put (Act.put (Act.put (Act.put (Act.put (Act.put (Act.put (Act.put (Act.put (Act.put (Act.put (Act.put (Act.put (Act.put (Act.put (Act.put (Act.put (Act.put (Act.put (putAll _ u 0 _) (some 92) (u 0)) (some 93) (u 1)) (some 94) (u 2)) (some 95) (u 3)) (some 96) (u 4)) (some 97) (u 5)) (some 98) (u 6)) (some 99) (u 7)) (some 100) (u 8)) (some 101) (u 9)) (some 102) (u 10)) (some 103) (u 11)) (some 104) (u 12)) (some 105) (u 13)) (some 106) (u 14)) (some 107) (u 15)) (some 108) (u 16)) (some 109) (u 17)) (some 110) (u 18)) (some 111) (u 19)) (some 112) (u 20)) (some 113) (u 21)) (some 114) (u 22)) (some 115) (u 23)) (some 116) (u 24)) (some 117) (u 25)) (some 118) (u 26)) (some 119) (u 27)) (some 120) (u 28)) (some 121) (u 29)) (some 122) (u 30)) (some 123) (u 31)) (some 124) (u 32)) (some 125) (u 33)) (some 126) (u 34)) (some 127) (u 35)) (some 128) (u 36)) (some 129) (u 37)) (some 130) (u 38)) (some 131) (u 39)) (some 132) (u 40)) (some 133) (u 41)) (some 134) (u 42)) (some 135) (u 43)) (some 136) (u 44)) (some 137) (u 45)) (some 138) (u 46)) (some 139) (u 47)) (some 140) (u 48)) (some 141) (u 49)) (some 142) (u 50)) (some 143) (u 51)) (some 144) (u 52)) (some 145) (u 53)) (some 146) (u 54)) (some 8) (u 55)) _
                  simp only [putAll]
                  have f : u 55 = .bool true := hF.fin0 (j := 55) (by decide) rfl rfl
                  have hk := hF.kept.toBelow (Nat.le_refl _) (by simp)
                  clear hF
                  generalize u 0 = z0
                  generalize u 1 = z1
                  generalize u 2 = z2
                  generalize u 3 = z3
                  generalize u 4 = z4
                  generalize u 5 = z5
                  generalize u 6 = z6
                  generalize u 7 = z7
                  generalize u 8 = z8
                  generalize u 9 = z9
                  generalize u 10 = z10
                  generalize u 11 = z11
                  generalize u 12 = z12
                  generalize u 13 = z13
                  generalize u 14 = z14
                  generalize u 15 = z15
                  generalize u 16 = z16
                  generalize u 17 = z17
                  generalize u 18 = z18
                  generalize u 19 = z19
                  generalize u 20 = z20
                  generalize u 21 = z21
                  generalize u 22 = z22
                  generalize u 23 = z23
                  generalize u 24 = z24
                  generalize u 25 = z25
                  generalize u 26 = z26
                  generalize u 27 = z27
                  generalize u 28 = z28
                  generalize u 29 = z29
                  generalize u 30 = z30
                  generalize u 31 = z31
                  generalize u 32 = z32
                  generalize u 33 = z33
                  generalize u 34 = z34
                  generalize u 35 = z35
                  generalize u 36 = z36
                  generalize u 37 = z37
                  generalize u 38 = z38
                  generalize u 39 = z39
                  generalize u 40 = z40
                  generalize u 41 = z41
                  generalize u 42 = z42
                  generalize u 43 = z43
                  generalize u 44 = z44
                  generalize u 45 = z45
                  generalize u 46 = z46
                  generalize u 47 = z47
                  generalize u 48 = z48
                  generalize u 49 = z49
                  generalize u 50 = z50
                  generalize u 51 = z51
                  generalize u 52 = z52
                  generalize u 53 = z53
                  generalize u 54 = z54
                  generalize u 55 = z55 at f ⊢
                  go_simp
                  go_step
                  go_meet
                  exact ⟨by first | rfl | exact f, BW.out.trans (hk.mono BW.out.size)⟩
              · have hz0 : ((n : Int) == 0) = false := by simp; omega
                have hlne : l ≠ [] := fun e => h0 (by rw [← HL.out, e]; rfl)
                have AL := hide (fun (B : Nat) w' (h : Seen w' B A1 n (j64s l)) hft => papply_ok ⟨pf, pb, pg⟩ ⟨zf, zb, zg⟩ A1 n c1 B l (by rw [apply_cons hlne]; exact HZ.out) w' HPR.out.1 h (by omega) hnc (fun x hx => by have := hbd.out x hx; omega) hft)
                clear h0 hlne
                refine wp_region_gj (n := 147) [] (fun _ => #[]) [(0, 0, 0, 0, 0), (0, 0, 0, 0, 0), (0, 0, 0, 0, 0), (0, 0, 0, 0, 0), (0, 0, 0, 0, 0), (0, 0, 0, 0, 0), (0, 0, 0, 0, 0), (0, 0, 0, 0, 0), (0, 0, 0, 0, 0), (0, 0, 0, 0, 0), (0, 0, 0, 0, 0), (0, 0, 0, 0, 0), (0, 0, 0, 0, 0), (0, 0, 0, 0, 0), (0, 0, 0, 0, 0), (0, 0, 0, 0, 0), (0, 0, 0, 0, 0), (0, 0, 0, 0, 0), (0, 0, 0, 0, 0), (0, 0, 0, 0, 0), (0, 0, 0, 0, 0), (0, 0, 0, 0, 0), (0, 0, 0, 0, 0), (0, 0, 0, 0, 0), (0, 0, 0, 0, 0), (0, 0, 0, 0, 0), (0, 0, 0, 0, 0), (0, 0, 0, 0, 0), (0, 0, 0, 0, 0), (0, 0, 0, 0, 0), (1, 0, 0, 0, 0), (0, 0, 0, 0, 0), (0, 0, 0, 0, 0), (0, 0, 0, 0, 0), (0, 0, 0, 0, 0), (0, 0, 0, 0, 0), (0, 0, 0, 0, 0), (1, 0, 0, 0, 0), (0, 0, 0, 0, 0), (0, 0, 0, 0, 0), (0, 0, 0, 0, 0), (0, 0, 0, 0, 0), (0, 0, 0, 0, 0), (0, 0, 0, 0, 0), (1, 0, 0, 0, 0), (0, 0, 0, 0, 0), (0, 0, 0, 0, 0), (0, 0, 0, 0, 0), (0, 0, 0, 0, 0), (0, 0, 0, 0, 0), (0, 0, 0, 0, 0), (0, 0, 0, 0, 0), (0, 0, 0, 0, 0), (0, 0, 0, 0, 0), (0, 0, 0, 0, 0), (0, 0, 0, 0, 0)] (fun j => [(.slice A1 n c1), (.int .i64 (n : Nat)), (.bool false), (.bool false), (.agg #[.int .i64 pf, .int .i64 pb, .int .i64 (pg : Nat)]), (.slice A1 n c1), (.agg #[.int .i64 zf, .int .i64 zb, .int .i64 (zg : Nat)]), (.agg #[.int .i64 zf, .int .i64 zb, .int .i64 (zg : Nat)]), (.bool true), (.bool true), (.bool true), (.pointer (some ⟨gX, 2, none⟩)), (.int .i64 ((pg ||| fv : Nat) : Int)), (.pointer (some ⟨gP, 2, none⟩)), (.int .i64 (pg : Nat)), (.int .i64 (fv : Nat)), (.int .i64 ((pg ||| fv : Nat) : Int)), (.bool true), (.bool true), (.bool true), (.pointer (some ⟨gY, 2, none⟩)), (.int .i64 ((pg &&& (255 - fv) : Nat) : Int)), (.pointer (some ⟨gP, 2, none⟩)), (.int .i64 (pg : Nat)), (.int .i64 (fv : Nat)), (.int .i64 ((pg &&& (255 - fv) : Nat) : Int)), (.bool true), (.bool true), (.bool true), (.agg #[.int .i64 pf, .int .i64 pb, .int .i64 (pg : Nat)]), undef, (.agg #[.int .i64 (-1), .int .i64 pb, .int .i64 (pg : Nat)]), (.int .i64 (-1)), (.bool true), (.bool true), (.bool true), (.agg #[.int .i64 pf, .int .i64 pb, .int .i64 (pg : Nat)]), undef, (.agg #[.int .i64 12, .int .i64 pb, .int .i64 (pg : Nat)]), (.int .i64 12), (.bool true), (.bool true), (.bool true), (.agg #[.int .i64 pf, .int .i64 pb, .int .i64 (pg : Nat)]), undef, (.agg #[.int .i64 pf, .int .i64 pb, .int .i64 ((pg &&& 252 : Nat) : Int)]), (.int .i64 ((pg &&& 252 : Nat) : Int)), (.pointer (some ⟨gP, 2, none⟩)), (.int .i64 (pg : Nat)), (.int .i64 ((pg &&& 252 : Nat) : Int)), (.bool true), (.bool true), (.bool true), (.bool true), (.bool true), (.bool true)].getD j undef) [none, none, none, none, none, none, none, none, none, none, none, none, none, none, none, none, none, none, none, none, none, none, none, none, none, none, none, none, none, none, some (NewS 3 2 #[.int .i64 31, .int .i64 39]), none, none, none, none, none, none, some (NewS 3 2 #[.int .i64 31, .int .i64 94]), none, none, none, none, none, none, some (NewS 3 3 #[.int .i64 1, .int .i64 2, .int .i64 22])] (fun _ => 0) (by kernel_rfl) (by kernel_rfl) (by kernel_rfl) rfl (by kernel_rfl) (gno4 rfl) (fun i j h => by revert h; exact gno4 (p := fun _ => _) rfl i) (AllG.none_ (AllG.none_ (AllG.none_ (AllG.none_ (AllG.none_ (AllG.none_ (AllG.none_ (AllG.none_ (AllG.none_ (AllG.none_ (AllG.none_ (AllG.none_ (AllG.none_ (AllG.none_ (AllG.none_ (AllG.none_ (AllG.none_ (AllG.none_ (AllG.none_ (AllG.none_ (AllG.none_ (AllG.none_ (AllG.none_ (AllG.none_ (AllG.none_ (AllG.none_ (AllG.none_ (AllG.none_ (AllG.none_ (AllG.none_ (AllG.some_ (NewS.stays (by kernel_rfl)) (AllG.none_ (AllG.none_ (AllG.none_ (AllG.none_ (AllG.none_ (AllG.none_ (AllG.some_ (NewS.stays (by kernel_rfl)) (AllG.none_ (AllG.none_ (AllG.none_ (AllG.none_ (AllG.none_ (AllG.none_ (AllG.some_ (NewS.stays (by kernel_rfl)) (AllG.nil _)))))))))))))))))))))))))))))))))))))))))))))) (fun hGS => cases56 ⟨?_, ?_, ?_, ?_, ?_, ?_, ?_, ?_, ?_, ?_, ?_, ?_, ?_, ?_, ?_, ?_, ?_, ?_, ?_, ?_, ?_, ?_, ?_, ?_, ?_, ?_, ?_, ?_, ?_, ?_, ?_, ?_, ?_, ?_, ?_, ?_, ?_, ?_, ?_, ?_, ?_, ?_, ?_, ?_, ?_, ?_, ?_, ?_, ?_, ?_, ?_, ?_, ?_, ?_, ?_, ?_⟩) ?_
                · intro L a w' hL hsame hsz hJ hdep hcl
                  have hb := (hJ.kept.toBelow (B := nb) HN.out (fun k hk => by simp at hk))
                  have e0 : a.eval (.tmp 9) = (.slice A1 n c1) := eval_base hsame (by kernel_rfl)
                  refine Step.val _ rfl rfl (wanted_none rfl) (.slice A1 n c1) w' (fun ρ hρ => ?_) (hJ.val hGS hcl hL rfl (Below.refl _ _) _ rfl)
                  rw [hρ] at e0
                  clear hJ hsame hdep hcl hρ hsz hb
                  go_simp
                · intro L a w' hL hsame hsz hJ hdep hcl
                  have hb := (hJ.kept.toBelow (B := nb) HN.out (fun k hk => by simp at hk))
                  have e0 : a.eval (.tmp 92) = (.slice A1 n c1) := eval_slot (j := 0) (by kernel_rfl) (hJ.valOf (by decide) (dep_of hdep 0 (by kernel_rfl)) rfl rfl)
                  refine Step.val _ rfl rfl (wanted_none rfl) (.int .i64 (n : Nat)) w' (fun ρ hρ => ?_) (hJ.val hGS hcl hL rfl (Below.refl _ _) _ rfl)
                  rw [hρ] at e0
                  clear hJ hsame hdep hcl hρ hsz hb
                  go_simp
                · intro L a w' hL hsame hsz hJ hdep hcl
                  have hb := (hJ.kept.toBelow (B := nb) HN.out (fun k hk => by simp at hk))
                  have e0 : a.eval (.tmp 93) = (.int .i64 (n : Nat)) := eval_slot (j := 1) (by kernel_rfl) (hJ.valOf (by decide) (dep_of hdep 1 (by kernel_rfl)) rfl rfl)
                  refine Step.val _ rfl rfl (wanted_none rfl) (.bool false) w' (fun ρ hρ => ?_) (hJ.val hGS hcl hL rfl (Below.refl _ _) _ rfl)
                  rw [hρ] at e0
                  have ec0 : ρ (.const (.int .i64 0)) = (.int .i64 0) := (hρ _).symm
                  clear hJ hsame hdep hcl hρ hsz hb
                  go_simp
                  try omega
                · intro L a w' hL hsame hsz hJ hdep hcl
                  have hb := (hJ.kept.toBelow (B := nb) HN.out (fun k hk => by simp at hk))
                  have e0 : a.eval (.tmp 94) = (.bool false) := eval_slot (j := 2) (by kernel_rfl) (hJ.valOf (by decide) (dep_of hdep 2 (by kernel_rfl)) rfl rfl)
                  refine Step.val _ rfl rfl (wanted_none rfl) (.bool false) w' (fun ρ hρ => ?_) (hJ.val hGS hcl hL rfl (Below.refl _ _) _ rfl)
                  rw [hρ] at e0
                  clear hJ hsame hdep hcl hρ hsz hb
                  go_simp
                · intro L a w' hL hsame hsz hJ hdep hcl
                  have gd : valOf _ 3 a = .bool false := hJ.valOf (by decide) (dep_of hdep 3 (by kernel_rfl)) rfl rfl
                  have hb := (hJ.kept.toBelow (B := nb) HN.out (fun k hk => by simp at hk))
                  have e0 : a.eval (.tmp 13) = (.pointer (some ⟨gP, 0, none⟩)) := eval_base hsame (by kernel_rfl)
                  have hx := hJ.keptBox (HP.out) (by simp)
                  have q0 : w'.cell? ⟨gP, 0, none⟩ = some (.int .i64 pf) := hx.cell 0
                  have q1 : w'.cell? ⟨gP, 1, none⟩ = some (.int .i64 pb) := hx.cell 1
                  have q2 : w'.cell? ⟨gP, 2, none⟩ = some (.int .i64 (pg : Nat)) := hx.cell 2
                  refine Step.val _ rfl rfl (wanted_some (g := 3) (b := false) rfl gd) (.agg #[.int .i64 pf, .int .i64 pb, .int .i64 (pg : Nat)]) w' (fun ρ hρ => ?_) (hJ.val hGS hcl hL rfl (Below.refl _ _) _ rfl)
                  clear hx
                  rw [hρ] at e0
                  clear hJ hsame hdep hcl hρ hsz hb gd
                  go_simp
                · intro L a w' hL hsame hsz hJ hdep hcl
                  have gd : valOf _ 3 a = .bool false := hJ.valOf (by decide) (dep_of hdep 3 (by kernel_rfl)) rfl rfl
                  have hb := (hJ.kept.toBelow (B := nb) HN.out (fun k hk => by simp at hk))
                  have e0 : a.eval (.tmp 9) = (.slice A1 n c1) := eval_base hsame (by kernel_rfl)
                  refine Step.val _ rfl rfl (wanted_some (g := 3) (b := false) rfl gd) (.slice A1 n c1) w' (fun ρ hρ => ?_) (hJ.val hGS hcl hL rfl (Below.refl _ _) _ rfl)
                  rw [hρ] at e0
                  clear hJ hsame hdep hcl hρ hsz hb gd
                  go_simp
                · intro L a w' hL hsame hsz hJ hdep hcl
                  have gd : valOf _ 3 a = .bool false := hJ.valOf (by decide) (dep_of hdep 3 (by kernel_rfl)) rfl rfl
                  have hb := (hJ.kept.toBelow (B := nb) HN.out (fun k hk => by simp at hk))
                  have e0 : a.eval (.tmp 96) = (.agg #[.int .i64 pf, .int .i64 pb, .int .i64 (pg : Nat)]) := eval_slot (j := 4) (by kernel_rfl) (hJ.valOf (by decide) (dep_of hdep 4 (by kernel_rfl)) rfl rfl)
                  have e1 : a.eval (.tmp 97) = (.slice A1 n c1) := eval_slot (j := 5) (by kernel_rfl) (hJ.valOf (by decide) (dep_of hdep 5 (by kernel_rfl)) rfl rfl)
                  refine Step.call _ rfl rfl (wanted_some (g := 3) (b := false) rfl gd) 8 #[.agg #[.int .i64 pf, .int .i64 pb, .int .i64 (pg : Nat)], .slice A1 n c1] (fun ρ hρ => ?_) ?_
                  · skip
                    rw [hρ] at e0 e1
                    have ef : ρ (.func 8) = .func (.func 8) #[] #[] := (hρ _).symm
                    clear hJ hsame hdep hcl hρ hsz hb gd
                    go_simp
                  · refine (AL.out _ _ (SL.out.below hb) (HT.out.keep (BW.out.trans (hJ.kept.toBelow BW.out.size (fun k hk => by simp at hk))))).mono ?_
                    rintro e w2 ⟨rfl, bb⟩
                    exact ⟨_, rfl, hJ.val hGS hcl hL rfl bb _ rfl⟩
                · intro L a w' hL hsame hsz hJ hdep hcl
                  have gd : valOf _ 3 a = .bool false := hJ.valOf (by decide) (dep_of hdep 3 (by kernel_rfl)) rfl rfl
                  have hb := (hJ.kept.toBelow (B := nb) HN.out (fun k hk => by simp at hk))
                  have e0 : a.eval (.tmp 14) = (.pointer (some ⟨gQ, 0, none⟩)) := eval_base hsame (by kernel_rfl)
                  have hx := hJ.keptBox (HQ.out) (by simp)
                  have q0 : w'.cell? ⟨gQ, 0, none⟩ = some (.int .i64 zf) := hx.cell 0
                  have q1 : w'.cell? ⟨gQ, 1, none⟩ = some (.int .i64 zb) := hx.cell 1
                  have q2 : w'.cell? ⟨gQ, 2, none⟩ = some (.int .i64 (zg : Nat)) := hx.cell 2
                  refine Step.val _ rfl rfl (wanted_some (g := 3) (b := false) rfl gd) (.agg #[.int .i64 zf, .int .i64 zb, .int .i64 (zg : Nat)]) w' (fun ρ hρ => ?_) (hJ.val hGS hcl hL rfl (Below.refl _ _) _ rfl)
                  clear hx
                  rw [hρ] at e0
                  clear hJ hsame hdep hcl hρ hsz hb gd
                  go_simp
                · intro L a w' hL hsame hsz hJ hdep hcl
                  have gd : valOf _ 3 a = .bool false := hJ.valOf (by decide) (dep_of hdep 3 (by kernel_rfl)) rfl rfl
                  have hb := (hJ.kept.toBelow (B := nb) HN.out (fun k hk => by simp at hk))
                  have e0 : a.eval (.tmp 98) = (.agg #[.int .i64 zf, .int .i64 zb, .int .i64 (zg : Nat)]) := eval_slot (j := 6) (by kernel_rfl) (hJ.valOf (by decide) (dep_of hdep 6 (by kernel_rfl)) rfl rfl)
                  have e1 : a.eval (.tmp 99) = (.agg #[.int .i64 zf, .int .i64 zb, .int .i64 (zg : Nat)]) := eval_slot (j := 7) (by kernel_rfl) (hJ.valOf (by decide) (dep_of hdep 7 (by kernel_rfl)) rfl rfl)
                  refine Step.val _ rfl rfl (wanted_some (g := 3) (b := false) rfl gd) (.bool true) w' (fun ρ hρ => ?_) (hJ.val hGS hcl hL rfl (Below.refl _ _) _ rfl)
                  rw [hρ] at e0 e1
                  clear hJ hsame hdep hcl hρ hsz hb gd
                  go_simp
                · intro L a w' hL hsame hsz hJ hdep hcl
                  have hb := (hJ.kept.toBelow (B := nb) HN.out (fun k hk => by simp at hk))
                  have e0 : a.eval (.tmp 95) = (.bool false) := eval_slot (j := 3) (by kernel_rfl) (hJ.valOf (by decide) (dep_of hdep 3 (by kernel_rfl)) rfl rfl)
                  have e2 : a.eval (.tmp 100) = (.bool true) := eval_slot (j := 8) (by kernel_rfl) (hJ.valOf (by decide) (dep_of hdep 8 (by kernel_rfl)) rfl rfl)
                  refine Step.val _ rfl rfl (wanted_none rfl) (.bool true) w' (fun ρ hρ => ?_) (hJ.val hGS hcl hL rfl (Below.refl _ _) _ rfl)
                  rw [hρ] at e0 e2
                  have ec0 : ρ (.const (.bool true)) = (.bool true) := (hρ _).symm
                  clear hJ hsame hdep hcl hρ hsz hb
                  go_simp
                · intro L a w' hL hsame hsz hJ hdep hcl
                  have hb := (hJ.kept.toBelow (B := nb) HN.out (fun k hk => by simp at hk))
                  have e0 : a.eval (.tmp 101) = (.bool true) := eval_slot (j := 9) (by kernel_rfl) (hJ.valOf (by decide) (dep_of hdep 9 (by kernel_rfl)) rfl rfl)
                  refine Step.val _ rfl rfl (wanted_none rfl) (.bool true) w' (fun ρ hρ => ?_) (hJ.val hGS hcl hL rfl (Below.refl _ _) _ rfl)
                  rw [hρ] at e0
                  clear hJ hsame hdep hcl hρ hsz hb
                  go_simp
                · intro L a w' hL hsame hsz hJ hdep hcl
                  have gd : valOf _ 10 a = .bool true := hJ.valOf (by decide) (dep_of hdep 10 (by kernel_rfl)) rfl rfl
                  have hb := (hJ.kept.toBelow (B := nb) HN.out (fun k hk => by simp at hk))
                  have e0 : a.eval (.tmp 19) = (.pointer (some ⟨gX, 0, none⟩)) := eval_base hsame (by kernel_rfl)
                  refine Step.val _ rfl rfl (wanted_some (g := 10) (b := true) rfl gd) (.pointer (some ⟨gX, 2, none⟩)) w' (fun ρ hρ => ?_) (hJ.val hGS hcl hL rfl (Below.refl _ _) _ rfl)
                  rw [hρ] at e0
                  clear hJ hsame hdep hcl hρ hsz hb gd
                  go_simp
                · intro L a w' hL hsame hsz hJ hdep hcl
                  have gd : valOf _ 10 a = .bool true := hJ.valOf (by decide) (dep_of hdep 10 (by kernel_rfl)) rfl rfl
                  have hb := (hJ.kept.toBelow (B := nb) HN.out (fun k hk => by simp at hk))
                  have e0 : a.eval (.tmp 103) = (.pointer (some ⟨gX, 2, none⟩)) := eval_slot (j := 11) (by kernel_rfl) (hJ.valOf (by decide) (dep_of hdep 11 (by kernel_rfl)) rfl rfl)
                  have hx := hJ.keptBox (HX.out) (by simp)
                  have q0 : w'.cell? ⟨gX, 2, none⟩ = some (.int .i64 ((pg ||| fv : Nat) : Int)) := hx.cell 2
                  refine Step.val _ rfl rfl (wanted_some (g := 10) (b := true) rfl gd) (.int .i64 ((pg ||| fv : Nat) : Int)) w' (fun ρ hρ => ?_) (hJ.val hGS hcl hL rfl (Below.refl _ _) _ rfl)
                  clear hx
                  rw [hρ] at e0
                  clear hJ hsame hdep hcl hρ hsz hb gd
                  go_simp
                · intro L a w' hL hsame hsz hJ hdep hcl
                  have gd : valOf _ 10 a = .bool true := hJ.valOf (by decide) (dep_of hdep 10 (by kernel_rfl)) rfl rfl
                  have hb := (hJ.kept.toBelow (B := nb) HN.out (fun k hk => by simp at hk))
                  have e0 : a.eval (.tmp 13) = (.pointer (some ⟨gP, 0, none⟩)) := eval_base hsame (by kernel_rfl)
                  refine Step.val _ rfl rfl (wanted_some (g := 10) (b := true) rfl gd) (.pointer (some ⟨gP, 2, none⟩)) w' (fun ρ hρ => ?_) (hJ.val hGS hcl hL rfl (Below.refl _ _) _ rfl)
                  rw [hρ] at e0
                  clear hJ hsame hdep hcl hρ hsz hb gd
                  go_simp
                · intro L a w' hL hsame hsz hJ hdep hcl
                  have gd : valOf _ 10 a = .bool true := hJ.valOf (by decide) (dep_of hdep 10 (by kernel_rfl)) rfl rfl
                  have hb := (hJ.kept.toBelow (B := nb) HN.out (fun k hk => by simp at hk))
                  have e0 : a.eval (.tmp 105) = (.pointer (some ⟨gP, 2, none⟩)) := eval_slot (j := 13) (by kernel_rfl) (hJ.valOf (by decide) (dep_of hdep 13 (by kernel_rfl)) rfl rfl)
                  have hx := hJ.keptBox (HP.out) (by simp)
                  have q0 : w'.cell? ⟨gP, 2, none⟩ = some (.int .i64 (pg : Nat)) := hx.cell 2
                  refine Step.val _ rfl rfl (wanted_some (g := 10) (b := true) rfl gd) (.int .i64 (pg : Nat)) w' (fun ρ hρ => ?_) (hJ.val hGS hcl hL rfl (Below.refl _ _) _ rfl)
                  clear hx
                  rw [hρ] at e0
                  clear hJ hsame hdep hcl hρ hsz hb gd
                  go_simp
                · intro L a w' hL hsame hsz hJ hdep hcl
                  have gd : valOf _ 10 a = .bool true := hJ.valOf (by decide) (dep_of hdep 10 (by kernel_rfl)) rfl rfl
                  have hb := (hJ.kept.toBelow (B := nb) HN.out (fun k hk => by simp at hk))
                  have e0 : a.eval (.tmp 18) = (.int .i64 (fv : Nat)) := eval_base hsame (by kernel_rfl)
                  refine Step.val _ rfl rfl (wanted_some (g := 10) (b := true) rfl gd) (.int .i64 (fv : Nat)) w' (fun ρ hρ => ?_) (hJ.val hGS hcl hL rfl (Below.refl _ _) _ rfl)
                  rw [hρ] at e0
                  clear hJ hsame hdep hcl hρ hsz hb gd
                  go_simp
                · intro L a w' hL hsame hsz hJ hdep hcl
                  have gd : valOf _ 10 a = .bool true := hJ.valOf (by decide) (dep_of hdep 10 (by kernel_rfl)) rfl rfl
                  have hb := (hJ.kept.toBelow (B := nb) HN.out (fun k hk => by simp at hk))
                  have e0 : a.eval (.tmp 106) = (.int .i64 (pg : Nat)) := eval_slot (j := 14) (by kernel_rfl) (hJ.valOf (by decide) (dep_of hdep 14 (by kernel_rfl)) rfl rfl)
                  have e1 : a.eval (.tmp 107) = (.int .i64 (fv : Nat)) := eval_slot (j := 15) (by kernel_rfl) (hJ.valOf (by decide) (dep_of hdep 15 (by kernel_rfl)) rfl rfl)
                  refine Step.val _ rfl rfl (wanted_some (g := 10) (b := true) rfl gd) (.int .i64 ((pg ||| fv : Nat) : Int)) w' (fun ρ hρ => ?_) (hJ.val hGS hcl hL rfl (Below.refl _ _) _ rfl)
                  rw [hρ] at e0 e1
                  clear hJ hsame hdep hcl hρ hsz hb gd
                  go_simp
                  exact i64_or_small HPR.out.1 HFV.out
                · intro L a w' hL hsame hsz hJ hdep hcl
                  have gd : valOf _ 10 a = .bool true := hJ.valOf (by decide) (dep_of hdep 10 (by kernel_rfl)) rfl rfl
                  have hb := (hJ.kept.toBelow (B := nb) HN.out (fun k hk => by simp at hk))
                  have e0 : a.eval (.tmp 104) = (.int .i64 ((pg ||| fv : Nat) : Int)) := eval_slot (j := 12) (by kernel_rfl) (hJ.valOf (by decide) (dep_of hdep 12 (by kernel_rfl)) rfl rfl)
                  have e1 : a.eval (.tmp 108) = (.int .i64 ((pg ||| fv : Nat) : Int)) := eval_slot (j := 16) (by kernel_rfl) (hJ.valOf (by decide) (dep_of hdep 16 (by kernel_rfl)) rfl rfl)
                  refine Step.val _ rfl rfl (wanted_some (g := 10) (b := true) rfl gd) (.bool true) w' (fun ρ hρ => ?_) (hJ.val hGS hcl hL rfl (Below.refl _ _) _ rfl)
                  rw [hρ] at e0 e1
                  clear hJ hsame hdep hcl hρ hsz hb gd
                  go_simp
                · intro L a w' hL hsame hsz hJ hdep hcl
                  have hb := (hJ.kept.toBelow (B := nb) HN.out (fun k hk => by simp at hk))
                  have e0 : a.eval (.tmp 102) = (.bool true) := eval_slot (j := 10) (by kernel_rfl) (hJ.valOf (by decide) (dep_of hdep 10 (by kernel_rfl)) rfl rfl)
                  have e1 : a.eval (.tmp 109) = (.bool true) := eval_slot (j := 17) (by kernel_rfl) (hJ.valOf (by decide) (dep_of hdep 17 (by kernel_rfl)) rfl rfl)
                  refine Step.val _ rfl rfl (wanted_none rfl) (.bool true) w' (fun ρ hρ => ?_) (hJ.val hGS hcl hL rfl (Below.refl _ _) _ rfl)
                  rw [hρ] at e0 e1
                  have ec0 : ρ (.const (.bool false)) = (.bool false) := (hρ _).symm
                  clear hJ hsame hdep hcl hρ hsz hb
                  go_simp
                · intro L a w' hL hsame hsz hJ hdep hcl
                  have hb := (hJ.kept.toBelow (B := nb) HN.out (fun k hk => by simp at hk))
                  have e0 : a.eval (.tmp 110) = (.bool true) := eval_slot (j := 18) (by kernel_rfl) (hJ.valOf (by decide) (dep_of hdep 18 (by kernel_rfl)) rfl rfl)
                  refine Step.val _ rfl rfl (wanted_none rfl) (.bool true) w' (fun ρ hρ => ?_) (hJ.val hGS hcl hL rfl (Below.refl _ _) _ rfl)
                  rw [hρ] at e0
                  clear hJ hsame hdep hcl hρ hsz hb
                  go_simp
                · intro L a w' hL hsame hsz hJ hdep hcl
                  have gd : valOf _ 19 a = .bool true := hJ.valOf (by decide) (dep_of hdep 19 (by kernel_rfl)) rfl rfl
                  have hb := (hJ.kept.toBelow (B := nb) HN.out (fun k hk => by simp at hk))
                  have e0 : a.eval (.tmp 20) = (.pointer (some ⟨gY, 0, none⟩)) := eval_base hsame (by kernel_rfl)
                  refine Step.val _ rfl rfl (wanted_some (g := 19) (b := true) rfl gd) (.pointer (some ⟨gY, 2, none⟩)) w' (fun ρ hρ => ?_) (hJ.val hGS hcl hL rfl (Below.refl _ _) _ rfl)
                  rw [hρ] at e0
                  clear hJ hsame hdep hcl hρ hsz hb gd
                  go_simp
                · intro L a w' hL hsame hsz hJ hdep hcl
                  have gd : valOf _ 19 a = .bool true := hJ.valOf (by decide) (dep_of hdep 19 (by kernel_rfl)) rfl rfl
                  have hb := (hJ.kept.toBelow (B := nb) HN.out (fun k hk => by simp at hk))
                  have e0 : a.eval (.tmp 112) = (.pointer (some ⟨gY, 2, none⟩)) := eval_slot (j := 20) (by kernel_rfl) (hJ.valOf (by decide) (dep_of hdep 20 (by kernel_rfl)) rfl rfl)
                  have hx := hJ.keptBox (HYY.out) (by simp)
                  have q0 : w'.cell? ⟨gY, 2, none⟩ = some (.int .i64 ((pg &&& (255 - fv) : Nat) : Int)) := hx.cell 2
                  refine Step.val _ rfl rfl (wanted_some (g := 19) (b := true) rfl gd) (.int .i64 ((pg &&& (255 - fv) : Nat) : Int)) w' (fun ρ hρ => ?_) (hJ.val hGS hcl hL rfl (Below.refl _ _) _ rfl)
                  clear hx
                  rw [hρ] at e0
                  clear hJ hsame hdep hcl hρ hsz hb gd
                  go_simp
                · intro L a w' hL hsame hsz hJ hdep hcl
                  have gd : valOf _ 19 a = .bool true := hJ.valOf (by decide) (dep_of hdep 19 (by kernel_rfl)) rfl rfl
                  have hb := (hJ.kept.toBelow (B := nb) HN.out (fun k hk => by simp at hk))
                  have e0 : a.eval (.tmp 13) = (.pointer (some ⟨gP, 0, none⟩)) := eval_base hsame (by kernel_rfl)
                  refine Step.val _ rfl rfl (wanted_some (g := 19) (b := true) rfl gd) (.pointer (some ⟨gP, 2, none⟩)) w' (fun ρ hρ => ?_) (hJ.val hGS hcl hL rfl (Below.refl _ _) _ rfl)
                  rw [hρ] at e0
                  clear hJ hsame hdep hcl hρ hsz hb gd
                  go_simp
                · intro L a w' hL hsame hsz hJ hdep hcl
                  have gd : valOf _ 19 a = .bool true := hJ.valOf (by decide) (dep_of hdep 19 (by kernel_rfl)) rfl rfl
                  have hb := (hJ.kept.toBelow (B := nb) HN.out (fun k hk => by simp at hk))
                  have e0 : a.eval (.tmp 114) = (.pointer (some ⟨gP, 2, none⟩)) := eval_slot (j := 22) (by kernel_rfl) (hJ.valOf (by decide) (dep_of hdep 22 (by kernel_rfl)) rfl rfl)
                  have hx := hJ.keptBox (HP.out) (by simp)
                  have q0 : w'.cell? ⟨gP, 2, none⟩ = some (.int .i64 (pg : Nat)) := hx.cell 2
                  refine Step.val _ rfl rfl (wanted_some (g := 19) (b := true) rfl gd) (.int .i64 (pg : Nat)) w' (fun ρ hρ => ?_) (hJ.val hGS hcl hL rfl (Below.refl _ _) _ rfl)
                  clear hx
                  rw [hρ] at e0
                  clear hJ hsame hdep hcl hρ hsz hb gd
                  go_simp
                · intro L a w' hL hsame hsz hJ hdep hcl
                  have gd : valOf _ 19 a = .bool true := hJ.valOf (by decide) (dep_of hdep 19 (by kernel_rfl)) rfl rfl
                  have hb := (hJ.kept.toBelow (B := nb) HN.out (fun k hk => by simp at hk))
                  have e0 : a.eval (.tmp 18) = (.int .i64 (fv : Nat)) := eval_base hsame (by kernel_rfl)
                  refine Step.val _ rfl rfl (wanted_some (g := 19) (b := true) rfl gd) (.int .i64 (fv : Nat)) w' (fun ρ hρ => ?_) (hJ.val hGS hcl hL rfl (Below.refl _ _) _ rfl)
                  rw [hρ] at e0
                  clear hJ hsame hdep hcl hρ hsz hb gd
                  go_simp
                · intro L a w' hL hsame hsz hJ hdep hcl
                  have gd : valOf _ 19 a = .bool true := hJ.valOf (by decide) (dep_of hdep 19 (by kernel_rfl)) rfl rfl
                  have hb := (hJ.kept.toBelow (B := nb) HN.out (fun k hk => by simp at hk))
                  have e0 : a.eval (.tmp 115) = (.int .i64 (pg : Nat)) := eval_slot (j := 23) (by kernel_rfl) (hJ.valOf (by decide) (dep_of hdep 23 (by kernel_rfl)) rfl rfl)
                  have e1 : a.eval (.tmp 116) = (.int .i64 (fv : Nat)) := eval_slot (j := 24) (by kernel_rfl) (hJ.valOf (by decide) (dep_of hdep 24 (by kernel_rfl)) rfl rfl)
                  refine Step.val _ rfl rfl (wanted_some (g := 19) (b := true) rfl gd) (.int .i64 ((pg &&& (255 - fv) : Nat) : Int)) w' (fun ρ hρ => ?_) (hJ.val hGS hcl hL rfl (Below.refl _ _) _ rfl)
                  rw [hρ] at e0 e1
                  clear hJ hsame hdep hcl hρ hsz hb gd
                  go_simp
                  exact i64_andNot_nat HPR.out.1 HFV.out
                · intro L a w' hL hsame hsz hJ hdep hcl
                  have gd : valOf _ 19 a = .bool true := hJ.valOf (by decide) (dep_of hdep 19 (by kernel_rfl)) rfl rfl
                  have hb := (hJ.kept.toBelow (B := nb) HN.out (fun k hk => by simp at hk))
                  have e0 : a.eval (.tmp 113) = (.int .i64 ((pg &&& (255 - fv) : Nat) : Int)) := eval_slot (j := 21) (by kernel_rfl) (hJ.valOf (by decide) (dep_of hdep 21 (by kernel_rfl)) rfl rfl)
                  have e1 : a.eval (.tmp 117) = (.int .i64 ((pg &&& (255 - fv) : Nat) : Int)) := eval_slot (j := 25) (by kernel_rfl) (hJ.valOf (by decide) (dep_of hdep 25 (by kernel_rfl)) rfl rfl)
                  refine Step.val _ rfl rfl (wanted_some (g := 19) (b := true) rfl gd) (.bool true) w' (fun ρ hρ => ?_) (hJ.val hGS hcl hL rfl (Below.refl _ _) _ rfl)
                  rw [hρ] at e0 e1
                  clear hJ hsame hdep hcl hρ hsz hb gd
                  go_simp
                · intro L a w' hL hsame hsz hJ hdep hcl
                  have hb := (hJ.kept.toBelow (B := nb) HN.out (fun k hk => by simp at hk))
                  have e0 : a.eval (.tmp 111) = (.bool true) := eval_slot (j := 19) (by kernel_rfl) (hJ.valOf (by decide) (dep_of hdep 19 (by kernel_rfl)) rfl rfl)
                  have e1 : a.eval (.tmp 118) = (.bool true) := eval_slot (j := 26) (by kernel_rfl) (hJ.valOf (by decide) (dep_of hdep 26 (by kernel_rfl)) rfl rfl)
                  refine Step.val _ rfl rfl (wanted_none rfl) (.bool true) w' (fun ρ hρ => ?_) (hJ.val hGS hcl hL rfl (Below.refl _ _) _ rfl)
                  rw [hρ] at e0 e1
                  have ec0 : ρ (.const (.bool false)) = (.bool false) := (hρ _).symm
                  clear hJ hsame hdep hcl hρ hsz hb
                  go_simp
                · intro L a w' hL hsame hsz hJ hdep hcl
                  have hb := (hJ.kept.toBelow (B := nb) HN.out (fun k hk => by simp at hk))
                  have e0 : a.eval (.tmp 119) = (.bool true) := eval_slot (j := 27) (by kernel_rfl) (hJ.valOf (by decide) (dep_of hdep 27 (by kernel_rfl)) rfl rfl)
                  refine Step.val _ rfl rfl (wanted_none rfl) (.bool true) w' (fun ρ hρ => ?_) (hJ.val hGS hcl hL rfl (Below.refl _ _) _ rfl)
                  rw [hρ] at e0
                  clear hJ hsame hdep hcl hρ hsz hb
                  go_simp
                · intro L a w' hL hsame hsz hJ hdep hcl
                  have gd : valOf _ 28 a = .bool true := hJ.valOf (by decide) (dep_of hdep 28 (by kernel_rfl)) rfl rfl
                  have hb := (hJ.kept.toBelow (B := nb) HN.out (fun k hk => by simp at hk))
                  have e0 : a.eval (.tmp 13) = (.pointer (some ⟨gP, 0, none⟩)) := eval_base hsame (by kernel_rfl)
                  have hx := hJ.keptBox (HP.out) (by simp)
                  have q0 : w'.cell? ⟨gP, 0, none⟩ = some (.int .i64 pf) := hx.cell 0
                  have q1 : w'.cell? ⟨gP, 1, none⟩ = some (.int .i64 pb) := hx.cell 1
                  have q2 : w'.cell? ⟨gP, 2, none⟩ = some (.int .i64 (pg : Nat)) := hx.cell 2
                  refine Step.val _ rfl rfl (wanted_some (g := 28) (b := true) rfl gd) (.agg #[.int .i64 pf, .int .i64 pb, .int .i64 (pg : Nat)]) w' (fun ρ hρ => ?_) (hJ.val hGS hcl hL rfl (Below.refl _ _) _ rfl)
                  clear hx
                  rw [hρ] at e0
                  clear hJ hsame hdep hcl hρ hsz hb gd
                  go_simp
                · intro L a w' hL hsame hsz hJ hdep hcl
                  have gd : valOf _ 28 a = .bool true := hJ.valOf (by decide) (dep_of hdep 28 (by kernel_rfl)) rfl rfl
                  have hb := (hJ.kept.toBelow (B := nb) HN.out (fun k hk => by simp at hk))
                  refine Step.val _ rfl rfl (wanted_some (g := 28) (b := true) rfl gd) (.slice (some ⟨w'.heap.size, 0, none⟩) 2 2) (w'.alloc (.cells #[.int .i64 31, .int .i64 39] 3)) (fun ρ hρ => ?_) (hJ.pred hGS hcl hL rfl ((Below.refl _ _).alloc (Nat.le_refl _) _) _ (⟨_, rfl, Box.new w' _ _⟩))
                  have ec0 : ρ (.const (.int .i64 31)) = (.int .i64 31) := (hρ _).symm
                  have ec1 : ρ (.const (.int .i64 39)) = (.int .i64 39) := (hρ _).symm
                  clear hJ hsame hdep hcl hρ hsz hb gd
                  go_simp
                · intro L a w' hL hsame hsz hJ hdep hcl
                  have gd : valOf _ 28 a = .bool true := hJ.valOf (by decide) (dep_of hdep 28 (by kernel_rfl)) rfl rfl
                  have hb := (hJ.kept.toBelow (B := nb) HN.out (fun k hk => by simp at hk))
                  have e0 : a.eval (.tmp 121) = (.agg #[.int .i64 pf, .int .i64 pb, .int .i64 (pg : Nat)]) := eval_slot (j := 29) (by kernel_rfl) (hJ.valOf (by decide) (dep_of hdep 29 (by kernel_rfl)) rfl rfl)
                  obtain ⟨g30, hv30, hs30⟩ := (show (NewS 3 2 #[.int .i64 31, .int .i64 39]) (valOf _ 30 a) w' from hJ.predOf (by decide) (dep_of hdep 30 (by kernel_rfl)) rfl)
                  have e1 : a.eval (.tmp 122) = .slice (some ⟨g30, 0, none⟩) 2 2 := eval_slot (j := 30) (by kernel_rfl) hv30
                  refine Step.call _ rfl rfl (wanted_some (g := 28) (b := true) rfl gd) 8 #[.agg #[.int .i64 pf, .int .i64 pb, .int .i64 (pg : Nat)], .slice (some ⟨g30, 0, none⟩) 2 2] (fun ρ hρ => ?_) ?_
                  · skip
                    rw [hρ] at e0 e1
                    have ef : ρ (.func 8) = .func (.func 8) #[] #[] := (hρ _).symm
                    clear hJ hsame hdep hcl hρ hsz hb gd
                    go_simp
                  · refine (B1.out g30 _ hs30 (HT.out.keep (BW.out.trans (hJ.kept.toBelow BW.out.size (fun k hk => by simp at hk))))).mono ?_
                    rintro e w2 ⟨rfl, bb⟩
                    exact ⟨_, rfl, hJ.val hGS hcl hL rfl bb _ rfl⟩
                · intro L a w' hL hsame hsz hJ hdep hcl
                  have gd : valOf _ 28 a = .bool true := hJ.valOf (by decide) (dep_of hdep 28 (by kernel_rfl)) rfl rfl
                  have hb := (hJ.kept.toBelow (B := nb) HN.out (fun k hk => by simp at hk))
                  have e0 : a.eval (.tmp 123) = (.agg #[.int .i64 (-1), .int .i64 pb, .int .i64 (pg : Nat)]) := eval_slot (j := 31) (by kernel_rfl) (hJ.valOf (by decide) (dep_of hdep 31 (by kernel_rfl)) rfl rfl)
                  refine Step.val _ rfl rfl (wanted_some (g := 28) (b := true) rfl gd) (.int .i64 (-1)) w' (fun ρ hρ => ?_) (hJ.val hGS hcl hL rfl (Below.refl _ _) _ rfl)
                  rw [hρ] at e0
                  clear hJ hsame hdep hcl hρ hsz hb gd
                  go_simp
                · intro L a w' hL hsame hsz hJ hdep hcl
                  have gd : valOf _ 28 a = .bool true := hJ.valOf (by decide) (dep_of hdep 28 (by kernel_rfl)) rfl rfl
                  have hb := (hJ.kept.toBelow (B := nb) HN.out (fun k hk => by simp at hk))
                  have e0 : a.eval (.tmp 124) = (.int .i64 (-1)) := eval_slot (j := 32) (by kernel_rfl) (hJ.valOf (by decide) (dep_of hdep 32 (by kernel_rfl)) rfl rfl)
                  refine Step.val _ rfl rfl (wanted_some (g := 28) (b := true) rfl gd) (.bool true) w' (fun ρ hρ => ?_) (hJ.val hGS hcl hL rfl (Below.refl _ _) _ rfl)
                  rw [hρ] at e0
                  have ec0 : ρ (.const (.int .i64 (-1))) = (.int .i64 (-1)) := (hρ _).symm
                  clear hJ hsame hdep hcl hρ hsz hb gd
                  go_simp
                · intro L a w' hL hsame hsz hJ hdep hcl
                  have hb := (hJ.kept.toBelow (B := nb) HN.out (fun k hk => by simp at hk))
                  have e0 : a.eval (.tmp 120) = (.bool true) := eval_slot (j := 28) (by kernel_rfl) (hJ.valOf (by decide) (dep_of hdep 28 (by kernel_rfl)) rfl rfl)
                  have e1 : a.eval (.tmp 125) = (.bool true) := eval_slot (j := 33) (by kernel_rfl) (hJ.valOf (by decide) (dep_of hdep 33 (by kernel_rfl)) rfl rfl)
                  refine Step.val _ rfl rfl (wanted_none rfl) (.bool true) w' (fun ρ hρ => ?_) (hJ.val hGS hcl hL rfl (Below.refl _ _) _ rfl)
                  rw [hρ] at e0 e1
                  have ec0 : ρ (.const (.bool false)) = (.bool false) := (hρ _).symm
                  clear hJ hsame hdep hcl hρ hsz hb
                  go_simp
                · intro L a w' hL hsame hsz hJ hdep hcl
                  have hb := (hJ.kept.toBelow (B := nb) HN.out (fun k hk => by simp at hk))
                  have e0 : a.eval (.tmp 126) = (.bool true) := eval_slot (j := 34) (by kernel_rfl) (hJ.valOf (by decide) (dep_of hdep 34 (by kernel_rfl)) rfl rfl)
                  refine Step.val _ rfl rfl (wanted_none rfl) (.bool true) w' (fun ρ hρ => ?_) (hJ.val hGS hcl hL rfl (Below.refl _ _) _ rfl)
                  rw [hρ] at e0
                  clear hJ hsame hdep hcl hρ hsz hb
                  go_simp
                · intro L a w' hL hsame hsz hJ hdep hcl
                  have gd : valOf _ 35 a = .bool true := hJ.valOf (by decide) (dep_of hdep 35 (by kernel_rfl)) rfl rfl
                  have hb := (hJ.kept.toBelow (B := nb) HN.out (fun k hk => by simp at hk))
                  have e0 : a.eval (.tmp 13) = (.pointer (some ⟨gP, 0, none⟩)) := eval_base hsame (by kernel_rfl)
                  have hx := hJ.keptBox (HP.out) (by simp)
                  have q0 : w'.cell? ⟨gP, 0, none⟩ = some (.int .i64 pf) := hx.cell 0
                  have q1 : w'.cell? ⟨gP, 1, none⟩ = some (.int .i64 pb) := hx.cell 1
                  have q2 : w'.cell? ⟨gP, 2, none⟩ = some (.int .i64 (pg : Nat)) := hx.cell 2
                  refine Step.val _ rfl rfl (wanted_some (g := 35) (b := true) rfl gd) (.agg #[.int .i64 pf, .int .i64 pb, .int .i64 (pg : Nat)]) w' (fun ρ hρ => ?_) (hJ.val hGS hcl hL rfl (Below.refl _ _) _ rfl)
                  clear hx
                  rw [hρ] at e0
                  clear hJ hsame hdep hcl hρ hsz hb gd
                  go_simp
                · intro L a w' hL hsame hsz hJ hdep hcl
                  have gd : valOf _ 35 a = .bool true := hJ.valOf (by decide) (dep_of hdep 35 (by kernel_rfl)) rfl rfl
                  have hb := (hJ.kept.toBelow (B := nb) HN.out (fun k hk => by simp at hk))
                  refine Step.val _ rfl rfl (wanted_some (g := 35) (b := true) rfl gd) (.slice (some ⟨w'.heap.size, 0, none⟩) 2 2) (w'.alloc (.cells #[.int .i64 31, .int .i64 94] 3)) (fun ρ hρ => ?_) (hJ.pred hGS hcl hL rfl ((Below.refl _ _).alloc (Nat.le_refl _) _) _ (⟨_, rfl, Box.new w' _ _⟩))
                  have ec0 : ρ (.const (.int .i64 31)) = (.int .i64 31) := (hρ _).symm
                  have ec1 : ρ (.const (.int .i64 94)) = (.int .i64 94) := (hρ _).symm
                  clear hJ hsame hdep hcl hρ hsz hb gd
                  go_simp
                · intro L a w' hL hsame hsz hJ hdep hcl
                  have gd : valOf _ 35 a = .bool true := hJ.valOf (by decide) (dep_of hdep 35 (by kernel_rfl)) rfl rfl
                  have hb := (hJ.kept.toBelow (B := nb) HN.out (fun k hk => by simp at hk))
                  have e0 : a.eval (.tmp 128) = (.agg #[.int .i64 pf, .int .i64 pb, .int .i64 (pg : Nat)]) := eval_slot (j := 36) (by kernel_rfl) (hJ.valOf (by decide) (dep_of hdep 36 (by kernel_rfl)) rfl rfl)
                  obtain ⟨g37, hv37, hs37⟩ := (show (NewS 3 2 #[.int .i64 31, .int .i64 94]) (valOf _ 37 a) w' from hJ.predOf (by decide) (dep_of hdep 37 (by kernel_rfl)) rfl)
                  have e1 : a.eval (.tmp 129) = .slice (some ⟨g37, 0, none⟩) 2 2 := eval_slot (j := 37) (by kernel_rfl) hv37
                  refine Step.call _ rfl rfl (wanted_some (g := 35) (b := true) rfl gd) 8 #[.agg #[.int .i64 pf, .int .i64 pb, .int .i64 (pg : Nat)], .slice (some ⟨g37, 0, none⟩) 2 2] (fun ρ hρ => ?_) ?_
                  · skip
                    rw [hρ] at e0 e1
                    have ef : ρ (.func 8) = .func (.func 8) #[] #[] := (hρ _).symm
                    clear hJ hsame hdep hcl hρ hsz hb gd
                    go_simp
                  · refine (B2.out g37 _ hs37 (HT.out.keep (BW.out.trans (hJ.kept.toBelow BW.out.size (fun k hk => by simp at hk))))).mono ?_
                    rintro e w2 ⟨rfl, bb⟩
                    exact ⟨_, rfl, hJ.val hGS hcl hL rfl bb _ rfl⟩
                · intro L a w' hL hsame hsz hJ hdep hcl
                  have gd : valOf _ 35 a = .bool true := hJ.valOf (by decide) (dep_of hdep 35 (by kernel_rfl)) rfl rfl
                  have hb := (hJ.kept.toBelow (B := nb) HN.out (fun k hk => by simp at hk))
                  have e0 : a.eval (.tmp 130) = (.agg #[.int .i64 12, .int .i64 pb, .int .i64 (pg : Nat)]) := eval_slot (j := 38) (by kernel_rfl) (hJ.valOf (by decide) (dep_of hdep 38 (by kernel_rfl)) rfl rfl)
                  refine Step.val _ rfl rfl (wanted_some (g := 35) (b := true) rfl gd) (.int .i64 12) w' (fun ρ hρ => ?_) (hJ.val hGS hcl hL rfl (Below.refl _ _) _ rfl)
                  rw [hρ] at e0
                  clear hJ hsame hdep hcl hρ hsz hb gd
                  go_simp
                · intro L a w' hL hsame hsz hJ hdep hcl
                  have gd : valOf _ 35 a = .bool true := hJ.valOf (by decide) (dep_of hdep 35 (by kernel_rfl)) rfl rfl
                  have hb := (hJ.kept.toBelow (B := nb) HN.out (fun k hk => by simp at hk))
                  have e0 : a.eval (.tmp 131) = (.int .i64 12) := eval_slot (j := 39) (by kernel_rfl) (hJ.valOf (by decide) (dep_of hdep 39 (by kernel_rfl)) rfl rfl)
                  refine Step.val _ rfl rfl (wanted_some (g := 35) (b := true) rfl gd) (.bool true) w' (fun ρ hρ => ?_) (hJ.val hGS hcl hL rfl (Below.refl _ _) _ rfl)
                  rw [hρ] at e0
                  have ec0 : ρ (.const (.int .i64 12)) = (.int .i64 12) := (hρ _).symm
                  clear hJ hsame hdep hcl hρ hsz hb gd
                  go_simp
                · intro L a w' hL hsame hsz hJ hdep hcl
                  have hb := (hJ.kept.toBelow (B := nb) HN.out (fun k hk => by simp at hk))
                  have e0 : a.eval (.tmp 127) = (.bool true) := eval_slot (j := 35) (by kernel_rfl) (hJ.valOf (by decide) (dep_of hdep 35 (by kernel_rfl)) rfl rfl)
                  have e1 : a.eval (.tmp 132) = (.bool true) := eval_slot (j := 40) (by kernel_rfl) (hJ.valOf (by decide) (dep_of hdep 40 (by kernel_rfl)) rfl rfl)
                  refine Step.val _ rfl rfl (wanted_none rfl) (.bool true) w' (fun ρ hρ => ?_) (hJ.val hGS hcl hL rfl (Below.refl _ _) _ rfl)
                  rw [hρ] at e0 e1
                  have ec0 : ρ (.const (.bool false)) = (.bool false) := (hρ _).symm
                  clear hJ hsame hdep hcl hρ hsz hb
                  go_simp
                · intro L a w' hL hsame hsz hJ hdep hcl
                  have hb := (hJ.kept.toBelow (B := nb) HN.out (fun k hk => by simp at hk))
                  have e0 : a.eval (.tmp 133) = (.bool true) := eval_slot (j := 41) (by kernel_rfl) (hJ.valOf (by decide) (dep_of hdep 41 (by kernel_rfl)) rfl rfl)
                  refine Step.val _ rfl rfl (wanted_none rfl) (.bool true) w' (fun ρ hρ => ?_) (hJ.val hGS hcl hL rfl (Below.refl _ _) _ rfl)
                  rw [hρ] at e0
                  clear hJ hsame hdep hcl hρ hsz hb
                  go_simp
                · intro L a w' hL hsame hsz hJ hdep hcl
                  have gd : valOf _ 42 a = .bool true := hJ.valOf (by decide) (dep_of hdep 42 (by kernel_rfl)) rfl rfl
                  have hb := (hJ.kept.toBelow (B := nb) HN.out (fun k hk => by simp at hk))
                  have e0 : a.eval (.tmp 13) = (.pointer (some ⟨gP, 0, none⟩)) := eval_base hsame (by kernel_rfl)
                  have hx := hJ.keptBox (HP.out) (by simp)
                  have q0 : w'.cell? ⟨gP, 0, none⟩ = some (.int .i64 pf) := hx.cell 0
                  have q1 : w'.cell? ⟨gP, 1, none⟩ = some (.int .i64 pb) := hx.cell 1
                  have q2 : w'.cell? ⟨gP, 2, none⟩ = some (.int .i64 (pg : Nat)) := hx.cell 2
                  refine Step.val _ rfl rfl (wanted_some (g := 42) (b := true) rfl gd) (.agg #[.int .i64 pf, .int .i64 pb, .int .i64 (pg : Nat)]) w' (fun ρ hρ => ?_) (hJ.val hGS hcl hL rfl (Below.refl _ _) _ rfl)
                  clear hx
                  rw [hρ] at e0
                  clear hJ hsame hdep hcl hρ hsz hb gd
                  go_simp
                · intro L a w' hL hsame hsz hJ hdep hcl
                  have gd : valOf _ 42 a = .bool true := hJ.valOf (by decide) (dep_of hdep 42 (by kernel_rfl)) rfl rfl
                  have hb := (hJ.kept.toBelow (B := nb) HN.out (fun k hk => by simp at hk))
                  refine Step.val _ rfl rfl (wanted_some (g := 42) (b := true) rfl gd) (.slice (some ⟨w'.heap.size, 0, none⟩) 3 3) (w'.alloc (.cells #[.int .i64 1, .int .i64 2, .int .i64 22] 3)) (fun ρ hρ => ?_) (hJ.pred hGS hcl hL rfl ((Below.refl _ _).alloc (Nat.le_refl _) _) _ (⟨_, rfl, Box.new w' _ _⟩))
                  have ec0 : ρ (.const (.int .i64 1)) = (.int .i64 1) := (hρ _).symm
                  have ec1 : ρ (.const (.int .i64 2)) = (.int .i64 2) := (hρ _).symm
                  have ec2 : ρ (.const (.int .i64 22)) = (.int .i64 22) := (hρ _).symm
                  clear hJ hsame hdep hcl hρ hsz hb gd
                  go_simp
                · intro L a w' hL hsame hsz hJ hdep hcl
                  have gd : valOf _ 42 a = .bool true := hJ.valOf (by decide) (dep_of hdep 42 (by kernel_rfl)) rfl rfl
                  have hb := (hJ.kept.toBelow (B := nb) HN.out (fun k hk => by simp at hk))
                  have e0 : a.eval (.tmp 135) = (.agg #[.int .i64 pf, .int .i64 pb, .int .i64 (pg : Nat)]) := eval_slot (j := 43) (by kernel_rfl) (hJ.valOf (by decide) (dep_of hdep 43 (by kernel_rfl)) rfl rfl)
                  obtain ⟨g44, hv44, hs44⟩ := (show (NewS 3 3 #[.int .i64 1, .int .i64 2, .int .i64 22]) (valOf _ 44 a) w' from hJ.predOf (by decide) (dep_of hdep 44 (by kernel_rfl)) rfl)
                  have e1 : a.eval (.tmp 136) = .slice (some ⟨g44, 0, none⟩) 3 3 := eval_slot (j := 44) (by kernel_rfl) hv44
                  refine Step.call _ rfl rfl (wanted_some (g := 42) (b := true) rfl gd) 8 #[.agg #[.int .i64 pf, .int .i64 pb, .int .i64 (pg : Nat)], .slice (some ⟨g44, 0, none⟩) 3 3] (fun ρ hρ => ?_) ?_
                  · skip
                    rw [hρ] at e0 e1
                    have ef : ρ (.func 8) = .func (.func 8) #[] #[] := (hρ _).symm
                    clear hJ hsame hdep hcl hρ hsz hb gd
                    go_simp
                  · refine (B3.out g44 _ hs44 (HT.out.keep (BW.out.trans (hJ.kept.toBelow BW.out.size (fun k hk => by simp at hk))))).mono ?_
                    rintro e w2 ⟨rfl, bb⟩
                    exact ⟨_, rfl, hJ.val hGS hcl hL rfl bb _ rfl⟩
                · intro L a w' hL hsame hsz hJ hdep hcl
                  have gd : valOf _ 42 a = .bool true := hJ.valOf (by decide) (dep_of hdep 42 (by kernel_rfl)) rfl rfl
                  have hb := (hJ.kept.toBelow (B := nb) HN.out (fun k hk => by simp at hk))
                  have e0 : a.eval (.tmp 137) = (.agg #[.int .i64 pf, .int .i64 pb, .int .i64 ((pg &&& 252 : Nat) : Int)]) := eval_slot (j := 45) (by kernel_rfl) (hJ.valOf (by decide) (dep_of hdep 45 (by kernel_rfl)) rfl rfl)
                  refine Step.val _ rfl rfl (wanted_some (g := 42) (b := true) rfl gd) (.int .i64 ((pg &&& 252 : Nat) : Int)) w' (fun ρ hρ => ?_) (hJ.val hGS hcl hL rfl (Below.refl _ _) _ rfl)
                  rw [hρ] at e0
                  clear hJ hsame hdep hcl hρ hsz hb gd
                  go_simp
                · intro L a w' hL hsame hsz hJ hdep hcl
                  have gd : valOf _ 42 a = .bool true := hJ.valOf (by decide) (dep_of hdep 42 (by kernel_rfl)) rfl rfl
                  have hb := (hJ.kept.toBelow (B := nb) HN.out (fun k hk => by simp at hk))
                  have e0 : a.eval (.tmp 13) = (.pointer (some ⟨gP, 0, none⟩)) := eval_base hsame (by kernel_rfl)
                  refine Step.val _ rfl rfl (wanted_some (g := 42) (b := true) rfl gd) (.pointer (some ⟨gP, 2, none⟩)) w' (fun ρ hρ => ?_) (hJ.val hGS hcl hL rfl (Below.refl _ _) _ rfl)
                  rw [hρ] at e0
                  clear hJ hsame hdep hcl hρ hsz hb gd
                  go_simp
                · intro L a w' hL hsame hsz hJ hdep hcl
                  have gd : valOf _ 42 a = .bool true := hJ.valOf (by decide) (dep_of hdep 42 (by kernel_rfl)) rfl rfl
                  have hb := (hJ.kept.toBelow (B := nb) HN.out (fun k hk => by simp at hk))
                  have e0 : a.eval (.tmp 139) = (.pointer (some ⟨gP, 2, none⟩)) := eval_slot (j := 47) (by kernel_rfl) (hJ.valOf (by decide) (dep_of hdep 47 (by kernel_rfl)) rfl rfl)
                  have hx := hJ.keptBox (HP.out) (by simp)
                  have q0 : w'.cell? ⟨gP, 2, none⟩ = some (.int .i64 (pg : Nat)) := hx.cell 2
                  refine Step.val _ rfl rfl (wanted_some (g := 42) (b := true) rfl gd) (.int .i64 (pg : Nat)) w' (fun ρ hρ => ?_) (hJ.val hGS hcl hL rfl (Below.refl _ _) _ rfl)
                  clear hx
                  rw [hρ] at e0
                  clear hJ hsame hdep hcl hρ hsz hb gd
                  go_simp
                · intro L a w' hL hsame hsz hJ hdep hcl
                  have gd : valOf _ 42 a = .bool true := hJ.valOf (by decide) (dep_of hdep 42 (by kernel_rfl)) rfl rfl
                  have hb := (hJ.kept.toBelow (B := nb) HN.out (fun k hk => by simp at hk))
                  have e0 : a.eval (.tmp 140) = (.int .i64 (pg : Nat)) := eval_slot (j := 48) (by kernel_rfl) (hJ.valOf (by decide) (dep_of hdep 48 (by kernel_rfl)) rfl rfl)
                  refine Step.val _ rfl rfl (wanted_some (g := 42) (b := true) rfl gd) (.int .i64 ((pg &&& 252 : Nat) : Int)) w' (fun ρ hρ => ?_) (hJ.val hGS hcl hL rfl (Below.refl _ _) _ rfl)
                  rw [hρ] at e0
                  have ec0 : ρ (.const (.int .i64 3)) = (.int .i64 3) := (hρ _).symm
                  clear hJ hsame hdep hcl hρ hsz hb gd
                  go_simp
                  exact i64_andNot_nat (y := 3) HPR.out.1 (by decide)
                · intro L a w' hL hsame hsz hJ hdep hcl
                  have gd : valOf _ 42 a = .bool true := hJ.valOf (by decide) (dep_of hdep 42 (by kernel_rfl)) rfl rfl
                  have hb := (hJ.kept.toBelow (B := nb) HN.out (fun k hk => by simp at hk))
                  have e0 : a.eval (.tmp 138) = (.int .i64 ((pg &&& 252 : Nat) : Int)) := eval_slot (j := 46) (by kernel_rfl) (hJ.valOf (by decide) (dep_of hdep 46 (by kernel_rfl)) rfl rfl)
                  have e1 : a.eval (.tmp 141) = (.int .i64 ((pg &&& 252 : Nat) : Int)) := eval_slot (j := 49) (by kernel_rfl) (hJ.valOf (by decide) (dep_of hdep 49 (by kernel_rfl)) rfl rfl)
                  refine Step.val _ rfl rfl (wanted_some (g := 42) (b := true) rfl gd) (.bool true) w' (fun ρ hρ => ?_) (hJ.val hGS hcl hL rfl (Below.refl _ _) _ rfl)
                  rw [hρ] at e0 e1
                  clear hJ hsame hdep hcl hρ hsz hb gd
                  go_simp
                · intro L a w' hL hsame hsz hJ hdep hcl
                  have hb := (hJ.kept.toBelow (B := nb) HN.out (fun k hk => by simp at hk))
                  have e0 : a.eval (.tmp 134) = (.bool true) := eval_slot (j := 42) (by kernel_rfl) (hJ.valOf (by decide) (dep_of hdep 42 (by kernel_rfl)) rfl rfl)
                  have e1 : a.eval (.tmp 142) = (.bool true) := eval_slot (j := 50) (by kernel_rfl) (hJ.valOf (by decide) (dep_of hdep 50 (by kernel_rfl)) rfl rfl)
                  refine Step.val _ rfl rfl (wanted_none rfl) (.bool true) w' (fun ρ hρ => ?_) (hJ.val hGS hcl hL rfl (Below.refl _ _) _ rfl)
                  rw [hρ] at e0 e1
                  have ec0 : ρ (.const (.bool false)) = (.bool false) := (hρ _).symm
                  clear hJ hsame hdep hcl hρ hsz hb
                  go_simp
                · intro L a w' hL hsame hsz hJ hdep hcl
                  have hb := (hJ.kept.toBelow (B := nb) HN.out (fun k hk => by simp at hk))
                  have e0 : a.eval (.tmp 143) = (.bool true) := eval_slot (j := 51) (by kernel_rfl) (hJ.valOf (by decide) (dep_of hdep 51 (by kernel_rfl)) rfl rfl)
                  refine Step.val _ rfl rfl (wanted_none rfl) (.bool true) w' (fun ρ hρ => ?_) (hJ.val hGS hcl hL rfl (Below.refl _ _) _ rfl)
                  rw [hρ] at e0
                  clear hJ hsame hdep hcl hρ hsz hb
                  go_simp
                · intro L a w' hL hsame hsz hJ hdep hcl
                  have gd : valOf _ 52 a = .bool true := hJ.valOf (by decide) (dep_of hdep 52 (by kernel_rfl)) rfl rfl
                  have hb := (hJ.kept.toBelow (B := nb) HN.out (fun k hk => by simp at hk))
                  refine Step.call _ rfl rfl (wanted_some (g := 52) (b := true) rfl gd) 3 #[] (fun ρ hρ => ?_) ?_
                  · skip
                    have ef : ρ (.func 3) = .func (.func 3) #[] #[] := (hρ _).symm
                    clear hJ hsame hdep hcl hρ hsz hb gd
                    go_simp
                  · refine (PRN.out _ (HT.out.keep (BW.out.trans (hJ.kept.toBelow BW.out.size (fun k hk => by simp at hk))))).mono ?_
                    rintro e w2 ⟨rfl, bb⟩
                    exact ⟨_, rfl, hJ.val hGS hcl hL rfl bb _ rfl⟩
                · intro L a w' hL hsame hsz hJ hdep hcl
                  have hb := (hJ.kept.toBelow (B := nb) HN.out (fun k hk => by simp at hk))
                  have e0 : a.eval (.tmp 144) = (.bool true) := eval_slot (j := 52) (by kernel_rfl) (hJ.valOf (by decide) (dep_of hdep 52 (by kernel_rfl)) rfl rfl)
                  have e1 : a.eval (.tmp 145) = (.bool true) := eval_slot (j := 53) (by kernel_rfl) (hJ.valOf (by decide) (dep_of hdep 53 (by kernel_rfl)) rfl rfl)
                  refine Step.val _ rfl rfl (wanted_none rfl) (.bool true) w' (fun ρ hρ => ?_) (hJ.val hGS hcl hL rfl (Below.refl _ _) _ rfl)
                  rw [hρ] at e0 e1
                  have ec0 : ρ (.const (.bool false)) = (.bool false) := (hρ _).symm
                  clear hJ hsame hdep hcl hρ hsz hb
                  go_simp
                · intro L a w' hL hsame hsz hJ hdep hcl
                  have hb := (hJ.kept.toBelow (B := nb) HN.out (fun k hk => by simp at hk))
                  have e0 : a.eval (.tmp 146) = (.bool true) := eval_slot (j := 54) (by kernel_rfl) (hJ.valOf (by decide) (dep_of hdep 54 (by kernel_rfl)) rfl rfl)
                  refine Step.val _ rfl rfl (wanted_none rfl) (.bool true) w' (fun ρ hρ => ?_) (hJ.val hGS hcl hL rfl (Below.refl _ _) _ rfl)
                  rw [hρ] at e0
                  clear hJ hsame hdep hcl hρ hsz hb
                  go_simp
                · intro u w' hF
                  change Exit.then _ _ Exit.normal (Act.put (Act.put (Act.put (Act.put (Act.put (Act.put (Act.put (Act.put (Act.put (Act.put (Act.put (Act.put (Act.put (Act.put (Act.put (Act.put (Act.put (Act.put (Act.put (Act.put (Act.put (Act.put (Act.put (Act.put (Act.put (Act.put (Act.put (Act.put (Act.put (Act.put (Act.put (Act.put (Act.put (Act.put (Act.put (Act.put (Act.put (Act.put (Act.put (Act.put (Act.put (Act.put (Act.put (Act.put (Act.put (Act.put (Act.put (Act.put (Act.put (Act.put (Act.put (Act.put (Act.put (Act.put (Act.put (Act.put (putAll _ u 0 _) (some 92) (u 0)) (some 93) (u 1)) (some 94) (u 2)) (some 95) (u 3)) (some 96) (u 4)) (some 97) (u 5)) (some 98) (u 6)) (some 99) (u 7)) (some 100) (u 8)) (some 101) (u 9)) (some 102) (u 10)) (some 103) (u 11)) (some 104) (u 12)) (some 105) (u 13)) (some 106) (u 14)) (some 107) (u 15)) (some 108) (u 16)) (some 109) (u 17)) (some 110) (u 18)) (some 111) (u 19)) (some 112) (u 20)) (some 113) (u 21)) (some 114) (u 22)) (some 115) (u 23)) (some 116) (u 24)) (some 117) (u 25)) (some 118) (u 26)) (some 119) (u 27)) (some 120) (u 28)) (some 121) (u 29)) (some 122) (u 30)) (some 123) (u 31)) (some 124) (u 32)) (some 125) (u 33)) (some 126) (u 34)) (some 127) (u 35)) (some 128) (u 36)) (some 129) (u 37)) (some 130) (u 38)) (some 131) (u 39)) (some 132) (u 40)) (some 133) (u 41)) (some 134) (u 42)) (some 135) (u 43)) (some 136) (u 44)) (some 137) (u 45)) (some 138) (u 46)) (some 139) (u 47)) (some 140) (u 48)) (some 141) (u 49)) (some 142) (u 50)) (some 143) (u 51)) (some 144) (u 52)) (some 145) (u 53)) (some 146) (u 54)) (some 8) (u 55)) _
                  simp only [putAll]
                  have f : u 55 = .bool true := hF.fin0 (j := 55) (by decide) rfl rfl
                  have hk := hF.kept.toBelow (Nat.le_refl _) (by simp)
                  clear hF
                  generalize u 0 = z0
                  generalize u 1 = z1
                  generalize u 2 = z2
                  generalize u 3 = z3
                  generalize u 4 = z4
                  generalize u 5 = z5
                  generalize u 6 = z6
                  generalize u 7 = z7
                  generalize u 8 = z8
                  generalize u 9 = z9
                  generalize u 10 = z10
                  generalize u 11 = z11
                  generalize u 12 = z12
                  generalize u 13 = z13
                  generalize u 14 = z14
                  generalize u 15 = z15
                  generalize u 16 = z16
                  generalize u 17 = z17
                  generalize u 18 = z18
                  generalize u 19 = z19
                  generalize u 20 = z20
                  generalize u 21 = z21
                  generalize u 22 = z22
                  generalize u 23 = z23
                  generalize u 24 = z24
                  generalize u 25 = z25
                  generalize u 26 = z26
                  generalize u 27 = z27
                  generalize u 28 = z28
                  generalize u 29 = z29
                  generalize u 30 = z30
                  generalize u 31 = z31
                  generalize u 32 = z32
                  generalize u 33 = z33
                  generalize u 34 = z34
                  generalize u 35 = z35
                  generalize u 36 = z36
                  generalize u 37 = z37
                  generalize u 38 = z38
                  generalize u 39 = z39
                  generalize u 40 = z40
                  generalize u 41 = z41
                  generalize u 42 = z42
                  generalize u 43 = z43
                  generalize u 44 = z44
                  generalize u 45 = z45
                  generalize u 46 = z46
                  generalize u 47 = z47
                  generalize u 48 = z48
                  generalize u 49 = z49
                  generalize u 50 = z50
                  generalize u 51 = z51
                  generalize u 52 = z52
                  generalize u 53 = z53
                  generalize u 54 = z54
                  generalize u 55 = z55 at f ⊢
                  go_simp
                  go_step
                  go_meet
                  exact ⟨by first | rfl | exact f, BW.out.trans (hk.mono BW.out.size)⟩
            case rest =>
              obtain ⟨rfl, b9⟩ := hcut
              go_wp2_with fail
              go_ret
              exact ⟨rfl, b9⟩
theorem penParts_any (a0 a1 a2 : Int) (Ap : Option Addr) (np cp : Nat) (lp : List Int) (ct fn : Int) (w : World) (h0 : (Lit.int .i64 a0).wf = true) (h1 : (Lit.int .i64 a1).wf = true) (h2 : (Lit.int .i64 a2).wf = true) (hA : Arg .i64 w Ap np cp lp) (hc : (Lit.int .i64 ct).wf = true) (hf : (Lit.int .i64 fn).wf = true) (hFT : FlagT w) :
    Calls Tryd.prog 6 #[.agg #[.int .i64 a0, .int .i64 a1, .int .i64 a2], .slice Ap np cp, .int .i64 ct, .int .i64 fn] w fun e w' => e = .returned (.bool true) ∧ Below w.heap.size w w' := by
  have e1 : a2 % 256 = (((a2 % 256).toNat : Nat) : Int) := by omega
  have K1 := pen_given10 h0 h1 h2
  rw [e1] at K1
  obtain ⟨f0, f1⟩ := bounds_i64 hf
  obtain ⟨k, hk⟩ : ∃ k : Nat, 0 + fn % (5 - 0 + 1) = (k : Int) := ⟨(0 + fn % (5 - 0 + 1)).toNat, by omega⟩
  exact penParts_t a0 a1 a2 _ _ ct fn _ k Ap np cp lp w (pr_given a0 a1 a2) hA (bounds_i64 hc) hFT (hide penRuns_any) K1 (fun w' => within_is fn 0 5 _ hk w' f0 f1 (by omega) (by omega) (by omega)) (by omega)
end Go.Proofs.YtnjkongbccblaaaDoor
