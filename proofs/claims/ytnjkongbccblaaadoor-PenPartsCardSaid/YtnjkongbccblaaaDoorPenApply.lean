/- The contract of the landed pen.Apply. -/
import Derived.Test.YtnjkongbccblaaaDoorPenOne
set_option maxRecDepth 100000
namespace Go.Proofs.YtnjkongbccblaaaDoor
open Go.RowKit
set_option linter.unusedVariables false
/-- how long a slice is -/
def lenV : Value → Nat
  | .slice _ n _ => n
  | _ => 0
theorem lenV_slice (A : Option Addr) (n c : Nat) : lenV (.slice A n c) = n := rfl
theorem Seen.inn {w : World} {B : Nat} {A : Option Addr} {n : Nat} {xs : List Value} (h : Seen w B A n xs) : Seen w w.heap.size A n xs :=
  ⟨h.1, fun j u hu => by
    obtain ⟨ad, h1, _, h3⟩ := h.2 j u hu
    have := World.block_lt_of_cell? w _ h3
    rw [addBlock] at this
    exact ⟨ad, h1, this, h3⟩⟩
theorem fore_getD (p : PS.Pn) (o : Option Int) : PS.fore p o = ⟨o.getD p.fo, p.ba, p.fl⟩ := by
  cases o <;> rfl
theorem back_getD (p : PS.Pn) (o : Option Int) : PS.back p o = ⟨p.fo, o.getD p.ba, p.fl⟩ := by
  cases o <;> rfl
set_option maxHeartbeats 16000000 in
theorem papply_ok (p z : PS.Pn) (A : Option Addr) (n c B : Nat) (l : List Int) (hz : PS.apply p l = z) (w : World) (hp : PS.Ok p) (hA : Seen w B A n (j64s l)) (hn : n ≤ 1048576) (hnc : n ≤ c) (hl : ∀ x ∈ l, -1 ≤ x ∧ x ≤ 9223372036854775807) (hF : FlagT w) :
    Calls Tryd.prog 8 #[penV p, .slice A n c] w fun e w' => e = .returned (penV z) ∧ Below w.heap.size w w' := by
  have hA := hA.inn
  have hlen : l.length = n := by have := hA.1; simpa [j64s] using this
  obtain ⟨fo, ba, fl⟩ := p
  have B0 := (((Below.refl _ w).alloc (Nat.le_refl _) (.cells #[.int .i64 fo, .int .i64 ba, .int .i64 (fl : Nat)] 23)).alloc (by simp) (.cells #[.int .i64 0, .int .i64 0, .int .i64 0] 23))
  have BP := ((Box.new w 23 #[.int .i64 fo, .int .i64 ba, .int .i64 (fl : Nat)]).alloc (.cells #[.int .i64 0, .int .i64 0, .int .i64 0] 23))
  have BZ := by have h := Box.new (w.alloc (.cells #[.int .i64 fo, .int .i64 ba, .int .i64 (fl : Nat)] 23)) 23 #[.int .i64 0, .int .i64 0, .int .i64 0]; rw [World.size_alloc] at h; exact h
  have hFw := hF.keep B0
  by_cases h0 : n = 0
  · subst h0
    have : l = [] := List.eq_nil_of_length_eq_zero hlen
    subst this
    have hz' : (⟨-1, -1, 0⟩ : PS.Pn) = z := hz
    subst hz'
    clear hA hlen hz hFw BP hnc hn hl
    have HB := hide B0
    have HZ := hide BZ
    clear B0 BZ
    simp only [penV]
    go_enter Tryd.func8, Tryd.ntmps8
    go_wp2_with fail
    refine (pplain10 _).mono ?_
    rintro e w1 ⟨rfl, bb⟩
    have bx := HZ.out.below bb (by simp)
    have b0 := HB.out.trans (bb.mono HB.out.size)
    obtain ⟨k0, k1, k2, k3, k4, k5⟩ := bx.three
    clear bb
    go_wp2_with fail
    refine bodyPost_ret (v := .agg #[.int .i64 (-1), .int .i64 (-1), .int .i64 0]) (by simp [results, Tryd.results8, go_sem, k0, k1, k2]) rfl ⟨rfl, ?_⟩
    repeat (first | exact b0 | refine Below.setCell ?_ (by first | omega | (simp; done) | (simp; omega)) _)
  · have hz' : PS.sgr ⟨fo, ba, fl⟩ l = z := by
      rw [← hz]
      unfold PS.apply
      rw [if_neg]
      intro h
      rw [h] at hlen
      simp at hlen
      omega
    have hq : ((n : Int) == 0) = false := by simp; omega
    have HB := hide B0
    have HP := hide BP
    have HZ := hide BZ
    have HA := hide (hA.below B0)
    have HF := hide hFw
    have HE := hide hz'
    have HBD := hide hl
    have HOK := hide (show PS.Ok ⟨fo, ba, fl⟩ from hp)
    have HTN := hide hF.lt
    have HFW := hide hF
    clear hA hlen hz hz' hFw BP BZ B0 hl hp hF
    simp only [penV]
    go_enter Tryd.func8, Tryd.ntmps8
    go_wp2_with fail
    go_loopw [1] (fun s wr => ∃ (A : Option Addr) (n cp : Nat) (l : List Int) (p : PS.Pn), s = .slice A n cp ∧ n ≤ 1048576 ∧ n ≤ cp ∧ Hid (Seen wr w.heap.size A n (j64s l)) ∧ Hid (∀ x ∈ l, -1 ≤ x ∧ x ≤ 9223372036854775807) ∧ Hid (Box wr w.heap.size 23 (penC p)) ∧ Hid (Box wr (w.heap.size + 1) 23 #[.int .i64 0, .int .i64 0, .int .i64 0]) ∧ Hid (PS.Ok p) ∧ Hid (PS.sgr p l = z) ∧ Below w.heap.size w wr) (fun s _ => lenV s)
    case atStart => exact ⟨A, n, c, l, ⟨fo, ba, fl⟩, rfl, hn, hnc, HA, HBD, HP, HZ, HOK, HE, HB.out⟩
    case round =>
      obtain ⟨A, n, cp, l, p, rfl, hn, hnc, hA, hbd, hP, hZ, hok, hE, hB⟩ := hrel
      obtain ⟨fo, ba, fl⟩ := p
      simp only [penC] at hP
      clear HA HBD HP HZ HOK HE HF
      obtain ⟨k0, k1, k2, k3, k4, k5⟩ := hP.out.three
      by_cases hpos : 0 < n
      · obtain ⟨ad, u, rfl, _, hu, hc⟩ := hA.out.at_ hpos
        rcases l with _ | ⟨x, r⟩
        · simp [j64s] at hu
        have hu' : Value.int .i64 x = u := by simpa [j64s] using hu
        subst hu'
        have c0 : wr.cell? ad = some (.int .i64 x) := hc
        obtain ⟨x0, x1⟩ := hbd.out x (by simp)
        obtain ⟨m, hm⟩ : ∃ m, PS.pos x = m := ⟨_, rfl⟩
        have M := hide (fun w' => meant_is x m hm x0 w')
        have hm1 : m ≤ 9223372036854775807 := by unfold PS.pos at hm; omega
        have BR := hide (show ∀ y ∈ r, -1 ≤ y ∧ y ≤ 9223372036854775807 from fun y hy => hbd.out y (by simp [hy]))
        have SD := hide (show Seen wr w.heap.size (if cp = 1 then some ad else some (ad.add 1)) (n - 1) (j64s r) from hA.out.drop (k := 1) (by omega) hnc)
        clear hu hc hbd
        go_upto_region 5 with (first | (refine (M.out _).mono ?_; rintro e w' ⟨rfl, rfl⟩))
        go_cut [1] from 17 to 18 (fun u wx => (∃ A1 c1, u = .slice A1 (n - 1) c1 ∧ n - 1 ≤ c1 ∧ Seen wr w.heap.size A1 (n - 1) (j64s r)) ∧ wx = wr)
        case first =>
          by_cases h1 : cp = 1
          · have S := SD.out
            rw [if_pos h1] at S
            go_wp2_with fail
            go_meet
            exact ⟨⟨_, _, rfl, by omega, S⟩, rfl⟩
          · have S := SD.out
            rw [if_neg h1, add_two ad (by decide)] at S
            go_wp2_with fail
            go_meet
            exact ⟨⟨_, _, rfl, by omega, S⟩, rfl⟩
        case rest =>
          obtain ⟨⟨A1, c1, rfl, hc1, s1⟩, rfl⟩ := hcut
          have S1 := hide s1
          clear s1 SD hA
          by_cases h38 : m = 38
          · have q38 : ((m : Int) == 38) = true := by simp; omega
            obtain ⟨zc, hzc⟩ : ∃ zc, (PS.wide r).1.getD fo = zc := ⟨_, rfl⟩
            have E2 := hide (show PS.sgr ⟨(PS.wide r).1.getD fo, ba, fl⟩ (r.drop (PS.wide r).2) = z by
              rw [← hE.out, PS.sgr_fore (hm.trans h38), fore_getD])
            have OK2 := hide (show PS.Ok ⟨(PS.wide r).1.getD fo, ba, fl⟩ from hok.out)
            rw [hzc] at E2 OK2
            have T := hide (fun w' h => told_is fo A1 (n - 1) c1 w.heap.size r w' zc hzc h (by omega) hc1 BR.out)
            clear hzc hE
            go_wp2_with fail
            refine (T.out _ S1.out).mono ?_
            rintro e w2 ⟨⟨mm, hw2⟩, A2, n2, c2, rfl, hs2, hc2, hn2⟩
            have P2 : Box w2 w.heap.size 23 #[.int .i64 fo, .int .i64 ba, .int .i64 (fl : Nat)] := by rw [hw2]; exact hP.out.drewN mm
            have Z2 : Box w2 (w.heap.size + 1) 23 #[.int .i64 0, .int .i64 0, .int .i64 0] := by rw [hw2]; exact hZ.out.drewN mm
            have B2 : Below w.heap.size w w2 := by rw [hw2]; exact ⟨hB.os, hB.tape, hB.output, hB.size, hB.block⟩
            have S2 : Seen w2 w.heap.size A2 n2 (j64s (r.drop (PS.wide r).2)) := by rw [hw2]; exact hs2.drewN mm
            have P3 : Box (w2.setCell ⟨w.heap.size, 0, none⟩ (.int .i64 zc)) w.heap.size 23 #[.int .i64 zc, .int .i64 ba, .int .i64 (fl : Nat)] := P2.set 0 _
            have Z3 := Z2.far (p := ⟨w.heap.size, 0, none⟩) (by simp) (.int .i64 zc)
            have B3 := B2.setCell (p := ⟨w.heap.size, 0, none⟩) (Nat.le_refl _) (.int .i64 zc)
            have S3 := S2.below ((Below.refl w.heap.size w2).setCell (p := ⟨w.heap.size, 0, none⟩) (Nat.le_refl _) (.int .i64 zc))
            obtain ⟨p0, p1, p2, p3, p4, p5⟩ := P2.three
            clear hw2 hs2 k0 k1 k2 k3 k4 k5
            go_wp2_with fail
            go_roundw
            case rel => exact ⟨A2, n2, c2, _, ⟨zc, ba, fl⟩, rfl, by omega, hc2, hide S3, hide (fun x hx => BR.out x (List.mem_of_mem_drop hx)), hide P3, hide Z3, OK2, E2, B3⟩
            case measure => simp only [lenV]; omega
          have q38 : ((m : Int) == 38) = false := by simp; omega
          by_cases h48 : m = 48
          · have q48 : ((m : Int) == 48) = true := by simp; omega
            obtain ⟨zc, hzc⟩ : ∃ zc, (PS.wide r).1.getD ba = zc := ⟨_, rfl⟩
            have E2 := hide (show PS.sgr ⟨fo, (PS.wide r).1.getD ba, fl⟩ (r.drop (PS.wide r).2) = z by
              rw [← hE.out, PS.sgr_back (hm.trans h48), back_getD])
            have OK2 := hide (show PS.Ok ⟨fo, (PS.wide r).1.getD ba, fl⟩ from hok.out)
            rw [hzc] at E2 OK2
            have T := hide (fun w' h => told_is ba A1 (n - 1) c1 w.heap.size r w' zc hzc h (by omega) hc1 BR.out)
            clear hzc hE
            go_wp2_with fail
            refine (T.out _ S1.out).mono ?_
            rintro e w2 ⟨⟨mm, hw2⟩, A2, n2, c2, rfl, hs2, hc2, hn2⟩
            have P2 : Box w2 w.heap.size 23 #[.int .i64 fo, .int .i64 ba, .int .i64 (fl : Nat)] := by rw [hw2]; exact hP.out.drewN mm
            have Z2 : Box w2 (w.heap.size + 1) 23 #[.int .i64 0, .int .i64 0, .int .i64 0] := by rw [hw2]; exact hZ.out.drewN mm
            have B2 : Below w.heap.size w w2 := by rw [hw2]; exact ⟨hB.os, hB.tape, hB.output, hB.size, hB.block⟩
            have S2 : Seen w2 w.heap.size A2 n2 (j64s (r.drop (PS.wide r).2)) := by rw [hw2]; exact hs2.drewN mm
            have P3 : Box (w2.setCell ⟨w.heap.size, 1, none⟩ (.int .i64 zc)) w.heap.size 23 #[.int .i64 fo, .int .i64 zc, .int .i64 (fl : Nat)] := P2.set 1 _
            have Z3 := Z2.far (p := ⟨w.heap.size, 1, none⟩) (by simp) (.int .i64 zc)
            have B3 := B2.setCell (p := ⟨w.heap.size, 1, none⟩) (Nat.le_refl _) (.int .i64 zc)
            have S3 := S2.below ((Below.refl w.heap.size w2).setCell (p := ⟨w.heap.size, 1, none⟩) (Nat.le_refl _) (.int .i64 zc))
            obtain ⟨p0, p1, p2, p3, p4, p5⟩ := P2.three
            clear hw2 hs2 k0 k1 k2 k3 k4 k5
            go_wp2_with fail
            go_roundw
            case rel => exact ⟨A2, n2, c2, _, ⟨fo, zc, fl⟩, rfl, by omega, hc2, hide S3, hide (fun x hx => BR.out x (List.mem_of_mem_drop hx)), hide P3, hide Z3, OK2, E2, B3⟩
            case measure => simp only [lenV]; omega
          have q48 : ((m : Int) == 48) = false := by simp; omega
          obtain ⟨q, hq'⟩ : ∃ q, PS.one ⟨fo, ba, fl⟩ m = q := ⟨_, rfl⟩
          have E2 := hide (show PS.sgr q r = z by
            rw [← hE.out, PS.sgr_one (by omega) (by omega), hm, hq'])
          have OK2 := hide (show PS.Ok q by rw [← hq']; exact PS.one_ok hok.out m)
          have AO := hide (fun w' h => applyOne_is ⟨fo, ba, fl⟩ q m hq' hm1 hok.out w' h)
          obtain ⟨f1, b1, g1⟩ := q
          simp only [penV] at AO
          have FW := hide (HFW.out.kept hB (by exact HTN.out))
          clear hq' hE
          go_wp2_with fail
          refine (AO.out _ FW.out).mono ?_
          rintro e w2 ⟨rfl, bb⟩
          have P2 := hP.out.below bb hP.out.lt
          have Z2 := hZ.out.below bb hZ.out.lt
          have B2 := hB.trans (bb.mono hB.size)
          have S2 := S1.out.below (bb.mono hB.size)
          have P3 := hide (P2.set3 (.int .i64 f1) (.int .i64 b1) (.int .i64 (g1 : Nat)))
          have Z3 := hide (Z2.far3 (g' := w.heap.size) (by simp) (.int .i64 f1) (.int .i64 b1) (.int .i64 (g1 : Nat)))
          have B3 := below_set3 B2 (Nat.le_refl w.heap.size) (.int .i64 f1) (.int .i64 b1) (.int .i64 (g1 : Nat))
          have S3 := hide (S2.below (below_set3 (Below.refl w.heap.size w2) (Nat.le_refl w.heap.size) (.int .i64 f1) (.int .i64 b1) (.int .i64 (g1 : Nat))))
          obtain ⟨p0, p1, p2, p3, p4, p5⟩ := P2.three
          clear bb k0 k1 k2 k3 k4 k5
          go_wp2_with fail
          go_roundw
          case rel => exact ⟨A1, n - 1, c1, r, ⟨f1, b1, g1⟩, rfl, by omega, hc1, S3, BR, P3, Z3, OK2, E2, B3⟩
          case measure => simp only [lenV]; omega
      · have e0 : l = [] := by
          have := hA.out.1
          exact List.eq_nil_of_length_eq_zero (by simp [j64s] at this; omega)
        subst e0
        have hz : (⟨fo, ba, fl⟩ : PS.Pn) = z := hE.out
        subst hz
        obtain ⟨j0, j1, j2, j3, j4, j5⟩ := hZ.out.three
        clear hA
        go_wp2_with fail
        refine bodyPost_ret (v := .agg #[.int .i64 fo, .int .i64 ba, .int .i64 (fl : Nat)]) (by simp [results, Tryd.results8, go_sem, j0, j1, j2]) rfl ⟨rfl, ?_⟩
        repeat (first | exact hB | refine Below.setCell ?_ (by first | omega | (simp; done) | (simp; omega)) _)
end Go.Proofs.YtnjkongbccblaaaDoor
