/- EditRows: of plain letters, put in and taken out are what they are of texts; erased to the left and to the right is all. -/
import Derived.Test.YtcbmjdacdjcggaaDoorEditRowsP
set_option maxRecDepth 100000
namespace Go.Proofs.YtcbmjdacdjcggaaDoor
open Go.RowKit
set_option linter.unusedVariables false
theorem meas_rows {k n : Nat} (h : k < n) : n - (intOf (.int .i64 ((k : Int) + 1))).toNat < n - (intOf (.int .i64 (k : Int))).toNat := by
  show n - ((k : Int) + 1).toNat < n - (k : Int).toNat
  omega
set_option maxHeartbeats 16000000 in
theorem editRows_core (A : Option Addr) (n cc : Nat) (l : List Int) (c m : Int) (w : World) (hA : Arg .u8 w A n cc l)
    (hc : -9223372036854775808 ≤ c ∧ c ≤ 9223372036854775807) (hm : -9223372036854775808 ≤ m ∧ m ≤ 9223372036854775807) (hs : Spans w) :
    Calls Tryd.prog 6 #[.slice A n cc, .int .i64 c, .int .i64 m] w fun e w' => e = .returned (.bool true) ∧ Below w.heap.size w w' := by
  obtain ⟨i0, hi, hz0, hz1, hz2⟩ := info_parts info_u8
  have SP := hide hs
  have HA := hide hA
  have hnm : n ≤ 9223372036854775807 := by have h1 := hA.le; have h2 := hA.cap; simp only [maxLen] at h2; omega
  obtain ⟨N, hN⟩ : ∃ N, (PG.lts l).length = N := ⟨_, rfl⟩
  have hN9 : N ≤ n ∧ N ≤ 9 ∧ (n ≤ N ∨ 9 ≤ N) := by rw [← hN, PG.lts_len, hA.len]; omega
  have HNN := hide hN
  have HC := hide hc
  have HM := hide hm
  clear hs hA hc hm hN
  go_enter Tryd.func6, Tryd.ntmps6
  go_upto_block 0 with fail
  go_cut [7] (fun u wx => (∃ A2 c2, u = .slice A2 N c2 ∧ N ≤ c2 ∧ c2 ≤ maxLen ∧ wx.ownsRow w.heap.size 5 1 (.slice A2 N c2) N (u8s (PG.lts l))) ∧ Below w.heap.size w wx)
  case first =>
    as_aux_lemma =>
      go_wp2_with fail
      go_loopw [7, 8] (fun v i wr => ∃ (k : Nat) (A2 : Option Addr) (c2 : Nat), k ≤ N ∧ v = .slice A2 k c2 ∧ i = .int .i64 k ∧ Hid (wr.ownsRow w.heap.size 5 1 (.slice A2 k c2) k (u8s ((PG.lts l).take k))) ∧ Hid (Below w.heap.size w wr)) (fun v i _ => N - (intOf i).toNat)
      case atStart => exact ⟨0, none, 0, Nat.zero_le _, rfl, rfl, hide (World.ownsRow_nil _ _ _ _), hide (Below.refl _ _)⟩
      case round =>
        obtain ⟨k, A2, c2, hkN, rfl, rfl, ho, bx⟩ := hrel
        by_cases hlt : k < n ∧ k < 9
        · obtain ⟨hkn, hk9⟩ := hlt
          have hkl : k < l.length := by rw [HA.out.len]; exact hkn
          have hx : l[k]? = some l[k] := List.getElem?_eq_getElem hkl
          obtain ⟨x, hxe⟩ : ∃ x, l[k] = x := ⟨_, rfl⟩
          rw [hxe] at hx
          have hxb := bounds_u8 (HA.out.wf x (hxe ▸ List.getElem_mem _))
          obtain ⟨ad, u, rfl, hadB, hu, hcell⟩ := (HA.out.seen.below bx.out).at_ hkn
          rw [List.getElem?_map, hx] at hu
          injection hu with hu
          subst hu
          obtain ⟨y, hy⟩ : ∃ y, 33 + x % (126 - 33 + 1) = y := ⟨_, rfl⟩
          have hyb : 33 ≤ y ∧ y ≤ 126 := by omega
          have WI := hide (fun w' => within_is x 33 126 y hy w' (by omega) (by omega) (by omega) (by omega) (by omega))
          have HNX := hide (show u8s ((PG.lts l).take k) ++ [.int .u8 y] = u8s ((PG.lts l).take (k + 1)) by
            rw [PG.lts_next hx hk9]
            simp only [u8s, List.map_append, List.map_cons, List.map_nil]
            rw [← hy]
            rfl)
          have wy : IntKind.u8.wrap y = y := IntWalk.u8_in _ (by omega)
          have HK := hide (show k < N by omega)
          clear hkl hx hxe hy
          go_wp2_with (first
            | (go_at_call 18
               go_must (refine (WI.out _).mono ?_)
               rintro e w' ⟨rfl, rfl⟩)
            | (at_builtin
               go_must (refine wpList_app1 rfl (.tmp 29) (.tmp 37) 52 rfl w.heap.size 5 i0 _ 1 Tryd.underlying52 hi hz0 hz1 hz2 rfl (.slice A2 k c2) k _ rfl ho.out _ _ _ rfl rfl rfl (by omega) (by omega) bx.out.size ?_)
               intro v1 w1 hown1 hg1 hm1
               have b1 := hide (bx.out.grown hg1 bx.out.size (fun b hb => (ho.out.lt b hb).1))
               rw [HNX.out] at hown1
               obtain ⟨A1, c1, rfl, _⟩ := own_form' hown1
               have hown1 := hide hown1
               clear hg1 hm1))
          go_roundw
          case rel => exact ⟨k + 1, A1, c1, by have := HK.out; omega, rfl, by go_num, hown1, b1⟩
          case measure => exact meas_rows HK.out
        · obtain rfl : k = N := by omega
          have hlt' : ¬ k < n ∨ ¬ k < 9 := by omega
          have HT := hide (show (PG.lts l).take k = PG.lts l from by rw [← HNN.out, List.take_length])
          have HF := hide (own_form' ho.out)
          by_cases h1 : k < n
          · have h2 : ¬ k < 9 := fun h => hlt ⟨h1, h⟩
            go_wp2_with fail
            go_meet
            obtain ⟨A3, c3, e3, h3, h4, _⟩ := HF.out
            injection e3 with e31 e32 e33
            subst e31 e33
            exact ⟨⟨A2, c2, rfl, h3, h4, by have := ho.out; rw [HT.out] at this; exact this⟩, bx.out⟩
          · go_wp2_with fail
            go_meet
            obtain ⟨A3, c3, e3, h3, h4, _⟩ := HF.out
            injection e3 with e31 e32 e33
            subst e31 e33
            exact ⟨⟨A2, c2, rfl, h3, h4, by have := ho.out; rw [HT.out] at this; exact this⟩, bx.out⟩
  case rest =>
  obtain ⟨⟨As, cs, rfl, hcs, hcsm, hos⟩, bc⟩ := hcut
  have BB := hide bc
  have OS := hide (show OwnB wc w.heap.size (PG.lts l) As N cs from hos)
  have SP := hide (SP.out.keep bc)
  have HL := hide (show 1 ≤ N → (PG.lts l).length = N ∧ 1 ≤ (PG.lts l).length ∧ (PG.lts l).length ≤ 60 ∧ ∀ x ∈ PG.lts l, 32 ≤ x ∧ x ≤ 126 from fun h => ⟨HNN.out, by rw [HNN.out]; exact h, by rw [HNN.out]; omega, PG.lts_ascii l⟩)
  clear bc hos HA
  generalize PG.lts l = s at *
  by_cases hN0 : N = 0
  · subst hN0
    go_wp2_with (
      go_at_call 3
      go_must (refine (editRuns_any _ SP.out).mono ?_)
      rintro e w3 ⟨rfl, b3⟩
      have b3 := hide b3)
    go_ret
    exact ⟨rfl, BB.out.trans (b3.out.mono BB.out.size)⟩
  have hN1 : 1 ≤ N := by omega
  obtain ⟨hsl, hs1, hs60, hsa⟩ := HL.out hN1
  have HS := hide (show s.length = N ∧ 1 ≤ s.length ∧ s.length ≤ 60 ∧ ∀ x ∈ s, 32 ≤ x ∧ x ≤ 126 from ⟨hsl, hs1, hs60, hsa⟩)
  have HN := hide (show 1 ≤ N ∧ N ≤ 9 from ⟨hN1, hN9.2.1⟩)
  have hnz : ((N : Int) == 0) = false := by simp; omega
  clear HL HNN hsl hs1 hs60 hsa hN0 hN9 hnm
  go_upto_region 8 with fail
  go_cut [9] from 43 to 43 (fun u wx => (∃ g, u = .pointer (some ⟨g, 0, none⟩) ∧ Box wx g 23 #[.int .i64 (-1), .int .i64 (-1), .int .i64 0]) ∧ Below wc.heap.size wc wx)
  case first =>
    as_aux_lemma =>
      have PLF := hide (show Calls Tryd.prog 8 #[] wc fun e w'' => e = .returned (.agg #[.int .i64 (-1), .int .i64 (-1), .int .i64 0]) ∧ Below wc.heap.size wc w'' from rplain_any wc)
      go_wp2_with (
        go_at_call 8
        go_must (refine PLF.out.mono ?_)
        rintro e w3 ⟨rfl, b3⟩
        have b3 := hide b3)
      go_meet
      exact ⟨⟨_, rfl, Box.new _ _ _⟩, b3.out.alloc b3.out.size _⟩
  case rest =>
  obtain ⟨⟨gP, rfl, hP⟩, bc⟩ := hcut
  have BB := hide (BB.out.trans (bc.mono BB.out.size))
  have OS := hide (OS.out.low bc)
  have SP := hide (SP.out.keep bc)
  have BP := hide hP
  clear bc hP
  rename World => wB
  go_upto_region 9 with fail
  go_cut [10] from 44 to 47 (fun u wx => GVar wB.heap.size (PG.lets s 0) u wx ∧ Below wB.heap.size wB wx)
  case first =>
    as_aux_lemma =>
      obtain ⟨q0, q1, q2, -, -, -⟩ := BP.out.three
      have NW := hide (u_new 1 N PG.plain wB (by omega) (by omega) (by have := HN.out; omega) (by have := HN.out; omega))
      have EN := hide (show PG.newG 1 N PG.plain = PG.lets s 0 from by show _ = PG.newG 1 s.length PG.plain; rw [HS.out.1])
      go_wp2_with (
        go_at_call 9
        go_must (refine NW.out.mono ?_)
        rintro e w3 ⟨v, rfl, ⟨s1, rfl, ho⟩, b3⟩
        obtain ⟨sA, sc, rfl, _⟩ := own_form' ho
        rw [EN.out] at ho
        have b3 := hide b3
        have ho := hide ho
        clear q0 q1 q2
        unfold gv)
      go_meet
      rw [EN.out]
      exact ⟨⟨_, rfl, b3.out.size, _, Box.new _ _ _, _, rfl, own_low ho.out ((Below.refl _ _).alloc (Nat.le_refl _) _)⟩, b3.out.alloc (by have := b3.out.size; omega) _⟩
  case rest =>
  obtain ⟨⟨gT, rfl, hgT, hT⟩, bc⟩ := hcut
  have HGT := hide hgT
  have BX := hide bc
  have HT := hide hT
  clear bc hT hgT
  go_upto_block 2 with fail
  go_cut [11, 12] from 48 to 61 (fun u v wx => GBox wx (PG.lets s N) gT ∧ Below wB.heap.size wB wx)
  case first =>
    as_aux_lemma =>
      go_wp2_with fail
      go_loopw [50] (fun i wr => ∃ k : Nat, k ≤ N ∧ i = .int .i64 k ∧ Hid (GBox wr (PG.lets s k) gT) ∧ Hid (Below wB.heap.size wB wr)) (fun i _ => N - (intOf i).toNat)
      case atStart => exact ⟨0, by omega, rfl, HT, BX⟩
      case round =>
        clear HT BX
        obtain ⟨k, hkN, rfl, HT, bx⟩ := hrel
        obtain ⟨hr, h1, h4, -, -⟩ := PG.lets_all HS.out.2.1 HS.out.2.2.1 HS.out.2.2.2 k (by rw [HS.out.1]; exact hkN)
        rw [HS.out.1] at h4
        by_cases hlt : k < N
        · obtain ⟨AT, cT, hbt, -, -, -, hit⟩ := HT.out.open_ h1 h4
          obtain ⟨x, hx⟩ : ∃ x, s[k]? = some x := ⟨_, List.getElem?_eq_getElem (by rw [HS.out.1]; exact hlt)⟩
          have hxb := HS.out.2.2.2 x (List.mem_of_getElem? hx)
          obtain ⟨ad, u, hAs, hadB, hu, hcell⟩ := (Seen.of_own (OS.out.low bx.out)).at_ hlt
          have hu' : (u8s s)[k]? = some (.int .u8 x) := by
            unfold u8s
            rw [List.getElem?_map, hx]
            rfl
          rw [hu'] at hu
          injection hu with hu
          subst hu
          subst hAs
          rw [Nat.one_mul] at hbt hit
          have BT := hide (show Box wr gT 27 #[.int .i64 1, .int .i64 N, .slice AT N cT] from hbt)
          have PUT := hide (u_put hr hit 0 k x PG.plain (by omega) (by have := HN.out; omega) (by omega) (by omega) (SP.out.below bx.out SP.out.lt))
          have EL := hide (show PG.putI (PG.lets s k) 0 k x PG.plain = PG.lets s (k + 1) from by show _ = PG.putI (PG.lets s k) 0 k (s[k]?.getD 32) PG.plain; rw [hx]; rfl)
          obtain ⟨m0, m1, m2, -, -, -⟩ := BT.out.three
          obtain ⟨q0, q1, q2, -, -, -⟩ := (BP.out.below bx.out BP.out.lt).three
          have HK := hide hlt
          have HKI : (k : Int) < (N : Int) := by omega
          have hk9 : k ≤ 9 := by have := HN.out; omega
          clear hr h1 h4 hbt hit HT hx hu'
          go_wp2_with (
            go_at_call 10
            go_must (refine PUT.out.mono ?_)
            rintro e w5 ⟨v, rfl, ⟨s1, rfl, ho⟩, b5⟩
            obtain ⟨sA, sc, rfl, _⟩ := own_form' ho
            have hst := hide (store_grid (B := wB.heap.size) (BT.out.below b5 BT.out.lt) rfl rfl rfl ⟨_, rfl, ho⟩ HGT.out)
            have hb5 := BT.out.below b5 BT.out.lt
            clear m0 m1 m2 q0 q1 q2
            obtain ⟨m0, m1, m2, f0, f1, f2⟩ := hb5.three
            have bx := hide (bx.out.trans (b5.mono bx.out.size))
            unfold gv
            clear hb5 b5)
          go_roundw
          case rel => exact ⟨k + 1, by have := HK.out; omega, by go_num, by rw [← EL.out]; exact hide hst.out.1, hide (bx.out.trans hst.out.2)⟩
          case measure => exact meas_rows HK.out
        · obtain rfl : k = N := by omega
          go_wp2_with fail
          go_meet
          exact ⟨HT.out, bx.out⟩
  case rest =>
  obtain ⟨hT, bc⟩ := hcut
  have HT := hide hT
  have BX := hide bc
  clear hT bc
  obtain ⟨k, hk, hkN⟩ : ∃ k : Nat, 0 + c % ((N : Int) - 1 - 0 + 1) = k ∧ k < N := by
    have e : (N : Int) - 1 - 0 + 1 = N := by omega
    have h1 := Int.emod_nonneg c (show (N : Int) ≠ 0 by omega)
    have h2 := Int.emod_lt_of_pos c (show (0 : Int) < N by omega)
    rw [e]
    exact ⟨(c % (N : Int)).toNat, by omega, by omega⟩
  obtain ⟨q, hq, hqN⟩ : ∃ q : Nat, 0 + m % ((N : Int) - 1 - 0 + 1) = q ∧ q < N := by
    have e : (N : Int) - 1 - 0 + 1 = N := by omega
    have h1 := Int.emod_nonneg m (show (N : Int) ≠ 0 by omega)
    have h2 := Int.emod_lt_of_pos m (show (0 : Int) < N by omega)
    rw [e]
    exact ⟨(m % (N : Int)).toNat, by omega, by omega⟩
  obtain ⟨ans, hans1, hans2⟩ : ∃ f : Int → Int, f c = k ∧ f m = q := by
    by_cases e : c = m
    · subst e
      exact ⟨fun _ => k, rfl, hk.symm.trans hq⟩
    · exact ⟨fun z => if z = c then k else q, if_pos rfl, if_neg (fun h => e h.symm)⟩
  have WI := hide (show ∀ (z : Int) (w' : World), z = c ∨ z = m → Calls Tryd.prog 18 #[.int .i64 z, .int .i64 0, .int .i64 ((N : Int) - 1)] w' fun e w'' => e = .returned (.int .i64 (ans z)) ∧ w' = w'' from by
    rintro z w' (rfl | rfl)
    · rw [hans1]
      exact within_is z 0 ((N : Int) - 1) k hk w' HC.out.1 HC.out.2 (by omega) (by omega) (by have := HN.out; omega)
    · rw [hans2]
      exact within_is z 0 ((N : Int) - 1) q hq w' HM.out.1 HM.out.2 (by omega) (by omega) (by have := HN.out; omega))
  have HKQ := hide (show k < N ∧ q < N from ⟨hkN, hqN⟩)
  have HAN := hide (And.intro hans1 hans2)
  clear hk hkN hq hqN hans1 hans2
  go_upto_region 15 with fail
  rename World => w6
  go_cut [13, 14] from 62 to 71 (fun u v wx => (u = .int .i64 k ∧ v = .int .i64 q) ∧ wx = w6)
  case first =>
    as_aux_lemma =>
      have hN9 := HN.out
      go_wp2_with (
        go_at_call 18
        go_must (refine (WI.out _ _ ?_).mono ?_)
        (first | exact .inl rfl | exact .inr rfl)
        rintro e w' ⟨rfl, rfl⟩)
      go_meet
      exact ⟨⟨by rw [HAN.out.1], by rw [HAN.out.2]⟩, rfl⟩
  case rest =>
  obtain ⟨⟨rfl, rfl⟩, rfl⟩ := hcut
  clear WI HAN HC HM
  go_upto_block 4 with fail
  rename World => w6
  go_cut [15] from 72 to 78 (fun u wx => (∃ A3 c3, u = .slice A3 q c3 ∧ q ≤ c3 ∧ c3 ≤ maxLen ∧ OwnB wx w6.heap.size (List.replicate q 32) A3 q c3) ∧ Below w6.heap.size w6 wx)
  case first =>
    as_aux_lemma =>
      have hqb : q ≤ 9 := by have := HKQ.out; have := HN.out; omega
      go_wp2_with fail
      go_loopw [15, 73] (fun v i wr => ∃ (j : Nat) (A2 : Option Addr) (c2 : Nat), j ≤ q ∧ v = .slice A2 j c2 ∧ i = .int .i64 j ∧ Hid (wr.ownsRow w6.heap.size 5 1 (.slice A2 j c2) j (u8s (List.replicate j 32))) ∧ Hid (Below w6.heap.size w6 wr)) (fun v i _ => q - (intOf i).toNat)
      case atStart => exact ⟨0, none, 0, Nat.zero_le _, rfl, rfl, hide (World.ownsRow_nil _ _ _ _), hide (Below.refl _ _)⟩
      case round =>
        obtain ⟨j, A2, c2, hjq, rfl, rfl, ho, bx⟩ := hrel
        by_cases hlt : j < q
        · have HJ := hide hlt
          have HNX := hide (show u8s (List.replicate j 32) ++ [.int .u8 32] = u8s (List.replicate (j + 1) 32) by
            rw [List.replicate_succ']
            simp [u8s])
          go_wp2_with (
               at_builtin
               go_must (refine wpList_app1 rfl (.tmp 75) (.tmp 76) 52 rfl w6.heap.size 5 i0 _ 1 Tryd.underlying52 hi hz0 hz1 hz2 rfl (.slice A2 j c2) j _ rfl ho.out _ _ _ rfl rfl rfl (by omega) (by omega) bx.out.size ?_)
               intro v1 w1 hown1 hg1 hm1
               have b1 := hide (bx.out.grown hg1 bx.out.size (fun b hb => (ho.out.lt b hb).1))
               rw [HNX.out] at hown1
               obtain ⟨A1, c1, rfl, _⟩ := own_form' hown1
               have hown1 := hide hown1
               clear hg1 hm1)
          go_roundw
          case rel => exact ⟨j + 1, A1, c1, by have := HJ.out; omega, rfl, by go_num, hown1, b1⟩
          case measure => exact meas_rows HJ.out
        · obtain rfl : j = q := by omega
          have HF := hide (own_form' ho.out)
          go_wp2_with fail
          go_meet
          obtain ⟨A3, c3, e3, h3, h4, _⟩ := HF.out
          injection e3 with e31 e32 e33
          subst e31 e33
          exact ⟨⟨A2, c2, rfl, h3, h4, ho.out⟩, bx.out⟩
  case rest =>
  obtain ⟨⟨Ab, cb, rfl, hcb, hcbm, hob⟩, bc⟩ := hcut
  have OB := hide hob
  have OS := hide ((OS.out.low BX.out).low bc)
  have BP := hide ((BP.out.below BX.out BP.out.lt).below bc (by have := (BP.out.below BX.out BP.out.lt).lt; exact this))
  have HT := hide (HT.out.low bc)
  have SP := hide ((SP.out.below BX.out SP.out.lt).keep bc)
  have BB := hide (BB.out.trans ((BX.out.trans (bc.mono BX.out.size)).mono BB.out.size))
  clear bc hob BX HGT
  rename World => w7
  obtain ⟨ad, hAs⟩ : ∃ ad, As = some ad := by
    obtain ⟨ad, _, h, _⟩ := (Seen.of_own OS.out).at_ (show 0 < N by have := HN.out; omega)
    exact ⟨ad, h⟩
  subst hAs
  have hkN : k ≤ N := by have := HKQ.out; omega
  have hkcs : k ≤ cs := by omega
  have hcsk : ¬ cs = k := by have := HKQ.out; omega
  have hk9 : k ≤ 9 := by have := HKQ.out; have := HN.out; omega
  have hq9 : q ≤ 9 := by have := HKQ.out; have := HN.out; omega
  have hN9 : N ≤ 9 := HN.out.2
  go_upto_region 21 with fail
  have HL1 := hide (show u8s ([] : List Int) ++ u8s (s.take k) = u8s (s.take k) from rfl)
  have HLN := hide (show (s.take k).length = k ∧ (s.take k ++ List.replicate q 32).length = k + q ∧ (s.take k ++ List.replicate q 32 ++ s.drop k).length = N + q ∧ k ≤ 9 ∧ q ≤ 9 ∧ N ≤ 9 ∧ k ≤ N from by
    have := HS.out.1
    simp
    omega)
  have SNk := hide (show ∀ w', Below w7.heap.size w7 w' → Seen w' w'.heap.size (some ad) k (u8s (s.take k)) from fun w' b => by
    have h := (Seen.of_own (OS.out.low b)).take (k := k) hkN
    simpa [u8s, List.map_take] using h)
  have SNd := hide (show ∀ w', Below w7.heap.size w7 w' → Seen w' w'.heap.size (some (ad.add k)) (N - k) (u8s (s.drop k)) from fun w' b => by
    have h := (Seen.of_own (OS.out.low b)).drop (k := k) (cap := cs) hkN hcs
    rw [if_neg hcsk] at h
    simpa [u8s, List.map_drop] using h)
  have SNb := hide (show ∀ w', Below w7.heap.size w7 w' → Seen w' w'.heap.size Ab q (u8s (List.replicate q 32)) from fun w' b => Seen.of_own (OB.out.low b))
  have HLT := hide (show (s.take k ++ List.replicate q 32 ++ s.drop k).take N = PG.inT s k q from by unfold PG.inT; rw [HS.out.1, List.append_assoc])
  have HL1 := hide (show ∀ (w' : World) (v : Value), w'.ownsRow w7.heap.size 5 1 v (0 + k) ([] ++ u8s (s.take k)) = w'.ownsRow w7.heap.size 5 1 v (s.take k).length (u8s (s.take k)) from fun w' v => by rw [HLN.out.1, Nat.zero_add, List.nil_append])
  have HL2 := hide (show ∀ (w' : World) (v : Value), w'.ownsRow w7.heap.size 5 1 v ((s.take k).length + q) (u8s (s.take k) ++ u8s (List.replicate q 32)) = w'.ownsRow w7.heap.size 5 1 v (s.take k ++ List.replicate q 32).length (u8s (s.take k ++ List.replicate q 32)) from fun w' v => by rw [List.length_append, List.length_replicate]; simp [u8s])
  have HL3 := hide (show ∀ (w' : World) (v : Value), w'.ownsRow w7.heap.size 5 1 v ((s.take k ++ List.replicate q 32).length + (N - k)) (u8s (s.take k ++ List.replicate q 32) ++ u8s (s.drop k)) = w'.ownsRow w7.heap.size 5 1 v (s.take k ++ List.replicate q 32 ++ s.drop k).length (u8s (s.take k ++ List.replicate q 32 ++ s.drop k)) from fun w' v => by
    have h := HLN.out
    rw [h.2.2.1, h.2.1, show k + q + (N - k) = N + q by omega]
    simp [u8s])
  go_cut [16] from 79 to 93 (fun u wx => u = (.string (strOfNums (PG.inT s k q))) ∧ Below w7.heap.size w7 wx)
  case first =>
    as_aux_lemma =>
      refine wp_region_vals (n := 177) (CJ 16 0 4 6 10 13 w7 N (s.take k) (s.take k ++ List.replicate q 32) (s.take k ++ List.replicate q 32 ++ s.drop k) (fun j => [undef, (.slice (some ad) N cs), (.int .i64 k), (.slice (some ad) k cs), undef, (.slice Ab q cb), undef, (.slice (some ad) N cs), (.int .i64 k), (.slice (some (ad.add k)) (N - k) (cs - k)), undef, (.slice (some ad) N cs), (.int .i64 N), undef, (.string (strOfNums (PG.inT s k q))), (.string (strOfNums (PG.inT s k q)))].getD j undef)) (by kernel_rfl) (by kernel_rfl) (by kernel_rfl) rfl (fun L u u' wx he hj => hj.same (by decide) he) (cases16 ⟨?_, ?_, ?_, ?_, ?_, ?_, ?_, ?_, ?_, ?_, ?_, ?_, ?_, ?_, ?_, ?_⟩) ?_ ⟨(Below.refl _ _).drew, (fun j _ h => by cases h), (fun h => by cases h), (fun h => by cases h), (fun h => by cases h), (fun h => by cases h), (fun h => by cases h)⟩
      · intro L a w' hL hsame hsz hJ hdep hcl
        refine Step.val _ rfl rfl (wanted_none rfl) (.slice (some ⟨w'.heap.size, 0, none⟩) 0 0) (w'.alloc (.cells #[] 5)) (fun ρ hρ => ?_) (hJ.s0 (by decide) ⟨not_came hcl hL (by kernel_rfl), not_came hcl (not_came hcl hL (i := 4) (by kernel_rfl)) (by kernel_rfl), not_came hcl (not_came hcl (not_came hcl hL (i := 4) (by kernel_rfl)) (i := 6) (by kernel_rfl)) (by kernel_rfl), not_came hcl (not_came hcl (not_came hcl (not_came hcl hL (i := 4) (by kernel_rfl)) (i := 6) (by kernel_rfl)) (i := 10) (by kernel_rfl)) (by kernel_rfl)⟩ _ (hJ.bel.alloc hJ.bel.size _) (own_lit0 _ rfl hJ.bel.size))
        clear hJ hsame hdep hcl hρ hsz
        go_simp
      · intro L a w' hL hsame hsz hJ hdep hcl
        have e0 : a.eval (.tmp 7) = (.slice (some ad) N cs) := eval_base hsame (by kernel_rfl)
        refine Step.val _ rfl rfl (wanted_none rfl) (.slice (some ad) N cs) w' (fun ρ hρ => ?_) (hJ.val (by decide) _ rfl)
        rw [hρ] at e0
        clear hJ hsame hdep hcl hρ hsz
        go_simp
      · intro L a w' hL hsame hsz hJ hdep hcl
        have e0 : a.eval (.tmp 13) = (.int .i64 k) := eval_base hsame (by kernel_rfl)
        refine Step.val _ rfl rfl (wanted_none rfl) (.int .i64 k) w' (fun ρ hρ => ?_) (hJ.val (by decide) _ rfl)
        rw [hρ] at e0
        clear hJ hsame hdep hcl hρ hsz
        go_simp
      · intro L a w' hL hsame hsz hJ hdep hcl
        have e0 : a.eval (.tmp 80) = (.slice (some ad) N cs) := eval_slot (j := 1) (by kernel_rfl) (hJ.all 1 (by decide) (dep_of hdep 1 (by kernel_rfl)) (by decide) (by decide) (by decide) (by decide) (by decide))
        have e1 : a.eval (.tmp 81) = (.int .i64 k) := eval_slot (j := 2) (by kernel_rfl) (hJ.all 2 (by decide) (dep_of hdep 2 (by kernel_rfl)) (by decide) (by decide) (by decide) (by decide) (by decide))
        refine Step.val _ rfl rfl (wanted_none rfl) (.slice (some ad) k cs) w' (fun ρ hρ => ?_) (hJ.val (by decide) _ rfl)
        rw [hρ] at e0 e1
        clear hJ hsame hdep hcl hρ hsz
        go_simp
      · intro L a w' hL hsame hsz hJ hdep hcl
        have e1 : a.eval (.tmp 82) = (.slice (some ad) k cs) := eval_slot (j := 3) (by kernel_rfl) (hJ.all 3 (by decide) (dep_of hdep 3 (by kernel_rfl)) (by decide) (by decide) (by decide) (by decide) (by decide))
        have hown := hJ.a0 (dep_of hdep 0 (by kernel_rfl)) hL
        refine Step.app _ rfl rfl rfl (.tmp 79) (.tmp 82) 52 rfl w7.heap.size 5 i0 _ 1 Tryd.underlying52 hi hz0 hz1 hz2 rfl _ 0 _ (eval_slot (j := 0) (by kernel_rfl) rfl) hown _ (some ad) k _ (u8s (s.take k)) e1 (SNk.out w' hJ.bel) (ints_one _ _) (by omega) (by have := HLN.out; omega) hJ.bel.size (fun v2 w2 o2 g2 => ?_)
        have b2 := hJ.bel.grown g2 hJ.bel.size (fun b hb => (hown.lt b hb).1)
        exact hJ.s1 (by decide) ⟨not_came hcl hL (by kernel_rfl), not_came hcl (not_came hcl hL (i := 6) (by kernel_rfl)) (by kernel_rfl), not_came hcl (not_came hcl (not_came hcl hL (i := 6) (by kernel_rfl)) (i := 10) (by kernel_rfl)) (by kernel_rfl)⟩ v2 b2 (by have h := o2; rw [HL1.out] at h; exact h)
      · intro L a w' hL hsame hsz hJ hdep hcl
        have e0 : a.eval (.tmp 15) = (.slice Ab q cb) := eval_base hsame (by kernel_rfl)
        refine Step.val _ rfl rfl (wanted_none rfl) (.slice Ab q cb) w' (fun ρ hρ => ?_) (hJ.val (by decide) _ rfl)
        rw [hρ] at e0
        clear hJ hsame hdep hcl hρ hsz
        go_simp
      · intro L a w' hL hsame hsz hJ hdep hcl
        have e1 : a.eval (.tmp 84) = (.slice Ab q cb) := eval_slot (j := 5) (by kernel_rfl) (hJ.all 5 (by decide) (dep_of hdep 5 (by kernel_rfl)) (by decide) (by decide) (by decide) (by decide) (by decide))
        have hown := hJ.a1 (dep_of hdep 4 (by kernel_rfl)) hL
        refine Step.app _ rfl rfl rfl (.tmp 83) (.tmp 84) 52 rfl w7.heap.size 5 i0 _ 1 Tryd.underlying52 hi hz0 hz1 hz2 rfl _ (s.take k).length _ (eval_slot (j := 4) (by kernel_rfl) rfl) hown _ Ab q _ (u8s (List.replicate q 32)) e1 (SNb.out w' hJ.bel) (ints_one _ _) (by omega) (by have := HLN.out; omega) hJ.bel.size (fun v2 w2 o2 g2 => ?_)
        have b2 := hJ.bel.grown g2 hJ.bel.size (fun b hb => (hown.lt b hb).1)
        exact hJ.s2 (by decide) ⟨not_came hcl hL (by kernel_rfl), not_came hcl (not_came hcl hL (i := 10) (by kernel_rfl)) (by kernel_rfl), dep_of hdep 4 (by kernel_rfl)⟩ v2 b2 (by have h := o2; rw [HL2.out] at h; exact h)
      · intro L a w' hL hsame hsz hJ hdep hcl
        have e0 : a.eval (.tmp 7) = (.slice (some ad) N cs) := eval_base hsame (by kernel_rfl)
        refine Step.val _ rfl rfl (wanted_none rfl) (.slice (some ad) N cs) w' (fun ρ hρ => ?_) (hJ.val (by decide) _ rfl)
        rw [hρ] at e0
        clear hJ hsame hdep hcl hρ hsz
        go_simp
      · intro L a w' hL hsame hsz hJ hdep hcl
        have e0 : a.eval (.tmp 13) = (.int .i64 k) := eval_base hsame (by kernel_rfl)
        refine Step.val _ rfl rfl (wanted_none rfl) (.int .i64 k) w' (fun ρ hρ => ?_) (hJ.val (by decide) _ rfl)
        rw [hρ] at e0
        clear hJ hsame hdep hcl hρ hsz
        go_simp
      · intro L a w' hL hsame hsz hJ hdep hcl
        have e0 : a.eval (.tmp 86) = (.slice (some ad) N cs) := eval_slot (j := 7) (by kernel_rfl) (hJ.all 7 (by decide) (dep_of hdep 7 (by kernel_rfl)) (by decide) (by decide) (by decide) (by decide) (by decide))
        have e1 : a.eval (.tmp 87) = (.int .i64 k) := eval_slot (j := 8) (by kernel_rfl) (hJ.all 8 (by decide) (dep_of hdep 8 (by kernel_rfl)) (by decide) (by decide) (by decide) (by decide) (by decide))
        refine Step.val _ rfl rfl (wanted_none rfl) (.slice (some (ad.add k)) (N - k) (cs - k)) w' (fun ρ hρ => ?_) (hJ.val (by decide) _ rfl)
        rw [hρ] at e0 e1
        clear hJ hsame hdep hcl hρ hsz
        go_simp
      · intro L a w' hL hsame hsz hJ hdep hcl
        have e1 : a.eval (.tmp 88) = (.slice (some (ad.add k)) (N - k) (cs - k)) := eval_slot (j := 9) (by kernel_rfl) (hJ.all 9 (by decide) (dep_of hdep 9 (by kernel_rfl)) (by decide) (by decide) (by decide) (by decide) (by decide))
        have hown := hJ.a2 (dep_of hdep 6 (by kernel_rfl)) hL
        refine Step.app _ rfl rfl rfl (.tmp 85) (.tmp 88) 52 rfl w7.heap.size 5 i0 _ 1 Tryd.underlying52 hi hz0 hz1 hz2 rfl _ (s.take k ++ List.replicate q 32).length _ (eval_slot (j := 6) (by kernel_rfl) rfl) hown _ (some (ad.add k)) (N - k) _ (u8s (s.drop k)) e1 (SNd.out w' hJ.bel) (ints_one _ _) (by omega) (by have := HLN.out; omega) hJ.bel.size (fun v2 w2 o2 g2 => ?_)
        have b2 := hJ.bel.grown g2 hJ.bel.size (fun b hb => (hown.lt b hb).1)
        exact hJ.s3 (by decide) ⟨not_came hcl hL (by kernel_rfl), came hcl (dep_of hdep 6 (by kernel_rfl)) (by kernel_rfl), dep_of hdep 6 (by kernel_rfl)⟩ v2 b2 (by have h := o2; rw [HL3.out] at h; exact h)
      · intro L a w' hL hsame hsz hJ hdep hcl
        have e0 : a.eval (.tmp 7) = (.slice (some ad) N cs) := eval_base hsame (by kernel_rfl)
        refine Step.val _ rfl rfl (wanted_none rfl) (.slice (some ad) N cs) w' (fun ρ hρ => ?_) (hJ.val (by decide) _ rfl)
        rw [hρ] at e0
        clear hJ hsame hdep hcl hρ hsz
        go_simp
      · intro L a w' hL hsame hsz hJ hdep hcl
        have e0 : a.eval (.tmp 90) = (.slice (some ad) N cs) := eval_slot (j := 11) (by kernel_rfl) (hJ.all 11 (by decide) (dep_of hdep 11 (by kernel_rfl)) (by decide) (by decide) (by decide) (by decide) (by decide))
        refine Step.val _ rfl rfl (wanted_none rfl) (.int .i64 N) w' (fun ρ hρ => ?_) (hJ.val (by decide) _ rfl)
        rw [hρ] at e0
        clear hJ hsame hdep hcl hρ hsz
        go_simp
      · intro L a w' hL hsame hsz hJ hdep hcl
        have e1 : a.eval (.tmp 91) = (.int .i64 N) := eval_slot (j := 12) (by kernel_rfl) (hJ.all 12 (by decide) (dep_of hdep 12 (by kernel_rfl)) (by decide) (by decide) (by decide) (by decide) (by decide))
        have hown := hJ.a3 (dep_of hdep 10 (by kernel_rfl))
        obtain ⟨A9, c9, e9, h91, h92, _⟩ := own_form' hown
        have e0 : a.eval (.tmp 89) = .slice A9 ((s.take k ++ List.replicate q 32 ++ s.drop k)).length c9 := eval_slot (j := 10) (by kernel_rfl) e9
        have h93 : N ≤ ((s.take k ++ List.replicate q 32 ++ s.drop k)).length := by have := HLN.out; omega
        have h94 : N ≤ c9 := by omega
        refine Step.val _ rfl rfl (wanted_none rfl) (.slice A9 N c9) w' (fun ρ hρ => ?_) (hJ.s4 (by decide) e9)
        rw [hρ] at e0 e1
        generalize ((s.take k ++ List.replicate q 32 ++ s.drop k)).length = n9 at *
        clear hJ hsame hdep hcl hρ hsz hown e9
        go_simp
      · intro L a w' hL hsame hsz hJ hdep hcl
        obtain ⟨A9, c9, c8, e8, e9⟩ := hJ.a4 (dep_of hdep 13 (by kernel_rfl))
        have hown := hJ.a3 (came hcl (dep_of hdep 13 (by kernel_rfl)) (by kernel_rfl))
        have e0 : a.eval (.tmp 92) = .slice A9 N c8 := eval_slot (j := 13) (by kernel_rfl) e9
        rw [show valOf _ 10 a = .slice A9 ((s.take k ++ List.replicate q 32 ++ s.drop k)).length c9 from e8] at hown
        have hcv := conv_seenE (c := c8) (l := ((s.take k ++ List.replicate q 32 ++ s.drop k)).take N) (by have h := (Seen.of_own hown).take (k := N) (by have := HLN.out; omega); simpa [u8s, List.map_take] using h)
        rw [HLT.out] at hcv
        refine Step.val _ rfl rfl (wanted_none rfl) (.string (strOfNums (PG.inT s k q))) w' (fun ρ hρ => ?_) (hJ.val (by decide) _ rfl)
        rw [hρ] at e0
        clear hJ hsame hdep hcl hρ hsz hown e8 e9
        go_simp
      · intro L a w' hL hsame hsz hJ hdep hcl
        have e0 : a.eval (.tmp 93) = (.string (strOfNums (PG.inT s k q))) := eval_slot (j := 14) (by kernel_rfl) (hJ.all 14 (by decide) (dep_of hdep 14 (by kernel_rfl)) (by decide) (by decide) (by decide) (by decide) (by decide))
        refine Step.val _ rfl rfl (wanted_none rfl) (.string (strOfNums (PG.inT s k q))) w' (fun ρ hρ => ?_) (hJ.val (by decide) _ rfl)
        rw [hρ] at e0
        clear hJ hsame hdep hcl hρ hsz
        go_simp
      · intro L a w' hsame hsz hJ hall
        obtain ⟨u, hu, ha⟩ := act_puts hsame
        have h := hide (And.intro ((hu 15).trans (hJ.all 15 (by decide) (hall 15 (by decide)) (by decide) (by decide) (by decide) (by decide) (by decide))) hJ.bel)
        clear hJ hall hsz hu hsame
        subst ha
        change Exit.then _ _ Exit.normal (Act.put (Act.put (Act.put (Act.put (Act.put (Act.put (Act.put (Act.put (Act.put (Act.put (Act.put (Act.put (Act.put (Act.put (Act.put (Act.put (putAll _ u 0 _) (some 79) (u 0)) (some 80) (u 1)) (some 81) (u 2)) (some 82) (u 3)) (some 83) (u 4)) (some 84) (u 5)) (some 85) (u 6)) (some 86) (u 7)) (some 87) (u 8)) (some 88) (u 9)) (some 89) (u 10)) (some 90) (u 11)) (some 91) (u 12)) (some 92) (u 13)) (some 93) (u 14)) (some 16) (u 15)) _
        simp only [putAll]
        generalize u 0 = v0 at *
        generalize u 1 = v1 at *
        generalize u 2 = v2 at *
        generalize u 3 = v3 at *
        generalize u 4 = v4 at *
        generalize u 5 = v5 at *
        generalize u 6 = v6 at *
        generalize u 7 = v7 at *
        generalize u 8 = v8 at *
        generalize u 9 = v9 at *
        generalize u 10 = v10 at *
        generalize u 11 = v11 at *
        generalize u 12 = v12 at *
        generalize u 13 = v13 at *
        generalize u 14 = v14 at *
        generalize u 15 = v15 at *
        go_simp
        go_step
        go_meet
        exact h.out
  case rest =>
  obtain ⟨rfl, bc⟩ := hcut
  have OB := hide (OB.out.low bc)
  have OS := hide (OS.out.low bc)
  have BP := hide (BP.out.below bc BP.out.lt)
  have HT := hide (HT.out.low bc)
  have SP := hide (SP.out.keep bc)
  have BB := hide (BB.out.trans (bc.mono BB.out.size))
  clear bc SNk SNb HL1 HL2 HL3 HLN HLT
  rename World => w8
  clear SNd
  generalize HIS : strOfNums (PG.inT s k q) = inS at *
  have HIS := hide HIS
  obtain ⟨mm, HMM⟩ : ∃ mm : Nat, (k + q ≤ N ∧ mm = k + q) ∨ (N < k + q ∧ mm = N) := ⟨min (k + q) N, by omega⟩
  have HMM := hide HMM
  have hmN : mm ≤ N := by have := HMM.out; omega
  have hmcs : mm ≤ cs := by omega
  have wkq : IntKind.i64.wrap ((k : Int) + (q : Int)) = (k : Int) + (q : Int) := IntWalk.i64_in _ (by omega)
  go_upto_region 22 with fail
  have HLN := hide (show (s.take k).length = k ∧ (s.take k ++ s.drop mm).length = k + (N - mm) ∧ (s.take k ++ s.drop mm ++ List.replicate q 32).length = k + (N - mm) + q ∧ k ≤ 9 ∧ q ≤ 9 ∧ N ≤ 9 ∧ k ≤ N ∧ N ≤ k + (N - mm) + q from by
    have := HS.out.1
    have := HMM.out
    simp
    omega)
  have SNk := hide (show ∀ w', Below w8.heap.size w8 w' → Seen w' w'.heap.size (some ad) k (u8s (s.take k)) from fun w' b => by
    have h := (Seen.of_own (OS.out.low b)).take (k := k) hkN
    simpa [u8s, List.map_take] using h)
  have SNd := hide (show ∀ w', Below w8.heap.size w8 w' → Seen w' w'.heap.size (if cs = mm then some ad else some (ad.add mm)) (N - mm) (u8s (s.drop mm)) from fun w' b => by
    have h := (Seen.of_own (OS.out.low b)).drop (k := mm) (cap := cs) hmN hcs
    simpa [u8s, List.map_drop] using h)
  have SNb := hide (show ∀ w', Below w8.heap.size w8 w' → Seen w' w'.heap.size Ab q (u8s (List.replicate q 32)) from fun w' b => Seen.of_own (OB.out.low b))
  have HLT := hide (show (s.take k ++ s.drop mm ++ List.replicate q 32).take N = PG.outT s k q from by
    unfold PG.outT
    rw [HS.out.1, List.append_assoc, show min (k + q) N = mm by have := HMM.out; omega])
  have HL1 := hide (show ∀ (w' : World) (v : Value), w'.ownsRow w8.heap.size 5 1 v (0 + k) ([] ++ u8s (s.take k)) = w'.ownsRow w8.heap.size 5 1 v (s.take k).length (u8s (s.take k)) from fun w' v => by rw [HLN.out.1, Nat.zero_add, List.nil_append])
  have HL2 := hide (show ∀ (w' : World) (v : Value), w'.ownsRow w8.heap.size 5 1 v ((s.take k).length + (N - mm)) (u8s (s.take k) ++ u8s (s.drop mm)) = w'.ownsRow w8.heap.size 5 1 v (s.take k ++ s.drop mm).length (u8s (s.take k ++ s.drop mm)) from fun w' v => by rw [HLN.out.2.1, HLN.out.1]; simp [u8s])
  have HL3 := hide (show ∀ (w' : World) (v : Value), w'.ownsRow w8.heap.size 5 1 v ((s.take k ++ s.drop mm).length + q) (u8s (s.take k ++ s.drop mm) ++ u8s (List.replicate q 32)) = w'.ownsRow w8.heap.size 5 1 v (s.take k ++ s.drop mm ++ List.replicate q 32).length (u8s (s.take k ++ s.drop mm ++ List.replicate q 32)) from fun w' v => by
    rw [HLN.out.2.2.1, HLN.out.2.1]
    simp [u8s])
  go_cut [17] from 94 to 113 (fun u wx => u = (.string (strOfNums (PG.outT s k q))) ∧ Below w8.heap.size w8 wx)
  case first =>
    as_aux_lemma =>
      refine wp_region_vals (n := 177) (CJ 21 0 4 13 15 18 w8 N (s.take k) (s.take k ++ s.drop mm) (s.take k ++ s.drop mm ++ List.replicate q 32) (fun j => [undef, (.slice (some ad) N cs), (.int .i64 k), (.slice (some ad) k cs), undef, (.slice (some ad) N cs), (.int .i64 k), (.int .i64 q), (.int .i64 ((k : Int) + (q : Int))), (.slice (some ad) N cs), (.int .i64 N), (.int .i64 mm), (.slice (if cs = mm then some ad else some (ad.add mm)) (N - mm) (cs - mm)), undef, (.slice Ab q cb), undef, (.slice (some ad) N cs), (.int .i64 N), undef, (.string (strOfNums (PG.outT s k q))), (.string (strOfNums (PG.outT s k q)))].getD j undef)) (by kernel_rfl) (by kernel_rfl) (by kernel_rfl) rfl (fun L u u' wx he hj => hj.same (by decide) he) (cases21 ⟨?_, ?_, ?_, ?_, ?_, ?_, ?_, ?_, ?_, ?_, ?_, ?_, ?_, ?_, ?_, ?_, ?_, ?_, ?_, ?_, ?_⟩) ?_ ⟨(Below.refl _ _).drew, (fun j _ h => by cases h), (fun h => by cases h), (fun h => by cases h), (fun h => by cases h), (fun h => by cases h), (fun h => by cases h)⟩
      · intro L a w' hL hsame hsz hJ hdep hcl
        refine Step.val _ rfl rfl (wanted_none rfl) (.slice (some ⟨w'.heap.size, 0, none⟩) 0 0) (w'.alloc (.cells #[] 5)) (fun ρ hρ => ?_) (hJ.s0 (by decide) ⟨not_came hcl hL (by kernel_rfl), not_came hcl (not_came hcl hL (i := 4) (by kernel_rfl)) (by kernel_rfl), not_came hcl (not_came hcl (not_came hcl hL (i := 4) (by kernel_rfl)) (i := 13) (by kernel_rfl)) (by kernel_rfl), not_came hcl (not_came hcl (not_came hcl (not_came hcl hL (i := 4) (by kernel_rfl)) (i := 13) (by kernel_rfl)) (i := 15) (by kernel_rfl)) (by kernel_rfl)⟩ _ (hJ.bel.alloc hJ.bel.size _) (own_lit0 _ rfl hJ.bel.size))
        clear hJ hsame hdep hcl hρ hsz
        go_simp
      · intro L a w' hL hsame hsz hJ hdep hcl
        have e0 : a.eval (.tmp 7) = (.slice (some ad) N cs) := eval_base hsame (by kernel_rfl)
        refine Step.val _ rfl rfl (wanted_none rfl) (.slice (some ad) N cs) w' (fun ρ hρ => ?_) (hJ.val (by decide) _ rfl)
        rw [hρ] at e0
        clear hJ hsame hdep hcl hρ hsz
        go_simp
      · intro L a w' hL hsame hsz hJ hdep hcl
        have e0 : a.eval (.tmp 13) = (.int .i64 k) := eval_base hsame (by kernel_rfl)
        refine Step.val _ rfl rfl (wanted_none rfl) (.int .i64 k) w' (fun ρ hρ => ?_) (hJ.val (by decide) _ rfl)
        rw [hρ] at e0
        clear hJ hsame hdep hcl hρ hsz
        go_simp
      · intro L a w' hL hsame hsz hJ hdep hcl
        have e0 : a.eval (.tmp 95) = (.slice (some ad) N cs) := eval_slot (j := 1) (by kernel_rfl) (hJ.all 1 (by decide) (dep_of hdep 1 (by kernel_rfl)) (by decide) (by decide) (by decide) (by decide) (by decide))
        have e1 : a.eval (.tmp 96) = (.int .i64 k) := eval_slot (j := 2) (by kernel_rfl) (hJ.all 2 (by decide) (dep_of hdep 2 (by kernel_rfl)) (by decide) (by decide) (by decide) (by decide) (by decide))
        refine Step.val _ rfl rfl (wanted_none rfl) (.slice (some ad) k cs) w' (fun ρ hρ => ?_) (hJ.val (by decide) _ rfl)
        rw [hρ] at e0 e1
        clear hJ hsame hdep hcl hρ hsz
        go_simp
      · intro L a w' hL hsame hsz hJ hdep hcl
        have e1 : a.eval (.tmp 97) = (.slice (some ad) k cs) := eval_slot (j := 3) (by kernel_rfl) (hJ.all 3 (by decide) (dep_of hdep 3 (by kernel_rfl)) (by decide) (by decide) (by decide) (by decide) (by decide))
        have hown := hJ.a0 (dep_of hdep 0 (by kernel_rfl)) hL
        refine Step.app _ rfl rfl rfl (.tmp 94) (.tmp 97) 52 rfl w8.heap.size 5 i0 _ 1 Tryd.underlying52 hi hz0 hz1 hz2 rfl _ 0 _ (eval_slot (j := 0) (by kernel_rfl) rfl) hown _ (some ad) k _ (u8s (s.take k)) e1 (SNk.out w' hJ.bel) (ints_one _ _) (by omega) (by have := HLN.out; omega) hJ.bel.size (fun v2 w2 o2 g2 => ?_)
        have b2 := hJ.bel.grown g2 hJ.bel.size (fun b hb => (hown.lt b hb).1)
        exact hJ.s1 (by decide) ⟨not_came hcl hL (by kernel_rfl), not_came hcl (not_came hcl hL (i := 13) (by kernel_rfl)) (by kernel_rfl), not_came hcl (not_came hcl (not_came hcl hL (i := 13) (by kernel_rfl)) (i := 15) (by kernel_rfl)) (by kernel_rfl)⟩ v2 b2 (by have h := o2; rw [HL1.out] at h; exact h)
      · intro L a w' hL hsame hsz hJ hdep hcl
        have e0 : a.eval (.tmp 7) = (.slice (some ad) N cs) := eval_base hsame (by kernel_rfl)
        refine Step.val _ rfl rfl (wanted_none rfl) (.slice (some ad) N cs) w' (fun ρ hρ => ?_) (hJ.val (by decide) _ rfl)
        rw [hρ] at e0
        clear hJ hsame hdep hcl hρ hsz
        go_simp
      · intro L a w' hL hsame hsz hJ hdep hcl
        have e0 : a.eval (.tmp 13) = (.int .i64 k) := eval_base hsame (by kernel_rfl)
        refine Step.val _ rfl rfl (wanted_none rfl) (.int .i64 k) w' (fun ρ hρ => ?_) (hJ.val (by decide) _ rfl)
        rw [hρ] at e0
        clear hJ hsame hdep hcl hρ hsz
        go_simp
      · intro L a w' hL hsame hsz hJ hdep hcl
        have e0 : a.eval (.tmp 14) = (.int .i64 q) := eval_base hsame (by kernel_rfl)
        refine Step.val _ rfl rfl (wanted_none rfl) (.int .i64 q) w' (fun ρ hρ => ?_) (hJ.val (by decide) _ rfl)
        rw [hρ] at e0
        clear hJ hsame hdep hcl hρ hsz
        go_simp
      · intro L a w' hL hsame hsz hJ hdep hcl
        have e0 : a.eval (.tmp 100) = (.int .i64 k) := eval_slot (j := 6) (by kernel_rfl) (hJ.all 6 (by decide) (dep_of hdep 6 (by kernel_rfl)) (by decide) (by decide) (by decide) (by decide) (by decide))
        have e1 : a.eval (.tmp 101) = (.int .i64 q) := eval_slot (j := 7) (by kernel_rfl) (hJ.all 7 (by decide) (dep_of hdep 7 (by kernel_rfl)) (by decide) (by decide) (by decide) (by decide) (by decide))
        refine Step.val _ rfl rfl (wanted_none rfl) (.int .i64 ((k : Int) + (q : Int))) w' (fun ρ hρ => ?_) (hJ.val (by decide) _ rfl)
        rw [hρ] at e0 e1
        clear hJ hsame hdep hcl hρ hsz
        go_simp
      · intro L a w' hL hsame hsz hJ hdep hcl
        have e0 : a.eval (.tmp 7) = (.slice (some ad) N cs) := eval_base hsame (by kernel_rfl)
        refine Step.val _ rfl rfl (wanted_none rfl) (.slice (some ad) N cs) w' (fun ρ hρ => ?_) (hJ.val (by decide) _ rfl)
        rw [hρ] at e0
        clear hJ hsame hdep hcl hρ hsz
        go_simp
      · intro L a w' hL hsame hsz hJ hdep hcl
        have e0 : a.eval (.tmp 103) = (.slice (some ad) N cs) := eval_slot (j := 9) (by kernel_rfl) (hJ.all 9 (by decide) (dep_of hdep 9 (by kernel_rfl)) (by decide) (by decide) (by decide) (by decide) (by decide))
        refine Step.val _ rfl rfl (wanted_none rfl) (.int .i64 N) w' (fun ρ hρ => ?_) (hJ.val (by decide) _ rfl)
        rw [hρ] at e0
        clear hJ hsame hdep hcl hρ hsz
        go_simp
      · intro L a w' hL hsame hsz hJ hdep hcl
        have e0 : a.eval (.tmp 102) = (.int .i64 ((k : Int) + (q : Int))) := eval_slot (j := 8) (by kernel_rfl) (hJ.all 8 (by decide) (dep_of hdep 8 (by kernel_rfl)) (by decide) (by decide) (by decide) (by decide) (by decide))
        have e1 : a.eval (.tmp 104) = (.int .i64 N) := eval_slot (j := 10) (by kernel_rfl) (hJ.all 10 (by decide) (dep_of hdep 10 (by kernel_rfl)) (by decide) (by decide) (by decide) (by decide) (by decide))
        refine Step.val _ rfl rfl (wanted_none rfl) (.int .i64 mm) w' (fun ρ hρ => ?_) (hJ.val (by decide) _ rfl)
        rw [hρ] at e0 e1
        clear hJ hsame hdep hcl hρ hsz
        rcases HMM.out with ⟨h1, h2⟩ | ⟨h1, h2⟩
        · have h1' : (k : Int) + (q : Int) ≤ (N : Int) := by omega
          have h2' : (k : Int) + (q : Int) = (mm : Int) := by omega
          clear h1 h2
          go_simp
          intro h3
          omega
        · have h1' : (N : Int) < (k : Int) + (q : Int) := by omega
          subst h2
          clear h1
          go_simp
      · intro L a w' hL hsame hsz hJ hdep hcl
        have e0 : a.eval (.tmp 99) = (.slice (some ad) N cs) := eval_slot (j := 5) (by kernel_rfl) (hJ.all 5 (by decide) (dep_of hdep 5 (by kernel_rfl)) (by decide) (by decide) (by decide) (by decide) (by decide))
        have e1 : a.eval (.tmp 105) = (.int .i64 mm) := eval_slot (j := 11) (by kernel_rfl) (hJ.all 11 (by decide) (dep_of hdep 11 (by kernel_rfl)) (by decide) (by decide) (by decide) (by decide) (by decide))
        refine Step.val _ rfl rfl (wanted_none rfl) (.slice (if cs = mm then some ad else some (ad.add mm)) (N - mm) (cs - mm)) w' (fun ρ hρ => ?_) (hJ.val (by decide) _ rfl)
        rw [hρ] at e0 e1
        clear hJ hsame hdep hcl hρ hsz
        go_simp
      · intro L a w' hL hsame hsz hJ hdep hcl
        have e1 : a.eval (.tmp 106) = (.slice (if cs = mm then some ad else some (ad.add mm)) (N - mm) (cs - mm)) := eval_slot (j := 12) (by kernel_rfl) (hJ.all 12 (by decide) (dep_of hdep 12 (by kernel_rfl)) (by decide) (by decide) (by decide) (by decide) (by decide))
        have hown := hJ.a1 (dep_of hdep 4 (by kernel_rfl)) hL
        refine Step.app _ rfl rfl rfl (.tmp 98) (.tmp 106) 52 rfl w8.heap.size 5 i0 _ 1 Tryd.underlying52 hi hz0 hz1 hz2 rfl _ (s.take k).length _ (eval_slot (j := 4) (by kernel_rfl) rfl) hown _ (if cs = mm then some ad else some (ad.add mm)) (N - mm) _ (u8s (s.drop mm)) e1 (SNd.out w' hJ.bel) (ints_one _ _) (by omega) (by have := HLN.out; omega) hJ.bel.size (fun v2 w2 o2 g2 => ?_)
        have b2 := hJ.bel.grown g2 hJ.bel.size (fun b hb => (hown.lt b hb).1)
        exact hJ.s2 (by decide) ⟨not_came hcl hL (by kernel_rfl), not_came hcl (not_came hcl hL (i := 15) (by kernel_rfl)) (by kernel_rfl), dep_of hdep 4 (by kernel_rfl)⟩ v2 b2 (by have h := o2; rw [HL2.out] at h; exact h)
      · intro L a w' hL hsame hsz hJ hdep hcl
        have e0 : a.eval (.tmp 15) = (.slice Ab q cb) := eval_base hsame (by kernel_rfl)
        refine Step.val _ rfl rfl (wanted_none rfl) (.slice Ab q cb) w' (fun ρ hρ => ?_) (hJ.val (by decide) _ rfl)
        rw [hρ] at e0
        clear hJ hsame hdep hcl hρ hsz
        go_simp
      · intro L a w' hL hsame hsz hJ hdep hcl
        have e1 : a.eval (.tmp 108) = (.slice Ab q cb) := eval_slot (j := 14) (by kernel_rfl) (hJ.all 14 (by decide) (dep_of hdep 14 (by kernel_rfl)) (by decide) (by decide) (by decide) (by decide) (by decide))
        have hown := hJ.a2 (dep_of hdep 13 (by kernel_rfl)) hL
        refine Step.app _ rfl rfl rfl (.tmp 107) (.tmp 108) 52 rfl w8.heap.size 5 i0 _ 1 Tryd.underlying52 hi hz0 hz1 hz2 rfl _ (s.take k ++ s.drop mm).length _ (eval_slot (j := 13) (by kernel_rfl) rfl) hown _ Ab q _ (u8s (List.replicate q 32)) e1 (SNb.out w' hJ.bel) (ints_one _ _) (by omega) (by have := HLN.out; omega) hJ.bel.size (fun v2 w2 o2 g2 => ?_)
        have b2 := hJ.bel.grown g2 hJ.bel.size (fun b hb => (hown.lt b hb).1)
        exact hJ.s3 (by decide) ⟨not_came hcl hL (by kernel_rfl), came hcl (dep_of hdep 13 (by kernel_rfl)) (by kernel_rfl), dep_of hdep 13 (by kernel_rfl)⟩ v2 b2 (by have h := o2; rw [HL3.out] at h; exact h)
      · intro L a w' hL hsame hsz hJ hdep hcl
        have e0 : a.eval (.tmp 7) = (.slice (some ad) N cs) := eval_base hsame (by kernel_rfl)
        refine Step.val _ rfl rfl (wanted_none rfl) (.slice (some ad) N cs) w' (fun ρ hρ => ?_) (hJ.val (by decide) _ rfl)
        rw [hρ] at e0
        clear hJ hsame hdep hcl hρ hsz
        go_simp
      · intro L a w' hL hsame hsz hJ hdep hcl
        have e0 : a.eval (.tmp 110) = (.slice (some ad) N cs) := eval_slot (j := 16) (by kernel_rfl) (hJ.all 16 (by decide) (dep_of hdep 16 (by kernel_rfl)) (by decide) (by decide) (by decide) (by decide) (by decide))
        refine Step.val _ rfl rfl (wanted_none rfl) (.int .i64 N) w' (fun ρ hρ => ?_) (hJ.val (by decide) _ rfl)
        rw [hρ] at e0
        clear hJ hsame hdep hcl hρ hsz
        go_simp
      · intro L a w' hL hsame hsz hJ hdep hcl
        have e1 : a.eval (.tmp 111) = (.int .i64 N) := eval_slot (j := 17) (by kernel_rfl) (hJ.all 17 (by decide) (dep_of hdep 17 (by kernel_rfl)) (by decide) (by decide) (by decide) (by decide) (by decide))
        have hown := hJ.a3 (dep_of hdep 15 (by kernel_rfl))
        obtain ⟨A9, c9, e9, h91, h92, _⟩ := own_form' hown
        have e0 : a.eval (.tmp 109) = .slice A9 ((s.take k ++ s.drop mm ++ List.replicate q 32)).length c9 := eval_slot (j := 15) (by kernel_rfl) e9
        have h93 : N ≤ ((s.take k ++ s.drop mm ++ List.replicate q 32)).length := by have := HLN.out; omega
        have h94 : N ≤ c9 := by omega
        refine Step.val _ rfl rfl (wanted_none rfl) (.slice A9 N c9) w' (fun ρ hρ => ?_) (hJ.s4 (by decide) e9)
        rw [hρ] at e0 e1
        generalize ((s.take k ++ s.drop mm ++ List.replicate q 32)).length = n9 at *
        clear hJ hsame hdep hcl hρ hsz hown e9
        go_simp
      · intro L a w' hL hsame hsz hJ hdep hcl
        obtain ⟨A9, c9, c8, e8, e9⟩ := hJ.a4 (dep_of hdep 18 (by kernel_rfl))
        have hown := hJ.a3 (came hcl (dep_of hdep 18 (by kernel_rfl)) (by kernel_rfl))
        have e0 : a.eval (.tmp 112) = .slice A9 N c8 := eval_slot (j := 18) (by kernel_rfl) e9
        rw [show valOf _ 15 a = .slice A9 ((s.take k ++ s.drop mm ++ List.replicate q 32)).length c9 from e8] at hown
        have hcv := conv_seenE (c := c8) (l := ((s.take k ++ s.drop mm ++ List.replicate q 32)).take N) (by have h := (Seen.of_own hown).take (k := N) (by have := HLN.out; omega); simpa [u8s, List.map_take] using h)
        rw [HLT.out] at hcv
        refine Step.val _ rfl rfl (wanted_none rfl) (.string (strOfNums (PG.outT s k q))) w' (fun ρ hρ => ?_) (hJ.val (by decide) _ rfl)
        rw [hρ] at e0
        clear hJ hsame hdep hcl hρ hsz hown e8 e9
        go_simp
      · intro L a w' hL hsame hsz hJ hdep hcl
        have e0 : a.eval (.tmp 113) = (.string (strOfNums (PG.outT s k q))) := eval_slot (j := 19) (by kernel_rfl) (hJ.all 19 (by decide) (dep_of hdep 19 (by kernel_rfl)) (by decide) (by decide) (by decide) (by decide) (by decide))
        refine Step.val _ rfl rfl (wanted_none rfl) (.string (strOfNums (PG.outT s k q))) w' (fun ρ hρ => ?_) (hJ.val (by decide) _ rfl)
        rw [hρ] at e0
        clear hJ hsame hdep hcl hρ hsz
        go_simp
      · intro L a w' hsame hsz hJ hall
        obtain ⟨u, hu, ha⟩ := act_puts hsame
        have h := hide (And.intro ((hu 20).trans (hJ.all 20 (by decide) (hall 20 (by decide)) (by decide) (by decide) (by decide) (by decide) (by decide))) hJ.bel)
        clear hJ hall hsz hu hsame
        subst ha
        change Exit.then _ _ Exit.normal (Act.put (Act.put (Act.put (Act.put (Act.put (Act.put (Act.put (Act.put (Act.put (Act.put (Act.put (Act.put (Act.put (Act.put (Act.put (Act.put (Act.put (Act.put (Act.put (Act.put (Act.put (putAll _ u 0 _) (some 94) (u 0)) (some 95) (u 1)) (some 96) (u 2)) (some 97) (u 3)) (some 98) (u 4)) (some 99) (u 5)) (some 100) (u 6)) (some 101) (u 7)) (some 102) (u 8)) (some 103) (u 9)) (some 104) (u 10)) (some 105) (u 11)) (some 106) (u 12)) (some 107) (u 13)) (some 108) (u 14)) (some 109) (u 15)) (some 110) (u 16)) (some 111) (u 17)) (some 112) (u 18)) (some 113) (u 19)) (some 17) (u 20)) _
        simp only [putAll]
        generalize u 0 = v0 at *
        generalize u 1 = v1 at *
        generalize u 2 = v2 at *
        generalize u 3 = v3 at *
        generalize u 4 = v4 at *
        generalize u 5 = v5 at *
        generalize u 6 = v6 at *
        generalize u 7 = v7 at *
        generalize u 8 = v8 at *
        generalize u 9 = v9 at *
        generalize u 10 = v10 at *
        generalize u 11 = v11 at *
        generalize u 12 = v12 at *
        generalize u 13 = v13 at *
        generalize u 14 = v14 at *
        generalize u 15 = v15 at *
        generalize u 16 = v16 at *
        generalize u 17 = v17 at *
        generalize u 18 = v18 at *
        generalize u 19 = v19 at *
        generalize u 20 = v20 at *
        go_simp
        go_step
        go_meet
        exact h.out
  case rest =>
  obtain ⟨rfl, bc⟩ := hcut
  have OB := hide (OB.out.low bc)
  have OS := hide (OS.out.low bc)
  have BP := hide (BP.out.below bc BP.out.lt)
  have HT := hide (HT.out.low bc)
  have SP := hide (SP.out.keep bc)
  have BB := hide (BB.out.trans (bc.mono BB.out.size))
  clear bc SNk SNb HL1 HL2 HL3 HLN HLT
  rename World => w9
  clear SNd HMM hmN hmcs wkq
  generalize HOS : strOfNums (PG.outT s k q) = outS at *
  have HOS := hide HOS
  obtain ⟨hr, h1, h4, -, -⟩ := PG.lets_all HS.out.2.1 HS.out.2.2.1 HS.out.2.2.2 N (by rw [HS.out.1]; exact Nat.le_refl _)
  rw [HS.out.1] at h4
  have hrow := PG.lets_row HS.out.2.1 HS.out.2.2.1 HS.out.2.2.2
  have hsg := hrow.singles
  rw [HS.out.1] at hsg
  obtain ⟨AT, cT, hbt, -, -, -, hit⟩ := HT.out.open_ h1 h4
  rw [Nat.one_mul] at hbt hit
  have BT := hide (show Box w9 gT 27 #[.int .i64 1, .int .i64 N, .slice AT N cT] from hbt)
  have IT := hide (show IsG w9 (PG.lets s N) (.agg #[.int .i64 1, .int .i64 N, .slice AT N cT]) from hit)
  have HR := hide (show PG.RightG (PG.lets s N) ∧ (PG.lets s N).rows = 1 ∧ (PG.lets s N).cols = N ∧ PG.Singles ((PG.lets s N).f 0) N from ⟨hr, h1, h4, hsg⟩)
  have bk : -1000 ≤ (k : Int) ∧ (k : Int) ≤ 1000 := by omega
  clear hbt hit hr h1 h4 hrow hsg HT
  go_upto_region 23 with fail
  go_cut [18] from 114 to 120 (fun u18 wx => (GVar w9.heap.size (PG.lineI (PG.lineI (PG.lets s N) 0 k 0 PG.plain) 0 k 1 PG.plain) u18 wx) ∧ Below w9.heap.size w9 wx)
  case first =>
    as_aux_lemma =>
      refine wp_region_rj (n := 177) [] (fun _ => #[]) [(0, 0, 0, 0), (0, 0, 0, 0), (0, 0, 0, 0), (1, 0, 0, 0), (0, 0, 0, 0), (0, 0, 0, 0), (1, 0, 0, 0), (2, 0, 0, 27), (3, 7, 6, 27)] (fun j => [(.agg #[.int .i64 1, .int .i64 N, .slice AT N cT]), (.int .i64 k), (.agg #[.int .i64 (-1), .int .i64 (-1), .int .i64 0]), undef, (.int .i64 k), (.agg #[.int .i64 (-1), .int .i64 (-1), .int .i64 0]), undef, undef, undef].getD j undef) (fun j => [PG.dflt, PG.dflt, PG.dflt, (PG.lineI (PG.lets s N) 0 k 0 PG.plain), PG.dflt, PG.dflt, (PG.lineI (PG.lineI (PG.lets s N) 0 k 0 PG.plain) 0 k 1 PG.plain), PG.dflt, PG.dflt].getD j PG.dflt) (fun _ => 0) (by kernel_rfl) (by kernel_rfl) (by kernel_rfl) rfl (by kernel_rfl) (no4 rfl) (fun i j h => by revert h; exact no4 (p := fun _ => _) rfl i) (fun hRS => cases9 ⟨?_, ?_, ?_, ?_, ?_, ?_, ?_, ?_, ?_⟩) ?_
      · intro L a w' hL hsame hsz hJ hdep hcl
        have e0 : a.eval (.tmp 10) = (.pointer (some ⟨gT, 0, none⟩)) := eval_base hsame (by kernel_rfl)
        have hb := hJ.keptBox BT.out (by simp)
        have q0 : w'.cell? ⟨gT, 0, none⟩ = some (.int .i64 1) := hb.cell 0
        have q1 : w'.cell? ⟨gT, 1, none⟩ = some (.int .i64 N) := hb.cell 1
        have q2 : w'.cell? ⟨gT, 2, none⟩ = some (.slice AT N cT) := hb.cell 2
        refine Step.val _ rfl rfl (wanted_none rfl) (.agg #[.int .i64 1, .int .i64 N, .slice AT N cT]) w' (fun ρ hρ => ?_) (hJ.val hRS hcl hL rfl (Below.refl _ _) _ rfl)
        rw [hρ] at e0
        clear hb
        clear hJ hsame hdep hcl hρ hsz
        go_simp
      · intro L a w' hL hsame hsz hJ hdep hcl
        have e0 : a.eval (.tmp 13) = (.int .i64 k) := eval_base hsame (by kernel_rfl)
        refine Step.val _ rfl rfl (wanted_none rfl) (.int .i64 k) w' (fun ρ hρ => ?_) (hJ.val hRS hcl hL rfl (Below.refl _ _) _ rfl)
        rw [hρ] at e0
        clear hJ hsame hdep hcl hρ hsz
        go_simp
      · intro L a w' hL hsame hsz hJ hdep hcl
        have e0 : a.eval (.tmp 9) = (.pointer (some ⟨gP, 0, none⟩)) := eval_base hsame (by kernel_rfl)
        have hb := hJ.keptBox BP.out (by simp)
        have q0 : w'.cell? ⟨gP, 0, none⟩ = some (.int .i64 (-1)) := hb.cell 0
        have q1 : w'.cell? ⟨gP, 1, none⟩ = some (.int .i64 (-1)) := hb.cell 1
        have q2 : w'.cell? ⟨gP, 2, none⟩ = some (.int .i64 0) := hb.cell 2
        refine Step.val _ rfl rfl (wanted_none rfl) (.agg #[.int .i64 (-1), .int .i64 (-1), .int .i64 0]) w' (fun ρ hρ => ?_) (hJ.val hRS hcl hL rfl (Below.refl _ _) _ rfl)
        rw [hρ] at e0
        clear hb
        clear hJ hsame hdep hcl hρ hsz
        go_simp
      · intro L a w' hL hsame hsz hJ hdep hcl
        have e0 : a.eval (.tmp 114) = (.agg #[.int .i64 1, .int .i64 N, .slice AT N cT]) := eval_slot (j := 0) (by kernel_rfl) (hJ.valOf (by decide) (dep_of hdep 0 (by kernel_rfl)) rfl rfl)
        have e2 : a.eval (.tmp 115) = (.int .i64 k) := eval_slot (j := 1) (by kernel_rfl) (hJ.valOf (by decide) (dep_of hdep 1 (by kernel_rfl)) rfl rfl)
        have e4 : a.eval (.tmp 116) = (.agg #[.int .i64 (-1), .int .i64 (-1), .int .i64 0]) := eval_slot (j := 2) (by kernel_rfl) (hJ.valOf (by decide) (dep_of hdep 2 (by kernel_rfl)) rfl rfl)
        refine Step.call _ rfl rfl (wanted_none rfl) 24 #[.agg #[.int .i64 1, .int .i64 N, .slice AT N cT], .int .i64 0, .int .i64 k, .int .i64 0, .agg #[.int .i64 (-1), .int .i64 (-1), .int .i64 0]] (fun ρ hρ => ?_) ?_
        · skip
          rw [hρ] at e0 e2 e4
          have ec0 : ρ (.const (.int .i64 0)) = (.int .i64 0) := (hρ _).symm
          have ef : ρ (.func 24) = .func (.func 24) #[] #[] := (hρ _).symm
          clear hJ hsame hdep hcl hρ hsz
          go_simp
        · refine (u_line HR.out.1 (IT.out.low (hJ.kept.toBelow (Nat.le_refl _) (by simp))) 0 k 0 PG.plain PG.plain_ok (by omega) bk).mono ?_
          rintro e w2 ⟨v, rfl, hg, bb⟩
          exact ⟨v, rfl, hJ.grid hRS hcl hL rfl bb v hg⟩
      · intro L a w' hL hsame hsz hJ hdep hcl
        have e0 : a.eval (.tmp 13) = (.int .i64 k) := eval_base hsame (by kernel_rfl)
        refine Step.val _ rfl rfl (wanted_none rfl) (.int .i64 k) w' (fun ρ hρ => ?_) (hJ.val hRS hcl hL rfl (Below.refl _ _) _ rfl)
        rw [hρ] at e0
        clear hJ hsame hdep hcl hρ hsz
        go_simp
      · intro L a w' hL hsame hsz hJ hdep hcl
        have e0 : a.eval (.tmp 9) = (.pointer (some ⟨gP, 0, none⟩)) := eval_base hsame (by kernel_rfl)
        have hb := hJ.keptBox BP.out (by simp)
        have q0 : w'.cell? ⟨gP, 0, none⟩ = some (.int .i64 (-1)) := hb.cell 0
        have q1 : w'.cell? ⟨gP, 1, none⟩ = some (.int .i64 (-1)) := hb.cell 1
        have q2 : w'.cell? ⟨gP, 2, none⟩ = some (.int .i64 0) := hb.cell 2
        refine Step.val _ rfl rfl (wanted_none rfl) (.agg #[.int .i64 (-1), .int .i64 (-1), .int .i64 0]) w' (fun ρ hρ => ?_) (hJ.val hRS hcl hL rfl (Below.refl _ _) _ rfl)
        rw [hρ] at e0
        clear hb
        clear hJ hsame hdep hcl hρ hsz
        go_simp
      · intro L a w' hL hsame hsz hJ hdep hcl
        obtain ⟨v3, hv3, hG3⟩ := hJ.gridAt (j := 3) (by decide) (dep_of hdep 3 (by kernel_rfl)) rfl
        have hG3 : IsG w' (PG.lineI (PG.lets s N) 0 k 0 PG.plain) v3 := hG3
        have e0 : a.eval (.tmp 117) = v3 := eval_slot (j := 3) (by kernel_rfl) hv3
        have e2 : a.eval (.tmp 118) = (.int .i64 k) := eval_slot (j := 4) (by kernel_rfl) (hJ.valOf (by decide) (dep_of hdep 4 (by kernel_rfl)) rfl rfl)
        have e4 : a.eval (.tmp 119) = (.agg #[.int .i64 (-1), .int .i64 (-1), .int .i64 0]) := eval_slot (j := 5) (by kernel_rfl) (hJ.valOf (by decide) (dep_of hdep 5 (by kernel_rfl)) rfl rfl)
        refine Step.call _ rfl rfl (wanted_none rfl) 24 #[v3, .int .i64 0, .int .i64 k, .int .i64 1, .agg #[.int .i64 (-1), .int .i64 (-1), .int .i64 0]] (fun ρ hρ => ?_) ?_
        · skip
          rw [hρ] at e0 e2 e4
          have ec0 : ρ (.const (.int .i64 0)) = (.int .i64 0) := (hρ _).symm
          have ec1 : ρ (.const (.int .i64 1)) = (.int .i64 1) := (hρ _).symm
          have ef : ρ (.func 24) = .func (.func 24) #[] #[] := (hρ _).symm
          clear hJ hsame hdep hcl hρ hsz
          go_simp
        · refine (u_line (PG.right_lineI HR.out.1 PG.plain_ok 0 k 0) hG3 0 k 1 PG.plain PG.plain_ok (by omega) bk).mono ?_
          rintro e w2 ⟨v, rfl, hg, bb⟩
          exact ⟨v, rfl, hJ.grid hRS hcl hL rfl bb v hg⟩
      · intro L a w' hL hsame hsz hJ hdep hcl
        refine Step.val _ rfl rfl (wanted_none rfl) (.pointer (some ⟨w'.heap.size, 0, none⟩)) (w'.alloc (.cells #[.int .i64 0, .int .i64 0, .slice none 0 0] 27)) (fun ρ hρ => ?_) (hJ.box hRS hcl hL rfl 27 rfl (.int .i64 0) (.int .i64 0) (.slice none 0 0))
        clear hJ hsame hdep hcl hρ hsz
        go_simp
      · intro L a w' hL hsame hsz hJ hdep hcl
        obtain ⟨sv, hsv, hso⟩ := hJ.gridOf (by decide) (dep_of hdep 6 (by kernel_rfl)) rfl
        obtain ⟨sA, sc, rfl, _⟩ := own_form' hso
        have es : a.eval (.tmp 120) = .agg #[.int .i64 ((PG.lineI (PG.lineI (PG.lets s N) 0 k 0 PG.plain) 0 k 1 PG.plain)).rows, .int .i64 ((PG.lineI (PG.lineI (PG.lets s N) 0 k 0 PG.plain) 0 k 1 PG.plain)).cols, .slice sA (((PG.lineI (PG.lineI (PG.lets s N) 0 k 0 PG.plain) 0 k 1 PG.plain)).rows * ((PG.lineI (PG.lineI (PG.lets s N) 0 k 0 PG.plain) 0 k 1 PG.plain)).cols) sc] := eval_slot (j := 6) (by kernel_rfl) hsv
        have la := dep_of hdep 7 (by kernel_rfl)
        obtain ⟨g, cs, hg, hg0, hb, hs3⟩ := hJ.boxOf (by decide) la rfl
        obtain ⟨c0, c1, c2, rfl⟩ := three_of hs3
        obtain ⟨m0, m1, m2, f0, f1, f2⟩ := hb.three
        have ea : a.eval (.tmp 18) = .pointer (some ⟨g, 0, none⟩) := eval_slot (j := 7) (by kernel_rfl) hg
        refine Step.skip _ rfl (wanted_none rfl) (set3 w' g (.int .i64 ((PG.lineI (PG.lineI (PG.lets s N) 0 k 0 PG.plain) 0 k 1 PG.plain)).rows) (.int .i64 ((PG.lineI (PG.lineI (PG.lets s N) 0 k 0 PG.plain) 0 k 1 PG.plain)).cols) (.slice sA (((PG.lineI (PG.lineI (PG.lets s N) 0 k 0 PG.plain) 0 k 1 PG.plain)).rows * ((PG.lineI (PG.lineI (PG.lets s N) 0 k 0 PG.plain) 0 k 1 PG.plain)).cols) sc)) (fun ρ hρ => ?_) (hJ.put hRS hcl hL rfl la (dep_of hdep 6 (by kernel_rfl)) hg hsv)
        rw [hρ] at es ea
        clear hJ hsame hdep hcl hρ hsz hg hb hso hsv
        unfold set3
        go_simp
      · intro L a w' hsame hsz hJ hall
        obtain ⟨u, hu, ha⟩ := act_puts hsame
        have h : (GVar w9.heap.size (PG.lineI (PG.lineI (PG.lets s N) 0 k 0 PG.plain) 0 k 1 PG.plain) (u 7) w') ∧ Below w9.heap.size w9 w' := by
          (try simp only [hu])
          exact (And.intro (hJ.var hall 8 (by decide) rfl rfl (by decide) rfl (by decide) rfl) (hJ.kept.toBelow (Nat.le_refl _) (by simp)))
        have h := hide h
        clear hJ hall hsz hu hsame
        subst ha
        change Exit.then _ _ Exit.normal (Act.put (Act.put (Act.put (Act.put (Act.put (Act.put (Act.put (Act.put (Act.put (putAll _ u 0 _) (some 114) (u 0)) (some 115) (u 1)) (some 116) (u 2)) (some 117) (u 3)) (some 118) (u 4)) (some 119) (u 5)) (some 120) (u 6)) (some 18) (u 7)) none (u 8)) _
        simp only [putAll]
        generalize u 0 = v0
        generalize u 1 = v1
        generalize u 2 = v2
        generalize u 3 = v3
        generalize u 4 = v4
        generalize u 5 = v5
        generalize u 6 = v6
        generalize u 7 = v7 at h ⊢
        generalize u 8 = v8
        go_simp
        go_step
        go_meet
        exact h.out
  case rest =>
  obtain ⟨⟨gB, rfl, -, hB⟩, bc⟩ := hcut
  have BB := hide (BB.out.trans (bc.mono BB.out.size))
  have OS := hide (OS.out.low bc)
  have SP := hide (SP.out.keep bc)
  have BP := hide (BP.out.below bc BP.out.lt)
  have BT := hide (BT.out.below bc BT.out.lt)
  have IT := hide (IT.out.low bc)
  have hbs : (PG.lineI (PG.lineI (PG.lets s N) 0 k 0 PG.plain) 0 k 1 PG.plain).rows = 1 ∧ (PG.lineI (PG.lineI (PG.lets s N) 0 k 0 PG.plain) 0 k 1 PG.plain).cols = N := ⟨by rw [(PG.lineI_size ..).1, (PG.lineI_size ..).1]; exact HR.out.2.1, by rw [(PG.lineI_size ..).2, (PG.lineI_size ..).2]; exact HR.out.2.2.1⟩
  obtain ⟨AB, cB, hbb, -, -, -, hib⟩ := hB.open_ hbs.1 hbs.2
  rw [Nat.one_mul] at hbb hib
  have BU := hide (show Box wc gB 27 #[.int .i64 1, .int .i64 N, .slice AB N cB] from hbb)
  have IB := hide (show IsG wc (PG.lineI (PG.lineI (PG.lets s N) 0 k 0 PG.plain) 0 k 1 PG.plain) (.agg #[.int .i64 1, .int .i64 N, .slice AB N cB]) from hib)
  clear hbs hbb hib hB bc
  have HKN := HKQ.out
  have TXI := hide (show ∀ (w' : World) (v : Value), IsG w' (PG.shiftI (PG.lets s N) 0 k q PG.plain) v → Calls Tryd.prog 12 #[v, .int .i64 0] w' fun e w'' => e = .returned (.string inS) ∧ Below w'.heap.size w' w'' from fun w' v h => by
    have := u_text (PG.right_shiftI HR.out.1 PG.plain_ok _ _ _) h 0 (by rw [(PG.shiftI_size ..).1, HR.out.2.1]; decide)
    have e := PG.text_in (k := k) (m := q) HS.out.2.1 HS.out.2.2.1 HS.out.2.2.2 (by rw [HS.out.1]; exact HKQ.out.1)
    rw [HS.out.1] at e
    rw [e, HIS.out] at this
    exact this)
  have TXD := hide (show k + q ≤ N → ∀ (w' : World) (v : Value), IsG w' (PG.shiftI (PG.lets s N) 0 k (-(q : Int)) PG.plain) v → Calls Tryd.prog 12 #[v, .int .i64 0] w' fun e w'' => e = .returned (.string outS) ∧ Below w'.heap.size w' w'' from fun hkq w' v h => by
    have := u_text (PG.right_shiftI HR.out.1 PG.plain_ok _ _ _) h 0 (by rw [(PG.shiftI_size ..).1, HR.out.2.1]; decide)
    have e := PG.text_out (k := k) (m := q) HS.out.2.1 HS.out.2.2.1 HS.out.2.2.2 (by rw [HS.out.1]; exact HKQ.out.1) (by rw [HS.out.1]; exact hkq)
    rw [HS.out.1] at e
    rw [e, HOS.out] at this
    exact this)
  have AL2 := hide (PG.line_both (g := (PG.lets s N)) (c := k) (p := PG.plain) HR.out.2.1 (by rw [HR.out.2.2.1]; exact HKN.1) (by rw [HR.out.2.2.1]; exact HR.out.2.2.2))
  have AL3 := hide (show PG.Alike (PG.lineI (PG.lets s N) 0 k 3 PG.plain) (PG.lets s N) from by
    have e : PG.lineI (PG.lets s N) 0 k 3 PG.plain = (PG.lets s N) := if_neg (by omega)
    rw [e]
    exact PG.Alike.refl _)
  have ALE := hide (PG.erase_line (g := (PG.lets s N)) (c := k) (p := PG.plain) HR.out.2.1 (by rw [HR.out.2.2.1]; exact HKN.1))
  have wkq : IntKind.i64.wrap ((k : Int) + (q : Int)) = (k : Int) + (q : Int) := IntWalk.i64_in _ (by omega)
  have bq : 0 ≤ (q : Int) ∧ (q : Int) ≤ 65535 := by omega
  go_upto_region 24 with fail
  go_cut [6] from 121 to 176 (fun u wx => u = .bool true ∧ Below wc.heap.size wc wx)
  case first =>
    as_aux_lemma =>
      by_cases hkq : N < k + q
      · have hq1 : (N : Int) < (k : Int) + (q : Int) := by omega
        refine wp_region_rj (n := 177) [] (fun _ => #[]) [(0, 0, 0, 0), (0, 0, 0, 0), (0, 0, 0, 0), (0, 0, 0, 0), (1, 0, 0, 0), (0, 0, 0, 0), (0, 0, 0, 0), (0, 0, 0, 0), (0, 0, 0, 0), (0, 0, 0, 0), (0, 0, 0, 0), (0, 0, 0, 0), (0, 0, 0, 0), (0, 0, 0, 0), (0, 0, 0, 0), (0, 0, 0, 0), (0, 0, 0, 0), (0, 0, 0, 0), (0, 0, 0, 0), (0, 0, 0, 0), (0, 0, 0, 0), (0, 0, 0, 0), (0, 0, 0, 0), (0, 0, 0, 0), (0, 0, 0, 0), (0, 0, 0, 0), (0, 0, 0, 0), (0, 0, 0, 0), (0, 0, 0, 0), (0, 0, 0, 0), (0, 0, 0, 0), (1, 0, 0, 0), (0, 0, 0, 0), (0, 0, 0, 0), (0, 0, 0, 0), (0, 0, 0, 0), (0, 0, 0, 0), (0, 0, 0, 0), (1, 0, 0, 0), (0, 0, 0, 0), (0, 0, 0, 0), (0, 0, 0, 0), (0, 0, 0, 0), (0, 0, 0, 0), (0, 0, 0, 0), (0, 0, 0, 0), (1, 0, 0, 0), (0, 0, 0, 0), (0, 0, 0, 0), (0, 0, 0, 0), (1, 0, 0, 0), (0, 0, 0, 0), (0, 0, 0, 0), (0, 0, 0, 0), (0, 0, 0, 0), (0, 0, 0, 0), (0, 0, 0, 0)] (fun j => [(.agg #[.int .i64 1, .int .i64 N, .slice AT N cT]), (.int .i64 k), (.int .i64 q), (.agg #[.int .i64 (-1), .int .i64 (-1), .int .i64 0]), undef, (.string inS), (.string inS), (.bool true), (.bool true), (.int .i64 k), (.int .i64 q), (.int .i64 ((k : Int) + (q : Int))), (.slice (some ad) N cs), (.int .i64 N), (.bool true), (.bool true), undef, undef, undef, undef, undef, undef, undef, undef, (.bool true), (.bool true), (.bool true), (.agg #[.int .i64 1, .int .i64 N, .slice AB N cB]), (.agg #[.int .i64 1, .int .i64 N, .slice AT N cT]), (.int .i64 k), (.agg #[.int .i64 (-1), .int .i64 (-1), .int .i64 0]), undef, (.bool true), (.bool true), (.bool true), (.agg #[.int .i64 1, .int .i64 N, .slice AT N cT]), (.int .i64 k), (.agg #[.int .i64 (-1), .int .i64 (-1), .int .i64 0]), undef, (.agg #[.int .i64 1, .int .i64 N, .slice AT N cT]), (.bool true), (.bool true), (.bool true), (.agg #[.int .i64 1, .int .i64 N, .slice AT N cT]), (.int .i64 k), (.agg #[.int .i64 (-1), .int .i64 (-1), .int .i64 0]), undef, (.agg #[.int .i64 1, .int .i64 N, .slice AT N cT]), (.int .i64 k), (.agg #[.int .i64 (-1), .int .i64 (-1), .int .i64 0]), undef, (.bool true), (.bool true), (.bool true), (.bool true), (.bool true), (.bool true)].getD j undef) (fun j => [PG.dflt, PG.dflt, PG.dflt, PG.dflt, (PG.shiftI (PG.lets s N) 0 k q PG.plain), PG.dflt, PG.dflt, PG.dflt, PG.dflt, PG.dflt, PG.dflt, PG.dflt, PG.dflt, PG.dflt, PG.dflt, PG.dflt, PG.dflt, PG.dflt, PG.dflt, PG.dflt, PG.dflt, PG.dflt, PG.dflt, PG.dflt, PG.dflt, PG.dflt, PG.dflt, PG.dflt, PG.dflt, PG.dflt, PG.dflt, (PG.lineI (PG.lets s N) 0 k 2 PG.plain), PG.dflt, PG.dflt, PG.dflt, PG.dflt, PG.dflt, PG.dflt, (PG.lineI (PG.lets s N) 0 k 3 PG.plain), PG.dflt, PG.dflt, PG.dflt, PG.dflt, PG.dflt, PG.dflt, PG.dflt, (PG.eraseI (PG.lets s N) 0 k 0 PG.plain), PG.dflt, PG.dflt, PG.dflt, (PG.lineI (PG.lets s N) 0 k 0 PG.plain), PG.dflt, PG.dflt, PG.dflt, PG.dflt, PG.dflt, PG.dflt].getD j PG.dflt) (fun _ => 0) (by kernel_rfl) (by kernel_rfl) (by kernel_rfl) rfl (by kernel_rfl) (no4 rfl) (fun i j h => by revert h; exact no4 (p := fun _ => _) rfl i) (fun hRS => cases57 ⟨?_, ?_, ?_, ?_, ?_, ?_, ?_, ?_, ?_, ?_, ?_, ?_, ?_, ?_, ?_, ?_, ?_, ?_, ?_, ?_, ?_, ?_, ?_, ?_, ?_, ?_, ?_, ?_, ?_, ?_, ?_, ?_, ?_, ?_, ?_, ?_, ?_, ?_, ?_, ?_, ?_, ?_, ?_, ?_, ?_, ?_, ?_, ?_, ?_, ?_, ?_, ?_, ?_, ?_, ?_, ?_, ?_⟩) ?_
        · intro L a w' hL hsame hsz hJ hdep hcl
          have e0 : a.eval (.tmp 10) = (.pointer (some ⟨gT, 0, none⟩)) := eval_base hsame (by kernel_rfl)
          have hb := hJ.keptBox BT.out (by simp)
          have q0 : w'.cell? ⟨gT, 0, none⟩ = some (.int .i64 1) := hb.cell 0
          have q1 : w'.cell? ⟨gT, 1, none⟩ = some (.int .i64 N) := hb.cell 1
          have q2 : w'.cell? ⟨gT, 2, none⟩ = some (.slice AT N cT) := hb.cell 2
          refine Step.val _ rfl rfl (wanted_none rfl) (.agg #[.int .i64 1, .int .i64 N, .slice AT N cT]) w' (fun ρ hρ => ?_) (hJ.val hRS hcl hL rfl (Below.refl _ _) _ rfl)
          rw [hρ] at e0
          clear hb
          clear hJ hsame hdep hcl hρ hsz
          go_simp
        · intro L a w' hL hsame hsz hJ hdep hcl
          have e0 : a.eval (.tmp 13) = (.int .i64 k) := eval_base hsame (by kernel_rfl)
          refine Step.val _ rfl rfl (wanted_none rfl) (.int .i64 k) w' (fun ρ hρ => ?_) (hJ.val hRS hcl hL rfl (Below.refl _ _) _ rfl)
          rw [hρ] at e0
          clear hJ hsame hdep hcl hρ hsz
          go_simp
        · intro L a w' hL hsame hsz hJ hdep hcl
          have e0 : a.eval (.tmp 14) = (.int .i64 q) := eval_base hsame (by kernel_rfl)
          refine Step.val _ rfl rfl (wanted_none rfl) (.int .i64 q) w' (fun ρ hρ => ?_) (hJ.val hRS hcl hL rfl (Below.refl _ _) _ rfl)
          rw [hρ] at e0
          clear hJ hsame hdep hcl hρ hsz
          go_simp
        · intro L a w' hL hsame hsz hJ hdep hcl
          have e0 : a.eval (.tmp 9) = (.pointer (some ⟨gP, 0, none⟩)) := eval_base hsame (by kernel_rfl)
          have hb := hJ.keptBox BP.out (by simp)
          have q0 : w'.cell? ⟨gP, 0, none⟩ = some (.int .i64 (-1)) := hb.cell 0
          have q1 : w'.cell? ⟨gP, 1, none⟩ = some (.int .i64 (-1)) := hb.cell 1
          have q2 : w'.cell? ⟨gP, 2, none⟩ = some (.int .i64 0) := hb.cell 2
          refine Step.val _ rfl rfl (wanted_none rfl) (.agg #[.int .i64 (-1), .int .i64 (-1), .int .i64 0]) w' (fun ρ hρ => ?_) (hJ.val hRS hcl hL rfl (Below.refl _ _) _ rfl)
          rw [hρ] at e0
          clear hb
          clear hJ hsame hdep hcl hρ hsz
          go_simp
        · intro L a w' hL hsame hsz hJ hdep hcl
          have e0 : a.eval (.tmp 121) = (.agg #[.int .i64 1, .int .i64 N, .slice AT N cT]) := eval_slot (j := 0) (by kernel_rfl) (hJ.valOf (by decide) (dep_of hdep 0 (by kernel_rfl)) rfl rfl)
          have e2 : a.eval (.tmp 122) = (.int .i64 k) := eval_slot (j := 1) (by kernel_rfl) (hJ.valOf (by decide) (dep_of hdep 1 (by kernel_rfl)) rfl rfl)
          have e3 : a.eval (.tmp 123) = (.int .i64 q) := eval_slot (j := 2) (by kernel_rfl) (hJ.valOf (by decide) (dep_of hdep 2 (by kernel_rfl)) rfl rfl)
          have e4 : a.eval (.tmp 124) = (.agg #[.int .i64 (-1), .int .i64 (-1), .int .i64 0]) := eval_slot (j := 3) (by kernel_rfl) (hJ.valOf (by decide) (dep_of hdep 3 (by kernel_rfl)) rfl rfl)
          refine Step.call _ rfl rfl (wanted_none rfl) 13 #[.agg #[.int .i64 1, .int .i64 N, .slice AT N cT], .int .i64 0, .int .i64 k, .int .i64 q, .agg #[.int .i64 (-1), .int .i64 (-1), .int .i64 0]] (fun ρ hρ => ?_) ?_
          · skip
            rw [hρ] at e0 e2 e3 e4
            have ec0 : ρ (.const (.int .i64 0)) = (.int .i64 0) := (hρ _).symm
            have ef : ρ (.func 13) = .func (.func 13) #[] #[] := (hρ _).symm
            clear hJ hsame hdep hcl hρ hsz
            go_simp
          · refine (u_insert HR.out.1 (IT.out.low (hJ.kept.toBelow (Nat.le_refl _) (by simp))) 0 k q PG.plain PG.plain_ok (by omega) bk bq).mono ?_
            rintro e w2 ⟨v, rfl, hg, bb⟩
            exact ⟨v, rfl, hJ.grid hRS hcl hL rfl bb v hg⟩
        · intro L a w' hL hsame hsz hJ hdep hcl
          obtain ⟨v4, hv4, hG4⟩ := hJ.gridAt (j := 4) (by decide) (dep_of hdep 4 (by kernel_rfl)) rfl
          have hG4 : IsG w' (PG.shiftI (PG.lets s N) 0 k q PG.plain) v4 := hG4
          have e0 : a.eval (.tmp 125) = v4 := eval_slot (j := 4) (by kernel_rfl) hv4
          refine Step.call _ rfl rfl (wanted_none rfl) 12 #[v4, .int .i64 0] (fun ρ hρ => ?_) ?_
          · skip
            rw [hρ] at e0
            have ec0 : ρ (.const (.int .i64 0)) = (.int .i64 0) := (hρ _).symm
            have ef : ρ (.func 12) = .func (.func 12) #[] #[] := (hρ _).symm
            clear hJ hsame hdep hcl hρ hsz
            go_simp
          · refine (TXI.out w' _ hG4).mono ?_
            rintro e w2 ⟨rfl, bb⟩
            exact ⟨_, rfl, hJ.val hRS hcl hL rfl bb _ rfl⟩
        · intro L a w' hL hsame hsz hJ hdep hcl
          have e0 : a.eval (.tmp 16) = (.string inS) := eval_base hsame (by kernel_rfl)
          refine Step.val _ rfl rfl (wanted_none rfl) (.string inS) w' (fun ρ hρ => ?_) (hJ.val hRS hcl hL rfl (Below.refl _ _) _ rfl)
          rw [hρ] at e0
          clear hJ hsame hdep hcl hρ hsz
          go_simp
        · intro L a w' hL hsame hsz hJ hdep hcl
          have e0 : a.eval (.tmp 126) = (.string inS) := eval_slot (j := 5) (by kernel_rfl) (hJ.valOf (by decide) (dep_of hdep 5 (by kernel_rfl)) rfl rfl)
          have e1 : a.eval (.tmp 127) = (.string inS) := eval_slot (j := 6) (by kernel_rfl) (hJ.valOf (by decide) (dep_of hdep 6 (by kernel_rfl)) rfl rfl)
          refine Step.val _ rfl rfl (wanted_none rfl) (.bool true) w' (fun ρ hρ => ?_) (hJ.val hRS hcl hL rfl (Below.refl _ _) _ rfl)
          rw [hρ] at e0 e1
          clear hJ hsame hdep hcl hρ hsz
          go_simp
        · intro L a w' hL hsame hsz hJ hdep hcl
          have e0 : a.eval (.tmp 128) = (.bool true) := eval_slot (j := 7) (by kernel_rfl) (hJ.valOf (by decide) (dep_of hdep 7 (by kernel_rfl)) rfl rfl)
          refine Step.val _ rfl rfl (wanted_none rfl) (.bool true) w' (fun ρ hρ => ?_) (hJ.val hRS hcl hL rfl (Below.refl _ _) _ rfl)
          rw [hρ] at e0
          clear hJ hsame hdep hcl hρ hsz
          go_simp
        · intro L a w' hL hsame hsz hJ hdep hcl
          have gd : valOf _ 8 a = .bool true := hJ.valOf (by decide) (dep_of hdep 8 (by kernel_rfl)) rfl rfl
          have e0 : a.eval (.tmp 13) = (.int .i64 k) := eval_base hsame (by kernel_rfl)
          refine Step.val _ rfl rfl (wanted_some (g := 8) (b := true) rfl gd) (.int .i64 k) w' (fun ρ hρ => ?_) (hJ.val hRS hcl hL rfl (Below.refl _ _) _ rfl)
          rw [hρ] at e0
          clear hJ hsame hdep hcl hρ hsz gd
          go_simp
        · intro L a w' hL hsame hsz hJ hdep hcl
          have gd : valOf _ 8 a = .bool true := hJ.valOf (by decide) (dep_of hdep 8 (by kernel_rfl)) rfl rfl
          have e0 : a.eval (.tmp 14) = (.int .i64 q) := eval_base hsame (by kernel_rfl)
          refine Step.val _ rfl rfl (wanted_some (g := 8) (b := true) rfl gd) (.int .i64 q) w' (fun ρ hρ => ?_) (hJ.val hRS hcl hL rfl (Below.refl _ _) _ rfl)
          rw [hρ] at e0
          clear hJ hsame hdep hcl hρ hsz gd
          go_simp
        · intro L a w' hL hsame hsz hJ hdep hcl
          have gd : valOf _ 8 a = .bool true := hJ.valOf (by decide) (dep_of hdep 8 (by kernel_rfl)) rfl rfl
          have e0 : a.eval (.tmp 130) = (.int .i64 k) := eval_slot (j := 9) (by kernel_rfl) (hJ.valOf (by decide) (dep_of hdep 9 (by kernel_rfl)) rfl rfl)
          have e1 : a.eval (.tmp 131) = (.int .i64 q) := eval_slot (j := 10) (by kernel_rfl) (hJ.valOf (by decide) (dep_of hdep 10 (by kernel_rfl)) rfl rfl)
          refine Step.val _ rfl rfl (wanted_some (g := 8) (b := true) rfl gd) (.int .i64 ((k : Int) + (q : Int))) w' (fun ρ hρ => ?_) (hJ.val hRS hcl hL rfl (Below.refl _ _) _ rfl)
          rw [hρ] at e0 e1
          clear hJ hsame hdep hcl hρ hsz gd
          go_simp
        · intro L a w' hL hsame hsz hJ hdep hcl
          have gd : valOf _ 8 a = .bool true := hJ.valOf (by decide) (dep_of hdep 8 (by kernel_rfl)) rfl rfl
          have e0 : a.eval (.tmp 7) = (.slice (some ad) N cs) := eval_base hsame (by kernel_rfl)
          refine Step.val _ rfl rfl (wanted_some (g := 8) (b := true) rfl gd) (.slice (some ad) N cs) w' (fun ρ hρ => ?_) (hJ.val hRS hcl hL rfl (Below.refl _ _) _ rfl)
          rw [hρ] at e0
          clear hJ hsame hdep hcl hρ hsz gd
          go_simp
        · intro L a w' hL hsame hsz hJ hdep hcl
          have gd : valOf _ 8 a = .bool true := hJ.valOf (by decide) (dep_of hdep 8 (by kernel_rfl)) rfl rfl
          have e0 : a.eval (.tmp 133) = (.slice (some ad) N cs) := eval_slot (j := 12) (by kernel_rfl) (hJ.valOf (by decide) (dep_of hdep 12 (by kernel_rfl)) rfl rfl)
          refine Step.val _ rfl rfl (wanted_some (g := 8) (b := true) rfl gd) (.int .i64 N) w' (fun ρ hρ => ?_) (hJ.val hRS hcl hL rfl (Below.refl _ _) _ rfl)
          rw [hρ] at e0
          clear hJ hsame hdep hcl hρ hsz gd
          go_simp
        · intro L a w' hL hsame hsz hJ hdep hcl
          have gd : valOf _ 8 a = .bool true := hJ.valOf (by decide) (dep_of hdep 8 (by kernel_rfl)) rfl rfl
          have e0 : a.eval (.tmp 132) = (.int .i64 ((k : Int) + (q : Int))) := eval_slot (j := 11) (by kernel_rfl) (hJ.valOf (by decide) (dep_of hdep 11 (by kernel_rfl)) rfl rfl)
          have e1 : a.eval (.tmp 134) = (.int .i64 N) := eval_slot (j := 13) (by kernel_rfl) (hJ.valOf (by decide) (dep_of hdep 13 (by kernel_rfl)) rfl rfl)
          refine Step.val _ rfl rfl (wanted_some (g := 8) (b := true) rfl gd) (.bool true) w' (fun ρ hρ => ?_) (hJ.val hRS hcl hL rfl (Below.refl _ _) _ rfl)
          rw [hρ] at e0 e1
          clear hJ hsame hdep hcl hρ hsz gd
          go_simp
        · intro L a w' hL hsame hsz hJ hdep hcl
          have gd : valOf _ 8 a = .bool true := hJ.valOf (by decide) (dep_of hdep 8 (by kernel_rfl)) rfl rfl
          have e0 : a.eval (.tmp 135) = (.bool true) := eval_slot (j := 14) (by kernel_rfl) (hJ.valOf (by decide) (dep_of hdep 14 (by kernel_rfl)) rfl rfl)
          refine Step.val _ rfl rfl (wanted_some (g := 8) (b := true) rfl gd) (.bool true) w' (fun ρ hρ => ?_) (hJ.val hRS hcl hL rfl (Below.refl _ _) _ rfl)
          rw [hρ] at e0
          clear hJ hsame hdep hcl hρ hsz gd
          go_simp
        · intro L a w' hL hsame hsz hJ hdep hcl
          have gd : valOf _ 15 a = .bool true := hJ.valOf (by decide) (dep_of hdep 15 (by kernel_rfl)) rfl rfl
          exact Step.pass _ rfl (wanted_not (g := 15) (b := false) (c := true) rfl gd (by decide)) (hJ.val hRS hcl hL rfl (Below.refl _ _) _ rfl)
        · intro L a w' hL hsame hsz hJ hdep hcl
          have gd : valOf _ 15 a = .bool true := hJ.valOf (by decide) (dep_of hdep 15 (by kernel_rfl)) rfl rfl
          exact Step.pass _ rfl (wanted_not (g := 15) (b := false) (c := true) rfl gd (by decide)) (hJ.val hRS hcl hL rfl (Below.refl _ _) _ rfl)
        · intro L a w' hL hsame hsz hJ hdep hcl
          have gd : valOf _ 15 a = .bool true := hJ.valOf (by decide) (dep_of hdep 15 (by kernel_rfl)) rfl rfl
          exact Step.pass _ rfl (wanted_not (g := 15) (b := false) (c := true) rfl gd (by decide)) (hJ.val hRS hcl hL rfl (Below.refl _ _) _ rfl)
        · intro L a w' hL hsame hsz hJ hdep hcl
          have gd : valOf _ 15 a = .bool true := hJ.valOf (by decide) (dep_of hdep 15 (by kernel_rfl)) rfl rfl
          exact Step.pass _ rfl (wanted_not (g := 15) (b := false) (c := true) rfl gd (by decide)) (hJ.val hRS hcl hL rfl (Below.refl _ _) _ rfl)
        · intro L a w' hL hsame hsz hJ hdep hcl
          have gd : valOf _ 15 a = .bool true := hJ.valOf (by decide) (dep_of hdep 15 (by kernel_rfl)) rfl rfl
          exact Step.pass _ rfl (wanted_not (g := 15) (b := false) (c := true) rfl gd (by decide)) (hJ.val hRS hcl hL rfl (Below.refl _ _) _ rfl)
        · intro L a w' hL hsame hsz hJ hdep hcl
          have gd : valOf _ 15 a = .bool true := hJ.valOf (by decide) (dep_of hdep 15 (by kernel_rfl)) rfl rfl
          exact Step.pass _ rfl (wanted_not (g := 15) (b := false) (c := true) rfl gd (by decide)) (hJ.val hRS hcl hL rfl (Below.refl _ _) _ rfl)
        · intro L a w' hL hsame hsz hJ hdep hcl
          have gd : valOf _ 15 a = .bool true := hJ.valOf (by decide) (dep_of hdep 15 (by kernel_rfl)) rfl rfl
          exact Step.pass _ rfl (wanted_not (g := 15) (b := false) (c := true) rfl gd (by decide)) (hJ.val hRS hcl hL rfl (Below.refl _ _) _ rfl)
        · intro L a w' hL hsame hsz hJ hdep hcl
          have gd : valOf _ 15 a = .bool true := hJ.valOf (by decide) (dep_of hdep 15 (by kernel_rfl)) rfl rfl
          exact Step.pass _ rfl (wanted_not (g := 15) (b := false) (c := true) rfl gd (by decide)) (hJ.val hRS hcl hL rfl (Below.refl _ _) _ rfl)
        · intro L a w' hL hsame hsz hJ hdep hcl
          have gd : valOf _ 8 a = .bool true := hJ.valOf (by decide) (dep_of hdep 8 (by kernel_rfl)) rfl rfl
          have e0 : a.eval (.tmp 136) = (.bool true) := eval_slot (j := 15) (by kernel_rfl) (hJ.valOf (by decide) (dep_of hdep 15 (by kernel_rfl)) rfl rfl)
          have e2 : a.eval (.tmp 144) = undef := eval_slot (j := 23) (by kernel_rfl) (hJ.valOf (by decide) (dep_of hdep 23 (by kernel_rfl)) rfl rfl)
          refine Step.val _ rfl rfl (wanted_some (g := 8) (b := true) rfl gd) (.bool true) w' (fun ρ hρ => ?_) (hJ.val hRS hcl hL rfl (Below.refl _ _) _ rfl)
          rw [hρ] at e0 e2
          have ec0 : ρ (.const (.bool true)) = (.bool true) := (hρ _).symm
          clear hJ hsame hdep hcl hρ hsz gd
          go_simp
        · intro L a w' hL hsame hsz hJ hdep hcl
          have e0 : a.eval (.tmp 129) = (.bool true) := eval_slot (j := 8) (by kernel_rfl) (hJ.valOf (by decide) (dep_of hdep 8 (by kernel_rfl)) rfl rfl)
          have e1 : a.eval (.tmp 145) = (.bool true) := eval_slot (j := 24) (by kernel_rfl) (hJ.valOf (by decide) (dep_of hdep 24 (by kernel_rfl)) rfl rfl)
          refine Step.val _ rfl rfl (wanted_none rfl) (.bool true) w' (fun ρ hρ => ?_) (hJ.val hRS hcl hL rfl (Below.refl _ _) _ rfl)
          rw [hρ] at e0 e1
          have ec0 : ρ (.const (.bool false)) = (.bool false) := (hρ _).symm
          clear hJ hsame hdep hcl hρ hsz
          go_simp
        · intro L a w' hL hsame hsz hJ hdep hcl
          have e0 : a.eval (.tmp 146) = (.bool true) := eval_slot (j := 25) (by kernel_rfl) (hJ.valOf (by decide) (dep_of hdep 25 (by kernel_rfl)) rfl rfl)
          refine Step.val _ rfl rfl (wanted_none rfl) (.bool true) w' (fun ρ hρ => ?_) (hJ.val hRS hcl hL rfl (Below.refl _ _) _ rfl)
          rw [hρ] at e0
          clear hJ hsame hdep hcl hρ hsz
          go_simp
        · intro L a w' hL hsame hsz hJ hdep hcl
          have gd : valOf _ 26 a = .bool true := hJ.valOf (by decide) (dep_of hdep 26 (by kernel_rfl)) rfl rfl
          have e0 : a.eval (.tmp 18) = (.pointer (some ⟨gB, 0, none⟩)) := eval_base hsame (by kernel_rfl)
          have hb := hJ.keptBox BU.out (by simp)
          have q0 : w'.cell? ⟨gB, 0, none⟩ = some (.int .i64 1) := hb.cell 0
          have q1 : w'.cell? ⟨gB, 1, none⟩ = some (.int .i64 N) := hb.cell 1
          have q2 : w'.cell? ⟨gB, 2, none⟩ = some (.slice AB N cB) := hb.cell 2
          refine Step.val _ rfl rfl (wanted_some (g := 26) (b := true) rfl gd) (.agg #[.int .i64 1, .int .i64 N, .slice AB N cB]) w' (fun ρ hρ => ?_) (hJ.val hRS hcl hL rfl (Below.refl _ _) _ rfl)
          rw [hρ] at e0
          clear hb
          clear hJ hsame hdep hcl hρ hsz gd
          go_simp
        · intro L a w' hL hsame hsz hJ hdep hcl
          have gd : valOf _ 26 a = .bool true := hJ.valOf (by decide) (dep_of hdep 26 (by kernel_rfl)) rfl rfl
          have e0 : a.eval (.tmp 10) = (.pointer (some ⟨gT, 0, none⟩)) := eval_base hsame (by kernel_rfl)
          have hb := hJ.keptBox BT.out (by simp)
          have q0 : w'.cell? ⟨gT, 0, none⟩ = some (.int .i64 1) := hb.cell 0
          have q1 : w'.cell? ⟨gT, 1, none⟩ = some (.int .i64 N) := hb.cell 1
          have q2 : w'.cell? ⟨gT, 2, none⟩ = some (.slice AT N cT) := hb.cell 2
          refine Step.val _ rfl rfl (wanted_some (g := 26) (b := true) rfl gd) (.agg #[.int .i64 1, .int .i64 N, .slice AT N cT]) w' (fun ρ hρ => ?_) (hJ.val hRS hcl hL rfl (Below.refl _ _) _ rfl)
          rw [hρ] at e0
          clear hb
          clear hJ hsame hdep hcl hρ hsz gd
          go_simp
        · intro L a w' hL hsame hsz hJ hdep hcl
          have gd : valOf _ 26 a = .bool true := hJ.valOf (by decide) (dep_of hdep 26 (by kernel_rfl)) rfl rfl
          have e0 : a.eval (.tmp 13) = (.int .i64 k) := eval_base hsame (by kernel_rfl)
          refine Step.val _ rfl rfl (wanted_some (g := 26) (b := true) rfl gd) (.int .i64 k) w' (fun ρ hρ => ?_) (hJ.val hRS hcl hL rfl (Below.refl _ _) _ rfl)
          rw [hρ] at e0
          clear hJ hsame hdep hcl hρ hsz gd
          go_simp
        · intro L a w' hL hsame hsz hJ hdep hcl
          have gd : valOf _ 26 a = .bool true := hJ.valOf (by decide) (dep_of hdep 26 (by kernel_rfl)) rfl rfl
          have e0 : a.eval (.tmp 9) = (.pointer (some ⟨gP, 0, none⟩)) := eval_base hsame (by kernel_rfl)
          have hb := hJ.keptBox BP.out (by simp)
          have q0 : w'.cell? ⟨gP, 0, none⟩ = some (.int .i64 (-1)) := hb.cell 0
          have q1 : w'.cell? ⟨gP, 1, none⟩ = some (.int .i64 (-1)) := hb.cell 1
          have q2 : w'.cell? ⟨gP, 2, none⟩ = some (.int .i64 0) := hb.cell 2
          refine Step.val _ rfl rfl (wanted_some (g := 26) (b := true) rfl gd) (.agg #[.int .i64 (-1), .int .i64 (-1), .int .i64 0]) w' (fun ρ hρ => ?_) (hJ.val hRS hcl hL rfl (Below.refl _ _) _ rfl)
          rw [hρ] at e0
          clear hb
          clear hJ hsame hdep hcl hρ hsz gd
          go_simp
        · intro L a w' hL hsame hsz hJ hdep hcl
          have gd : valOf _ 26 a = .bool true := hJ.valOf (by decide) (dep_of hdep 26 (by kernel_rfl)) rfl rfl
          have e0 : a.eval (.tmp 149) = (.agg #[.int .i64 1, .int .i64 N, .slice AT N cT]) := eval_slot (j := 28) (by kernel_rfl) (hJ.valOf (by decide) (dep_of hdep 28 (by kernel_rfl)) rfl rfl)
          have e2 : a.eval (.tmp 150) = (.int .i64 k) := eval_slot (j := 29) (by kernel_rfl) (hJ.valOf (by decide) (dep_of hdep 29 (by kernel_rfl)) rfl rfl)
          have e4 : a.eval (.tmp 151) = (.agg #[.int .i64 (-1), .int .i64 (-1), .int .i64 0]) := eval_slot (j := 30) (by kernel_rfl) (hJ.valOf (by decide) (dep_of hdep 30 (by kernel_rfl)) rfl rfl)
          refine Step.call _ rfl rfl (wanted_some (g := 26) (b := true) rfl gd) 24 #[.agg #[.int .i64 1, .int .i64 N, .slice AT N cT], .int .i64 0, .int .i64 k, .int .i64 2, .agg #[.int .i64 (-1), .int .i64 (-1), .int .i64 0]] (fun ρ hρ => ?_) ?_
          · skip
            rw [hρ] at e0 e2 e4
            have ec0 : ρ (.const (.int .i64 0)) = (.int .i64 0) := (hρ _).symm
            have ec1 : ρ (.const (.int .i64 2)) = (.int .i64 2) := (hρ _).symm
            have ef : ρ (.func 24) = .func (.func 24) #[] #[] := (hρ _).symm
            clear hJ hsame hdep hcl hρ hsz gd
            go_simp
          · refine (u_line HR.out.1 (IT.out.low (hJ.kept.toBelow (Nat.le_refl _) (by simp))) 0 k 2 PG.plain PG.plain_ok (by omega) bk).mono ?_
            rintro e w2 ⟨v, rfl, hg, bb⟩
            exact ⟨v, rfl, hJ.grid hRS hcl hL rfl bb v hg⟩
        · intro L a w' hL hsame hsz hJ hdep hcl
          have gd : valOf _ 26 a = .bool true := hJ.valOf (by decide) (dep_of hdep 26 (by kernel_rfl)) rfl rfl
          have e0 : a.eval (.tmp 148) = (.agg #[.int .i64 1, .int .i64 N, .slice AB N cB]) := eval_slot (j := 27) (by kernel_rfl) (hJ.valOf (by decide) (dep_of hdep 27 (by kernel_rfl)) rfl rfl)
          obtain ⟨v31, hv31, hG31⟩ := hJ.gridAt (j := 31) (by decide) (dep_of hdep 31 (by kernel_rfl)) rfl
          have hG31 : IsG w' (PG.lineI (PG.lets s N) 0 k 2 PG.plain) v31 := hG31
          have e1 : a.eval (.tmp 152) = v31 := eval_slot (j := 31) (by kernel_rfl) hv31
          refine Step.call _ rfl rfl (wanted_some (g := 26) (b := true) rfl gd) 28 #[.agg #[.int .i64 1, .int .i64 N, .slice AB N cB], v31] (fun ρ hρ => ?_) ?_
          · skip
            rw [hρ] at e0 e1
            have ef : ρ (.func 28) = .func (.func 28) #[] #[] := (hρ _).symm
            clear hJ hsame hdep hcl hρ hsz gd
            go_simp
          · refine (u_same (PG.right_lineI (PG.right_lineI HR.out.1 PG.plain_ok _ _ _) PG.plain_ok _ _ _) (IB.out.low (hJ.kept.toBelow (Nat.le_refl _) (by simp))) hG31 AL2.out).mono ?_
            rintro e w2 ⟨rfl, bb⟩
            exact ⟨_, rfl, hJ.val hRS hcl hL rfl bb _ rfl⟩
        · intro L a w' hL hsame hsz hJ hdep hcl
          have e0 : a.eval (.tmp 147) = (.bool true) := eval_slot (j := 26) (by kernel_rfl) (hJ.valOf (by decide) (dep_of hdep 26 (by kernel_rfl)) rfl rfl)
          have e1 : a.eval (.tmp 153) = (.bool true) := eval_slot (j := 32) (by kernel_rfl) (hJ.valOf (by decide) (dep_of hdep 32 (by kernel_rfl)) rfl rfl)
          refine Step.val _ rfl rfl (wanted_none rfl) (.bool true) w' (fun ρ hρ => ?_) (hJ.val hRS hcl hL rfl (Below.refl _ _) _ rfl)
          rw [hρ] at e0 e1
          have ec0 : ρ (.const (.bool false)) = (.bool false) := (hρ _).symm
          clear hJ hsame hdep hcl hρ hsz
          go_simp
        · intro L a w' hL hsame hsz hJ hdep hcl
          have e0 : a.eval (.tmp 154) = (.bool true) := eval_slot (j := 33) (by kernel_rfl) (hJ.valOf (by decide) (dep_of hdep 33 (by kernel_rfl)) rfl rfl)
          refine Step.val _ rfl rfl (wanted_none rfl) (.bool true) w' (fun ρ hρ => ?_) (hJ.val hRS hcl hL rfl (Below.refl _ _) _ rfl)
          rw [hρ] at e0
          clear hJ hsame hdep hcl hρ hsz
          go_simp
        · intro L a w' hL hsame hsz hJ hdep hcl
          have gd : valOf _ 34 a = .bool true := hJ.valOf (by decide) (dep_of hdep 34 (by kernel_rfl)) rfl rfl
          have e0 : a.eval (.tmp 10) = (.pointer (some ⟨gT, 0, none⟩)) := eval_base hsame (by kernel_rfl)
          have hb := hJ.keptBox BT.out (by simp)
          have q0 : w'.cell? ⟨gT, 0, none⟩ = some (.int .i64 1) := hb.cell 0
          have q1 : w'.cell? ⟨gT, 1, none⟩ = some (.int .i64 N) := hb.cell 1
          have q2 : w'.cell? ⟨gT, 2, none⟩ = some (.slice AT N cT) := hb.cell 2
          refine Step.val _ rfl rfl (wanted_some (g := 34) (b := true) rfl gd) (.agg #[.int .i64 1, .int .i64 N, .slice AT N cT]) w' (fun ρ hρ => ?_) (hJ.val hRS hcl hL rfl (Below.refl _ _) _ rfl)
          rw [hρ] at e0
          clear hb
          clear hJ hsame hdep hcl hρ hsz gd
          go_simp
        · intro L a w' hL hsame hsz hJ hdep hcl
          have gd : valOf _ 34 a = .bool true := hJ.valOf (by decide) (dep_of hdep 34 (by kernel_rfl)) rfl rfl
          have e0 : a.eval (.tmp 13) = (.int .i64 k) := eval_base hsame (by kernel_rfl)
          refine Step.val _ rfl rfl (wanted_some (g := 34) (b := true) rfl gd) (.int .i64 k) w' (fun ρ hρ => ?_) (hJ.val hRS hcl hL rfl (Below.refl _ _) _ rfl)
          rw [hρ] at e0
          clear hJ hsame hdep hcl hρ hsz gd
          go_simp
        · intro L a w' hL hsame hsz hJ hdep hcl
          have gd : valOf _ 34 a = .bool true := hJ.valOf (by decide) (dep_of hdep 34 (by kernel_rfl)) rfl rfl
          have e0 : a.eval (.tmp 9) = (.pointer (some ⟨gP, 0, none⟩)) := eval_base hsame (by kernel_rfl)
          have hb := hJ.keptBox BP.out (by simp)
          have q0 : w'.cell? ⟨gP, 0, none⟩ = some (.int .i64 (-1)) := hb.cell 0
          have q1 : w'.cell? ⟨gP, 1, none⟩ = some (.int .i64 (-1)) := hb.cell 1
          have q2 : w'.cell? ⟨gP, 2, none⟩ = some (.int .i64 0) := hb.cell 2
          refine Step.val _ rfl rfl (wanted_some (g := 34) (b := true) rfl gd) (.agg #[.int .i64 (-1), .int .i64 (-1), .int .i64 0]) w' (fun ρ hρ => ?_) (hJ.val hRS hcl hL rfl (Below.refl _ _) _ rfl)
          rw [hρ] at e0
          clear hb
          clear hJ hsame hdep hcl hρ hsz gd
          go_simp
        · intro L a w' hL hsame hsz hJ hdep hcl
          have gd : valOf _ 34 a = .bool true := hJ.valOf (by decide) (dep_of hdep 34 (by kernel_rfl)) rfl rfl
          have e0 : a.eval (.tmp 156) = (.agg #[.int .i64 1, .int .i64 N, .slice AT N cT]) := eval_slot (j := 35) (by kernel_rfl) (hJ.valOf (by decide) (dep_of hdep 35 (by kernel_rfl)) rfl rfl)
          have e2 : a.eval (.tmp 157) = (.int .i64 k) := eval_slot (j := 36) (by kernel_rfl) (hJ.valOf (by decide) (dep_of hdep 36 (by kernel_rfl)) rfl rfl)
          have e4 : a.eval (.tmp 158) = (.agg #[.int .i64 (-1), .int .i64 (-1), .int .i64 0]) := eval_slot (j := 37) (by kernel_rfl) (hJ.valOf (by decide) (dep_of hdep 37 (by kernel_rfl)) rfl rfl)
          refine Step.call _ rfl rfl (wanted_some (g := 34) (b := true) rfl gd) 24 #[.agg #[.int .i64 1, .int .i64 N, .slice AT N cT], .int .i64 0, .int .i64 k, .int .i64 3, .agg #[.int .i64 (-1), .int .i64 (-1), .int .i64 0]] (fun ρ hρ => ?_) ?_
          · skip
            rw [hρ] at e0 e2 e4
            have ec0 : ρ (.const (.int .i64 0)) = (.int .i64 0) := (hρ _).symm
            have ec1 : ρ (.const (.int .i64 3)) = (.int .i64 3) := (hρ _).symm
            have ef : ρ (.func 24) = .func (.func 24) #[] #[] := (hρ _).symm
            clear hJ hsame hdep hcl hρ hsz gd
            go_simp
          · refine (u_line HR.out.1 (IT.out.low (hJ.kept.toBelow (Nat.le_refl _) (by simp))) 0 k 3 PG.plain PG.plain_ok (by omega) bk).mono ?_
            rintro e w2 ⟨v, rfl, hg, bb⟩
            exact ⟨v, rfl, hJ.grid hRS hcl hL rfl bb v hg⟩
        · intro L a w' hL hsame hsz hJ hdep hcl
          have gd : valOf _ 34 a = .bool true := hJ.valOf (by decide) (dep_of hdep 34 (by kernel_rfl)) rfl rfl
          have e0 : a.eval (.tmp 10) = (.pointer (some ⟨gT, 0, none⟩)) := eval_base hsame (by kernel_rfl)
          have hb := hJ.keptBox BT.out (by simp)
          have q0 : w'.cell? ⟨gT, 0, none⟩ = some (.int .i64 1) := hb.cell 0
          have q1 : w'.cell? ⟨gT, 1, none⟩ = some (.int .i64 N) := hb.cell 1
          have q2 : w'.cell? ⟨gT, 2, none⟩ = some (.slice AT N cT) := hb.cell 2
          refine Step.val _ rfl rfl (wanted_some (g := 34) (b := true) rfl gd) (.agg #[.int .i64 1, .int .i64 N, .slice AT N cT]) w' (fun ρ hρ => ?_) (hJ.val hRS hcl hL rfl (Below.refl _ _) _ rfl)
          rw [hρ] at e0
          clear hb
          clear hJ hsame hdep hcl hρ hsz gd
          go_simp
        · intro L a w' hL hsame hsz hJ hdep hcl
          have gd : valOf _ 34 a = .bool true := hJ.valOf (by decide) (dep_of hdep 34 (by kernel_rfl)) rfl rfl
          obtain ⟨v38, hv38, hG38⟩ := hJ.gridAt (j := 38) (by decide) (dep_of hdep 38 (by kernel_rfl)) rfl
          have hG38 : IsG w' (PG.lineI (PG.lets s N) 0 k 3 PG.plain) v38 := hG38
          have e0 : a.eval (.tmp 159) = v38 := eval_slot (j := 38) (by kernel_rfl) hv38
          have e1 : a.eval (.tmp 160) = (.agg #[.int .i64 1, .int .i64 N, .slice AT N cT]) := eval_slot (j := 39) (by kernel_rfl) (hJ.valOf (by decide) (dep_of hdep 39 (by kernel_rfl)) rfl rfl)
          refine Step.call _ rfl rfl (wanted_some (g := 34) (b := true) rfl gd) 28 #[v38, .agg #[.int .i64 1, .int .i64 N, .slice AT N cT]] (fun ρ hρ => ?_) ?_
          · skip
            rw [hρ] at e0 e1
            have ef : ρ (.func 28) = .func (.func 28) #[] #[] := (hρ _).symm
            clear hJ hsame hdep hcl hρ hsz gd
            go_simp
          · refine (u_same (PG.right_lineI HR.out.1 PG.plain_ok _ _ _) hG38 (IT.out.low (hJ.kept.toBelow (Nat.le_refl _) (by simp))) AL3.out).mono ?_
            rintro e w2 ⟨rfl, bb⟩
            exact ⟨_, rfl, hJ.val hRS hcl hL rfl bb _ rfl⟩
        · intro L a w' hL hsame hsz hJ hdep hcl
          have e0 : a.eval (.tmp 155) = (.bool true) := eval_slot (j := 34) (by kernel_rfl) (hJ.valOf (by decide) (dep_of hdep 34 (by kernel_rfl)) rfl rfl)
          have e1 : a.eval (.tmp 161) = (.bool true) := eval_slot (j := 40) (by kernel_rfl) (hJ.valOf (by decide) (dep_of hdep 40 (by kernel_rfl)) rfl rfl)
          refine Step.val _ rfl rfl (wanted_none rfl) (.bool true) w' (fun ρ hρ => ?_) (hJ.val hRS hcl hL rfl (Below.refl _ _) _ rfl)
          rw [hρ] at e0 e1
          have ec0 : ρ (.const (.bool false)) = (.bool false) := (hρ _).symm
          clear hJ hsame hdep hcl hρ hsz
          go_simp
        · intro L a w' hL hsame hsz hJ hdep hcl
          have e0 : a.eval (.tmp 162) = (.bool true) := eval_slot (j := 41) (by kernel_rfl) (hJ.valOf (by decide) (dep_of hdep 41 (by kernel_rfl)) rfl rfl)
          refine Step.val _ rfl rfl (wanted_none rfl) (.bool true) w' (fun ρ hρ => ?_) (hJ.val hRS hcl hL rfl (Below.refl _ _) _ rfl)
          rw [hρ] at e0
          clear hJ hsame hdep hcl hρ hsz
          go_simp
        · intro L a w' hL hsame hsz hJ hdep hcl
          have gd : valOf _ 42 a = .bool true := hJ.valOf (by decide) (dep_of hdep 42 (by kernel_rfl)) rfl rfl
          have e0 : a.eval (.tmp 10) = (.pointer (some ⟨gT, 0, none⟩)) := eval_base hsame (by kernel_rfl)
          have hb := hJ.keptBox BT.out (by simp)
          have q0 : w'.cell? ⟨gT, 0, none⟩ = some (.int .i64 1) := hb.cell 0
          have q1 : w'.cell? ⟨gT, 1, none⟩ = some (.int .i64 N) := hb.cell 1
          have q2 : w'.cell? ⟨gT, 2, none⟩ = some (.slice AT N cT) := hb.cell 2
          refine Step.val _ rfl rfl (wanted_some (g := 42) (b := true) rfl gd) (.agg #[.int .i64 1, .int .i64 N, .slice AT N cT]) w' (fun ρ hρ => ?_) (hJ.val hRS hcl hL rfl (Below.refl _ _) _ rfl)
          rw [hρ] at e0
          clear hb
          clear hJ hsame hdep hcl hρ hsz gd
          go_simp
        · intro L a w' hL hsame hsz hJ hdep hcl
          have gd : valOf _ 42 a = .bool true := hJ.valOf (by decide) (dep_of hdep 42 (by kernel_rfl)) rfl rfl
          have e0 : a.eval (.tmp 13) = (.int .i64 k) := eval_base hsame (by kernel_rfl)
          refine Step.val _ rfl rfl (wanted_some (g := 42) (b := true) rfl gd) (.int .i64 k) w' (fun ρ hρ => ?_) (hJ.val hRS hcl hL rfl (Below.refl _ _) _ rfl)
          rw [hρ] at e0
          clear hJ hsame hdep hcl hρ hsz gd
          go_simp
        · intro L a w' hL hsame hsz hJ hdep hcl
          have gd : valOf _ 42 a = .bool true := hJ.valOf (by decide) (dep_of hdep 42 (by kernel_rfl)) rfl rfl
          have e0 : a.eval (.tmp 9) = (.pointer (some ⟨gP, 0, none⟩)) := eval_base hsame (by kernel_rfl)
          have hb := hJ.keptBox BP.out (by simp)
          have q0 : w'.cell? ⟨gP, 0, none⟩ = some (.int .i64 (-1)) := hb.cell 0
          have q1 : w'.cell? ⟨gP, 1, none⟩ = some (.int .i64 (-1)) := hb.cell 1
          have q2 : w'.cell? ⟨gP, 2, none⟩ = some (.int .i64 0) := hb.cell 2
          refine Step.val _ rfl rfl (wanted_some (g := 42) (b := true) rfl gd) (.agg #[.int .i64 (-1), .int .i64 (-1), .int .i64 0]) w' (fun ρ hρ => ?_) (hJ.val hRS hcl hL rfl (Below.refl _ _) _ rfl)
          rw [hρ] at e0
          clear hb
          clear hJ hsame hdep hcl hρ hsz gd
          go_simp
        · intro L a w' hL hsame hsz hJ hdep hcl
          have gd : valOf _ 42 a = .bool true := hJ.valOf (by decide) (dep_of hdep 42 (by kernel_rfl)) rfl rfl
          have e0 : a.eval (.tmp 164) = (.agg #[.int .i64 1, .int .i64 N, .slice AT N cT]) := eval_slot (j := 43) (by kernel_rfl) (hJ.valOf (by decide) (dep_of hdep 43 (by kernel_rfl)) rfl rfl)
          have e2 : a.eval (.tmp 165) = (.int .i64 k) := eval_slot (j := 44) (by kernel_rfl) (hJ.valOf (by decide) (dep_of hdep 44 (by kernel_rfl)) rfl rfl)
          have e4 : a.eval (.tmp 166) = (.agg #[.int .i64 (-1), .int .i64 (-1), .int .i64 0]) := eval_slot (j := 45) (by kernel_rfl) (hJ.valOf (by decide) (dep_of hdep 45 (by kernel_rfl)) rfl rfl)
          refine Step.call _ rfl rfl (wanted_some (g := 42) (b := true) rfl gd) 22 #[.agg #[.int .i64 1, .int .i64 N, .slice AT N cT], .int .i64 0, .int .i64 k, .int .i64 0, .agg #[.int .i64 (-1), .int .i64 (-1), .int .i64 0]] (fun ρ hρ => ?_) ?_
          · skip
            rw [hρ] at e0 e2 e4
            have ec0 : ρ (.const (.int .i64 0)) = (.int .i64 0) := (hρ _).symm
            have ef : ρ (.func 22) = .func (.func 22) #[] #[] := (hρ _).symm
            clear hJ hsame hdep hcl hρ hsz gd
            go_simp
          · refine (u_erase HR.out.1 (IT.out.low (hJ.kept.toBelow (Nat.le_refl _) (by simp))) 0 k 0 PG.plain PG.plain_ok (by omega) bk).mono ?_
            rintro e w2 ⟨v, rfl, hg, bb⟩
            exact ⟨v, rfl, hJ.grid hRS hcl hL rfl bb v hg⟩
        · intro L a w' hL hsame hsz hJ hdep hcl
          have gd : valOf _ 42 a = .bool true := hJ.valOf (by decide) (dep_of hdep 42 (by kernel_rfl)) rfl rfl
          have e0 : a.eval (.tmp 10) = (.pointer (some ⟨gT, 0, none⟩)) := eval_base hsame (by kernel_rfl)
          have hb := hJ.keptBox BT.out (by simp)
          have q0 : w'.cell? ⟨gT, 0, none⟩ = some (.int .i64 1) := hb.cell 0
          have q1 : w'.cell? ⟨gT, 1, none⟩ = some (.int .i64 N) := hb.cell 1
          have q2 : w'.cell? ⟨gT, 2, none⟩ = some (.slice AT N cT) := hb.cell 2
          refine Step.val _ rfl rfl (wanted_some (g := 42) (b := true) rfl gd) (.agg #[.int .i64 1, .int .i64 N, .slice AT N cT]) w' (fun ρ hρ => ?_) (hJ.val hRS hcl hL rfl (Below.refl _ _) _ rfl)
          rw [hρ] at e0
          clear hb
          clear hJ hsame hdep hcl hρ hsz gd
          go_simp
        · intro L a w' hL hsame hsz hJ hdep hcl
          have gd : valOf _ 42 a = .bool true := hJ.valOf (by decide) (dep_of hdep 42 (by kernel_rfl)) rfl rfl
          have e0 : a.eval (.tmp 13) = (.int .i64 k) := eval_base hsame (by kernel_rfl)
          refine Step.val _ rfl rfl (wanted_some (g := 42) (b := true) rfl gd) (.int .i64 k) w' (fun ρ hρ => ?_) (hJ.val hRS hcl hL rfl (Below.refl _ _) _ rfl)
          rw [hρ] at e0
          clear hJ hsame hdep hcl hρ hsz gd
          go_simp
        · intro L a w' hL hsame hsz hJ hdep hcl
          have gd : valOf _ 42 a = .bool true := hJ.valOf (by decide) (dep_of hdep 42 (by kernel_rfl)) rfl rfl
          have e0 : a.eval (.tmp 9) = (.pointer (some ⟨gP, 0, none⟩)) := eval_base hsame (by kernel_rfl)
          have hb := hJ.keptBox BP.out (by simp)
          have q0 : w'.cell? ⟨gP, 0, none⟩ = some (.int .i64 (-1)) := hb.cell 0
          have q1 : w'.cell? ⟨gP, 1, none⟩ = some (.int .i64 (-1)) := hb.cell 1
          have q2 : w'.cell? ⟨gP, 2, none⟩ = some (.int .i64 0) := hb.cell 2
          refine Step.val _ rfl rfl (wanted_some (g := 42) (b := true) rfl gd) (.agg #[.int .i64 (-1), .int .i64 (-1), .int .i64 0]) w' (fun ρ hρ => ?_) (hJ.val hRS hcl hL rfl (Below.refl _ _) _ rfl)
          rw [hρ] at e0
          clear hb
          clear hJ hsame hdep hcl hρ hsz gd
          go_simp
        · intro L a w' hL hsame hsz hJ hdep hcl
          have gd : valOf _ 42 a = .bool true := hJ.valOf (by decide) (dep_of hdep 42 (by kernel_rfl)) rfl rfl
          have e0 : a.eval (.tmp 168) = (.agg #[.int .i64 1, .int .i64 N, .slice AT N cT]) := eval_slot (j := 47) (by kernel_rfl) (hJ.valOf (by decide) (dep_of hdep 47 (by kernel_rfl)) rfl rfl)
          have e2 : a.eval (.tmp 169) = (.int .i64 k) := eval_slot (j := 48) (by kernel_rfl) (hJ.valOf (by decide) (dep_of hdep 48 (by kernel_rfl)) rfl rfl)
          have e4 : a.eval (.tmp 170) = (.agg #[.int .i64 (-1), .int .i64 (-1), .int .i64 0]) := eval_slot (j := 49) (by kernel_rfl) (hJ.valOf (by decide) (dep_of hdep 49 (by kernel_rfl)) rfl rfl)
          refine Step.call _ rfl rfl (wanted_some (g := 42) (b := true) rfl gd) 24 #[.agg #[.int .i64 1, .int .i64 N, .slice AT N cT], .int .i64 0, .int .i64 k, .int .i64 0, .agg #[.int .i64 (-1), .int .i64 (-1), .int .i64 0]] (fun ρ hρ => ?_) ?_
          · skip
            rw [hρ] at e0 e2 e4
            have ec0 : ρ (.const (.int .i64 0)) = (.int .i64 0) := (hρ _).symm
            have ef : ρ (.func 24) = .func (.func 24) #[] #[] := (hρ _).symm
            clear hJ hsame hdep hcl hρ hsz gd
            go_simp
          · refine (u_line HR.out.1 (IT.out.low (hJ.kept.toBelow (Nat.le_refl _) (by simp))) 0 k 0 PG.plain PG.plain_ok (by omega) bk).mono ?_
            rintro e w2 ⟨v, rfl, hg, bb⟩
            exact ⟨v, rfl, hJ.grid hRS hcl hL rfl bb v hg⟩
        · intro L a w' hL hsame hsz hJ hdep hcl
          have gd : valOf _ 42 a = .bool true := hJ.valOf (by decide) (dep_of hdep 42 (by kernel_rfl)) rfl rfl
          obtain ⟨v46, hv46, hG46⟩ := hJ.gridAt (j := 46) (by decide) (dep_of hdep 46 (by kernel_rfl)) rfl
          have hG46 : IsG w' (PG.eraseI (PG.lets s N) 0 k 0 PG.plain) v46 := hG46
          have e0 : a.eval (.tmp 167) = v46 := eval_slot (j := 46) (by kernel_rfl) hv46
          obtain ⟨v50, hv50, hG50⟩ := hJ.gridAt (j := 50) (by decide) (dep_of hdep 50 (by kernel_rfl)) rfl
          have hG50 : IsG w' (PG.lineI (PG.lets s N) 0 k 0 PG.plain) v50 := hG50
          have e1 : a.eval (.tmp 171) = v50 := eval_slot (j := 50) (by kernel_rfl) hv50
          refine Step.call _ rfl rfl (wanted_some (g := 42) (b := true) rfl gd) 28 #[v46, v50] (fun ρ hρ => ?_) ?_
          · skip
            rw [hρ] at e0 e1
            have ef : ρ (.func 28) = .func (.func 28) #[] #[] := (hρ _).symm
            clear hJ hsame hdep hcl hρ hsz gd
            go_simp
          · refine (u_same (PG.right_eraseI HR.out.1 PG.plain_ok _ _ _) hG46 hG50 ALE.out).mono ?_
            rintro e w2 ⟨rfl, bb⟩
            exact ⟨_, rfl, hJ.val hRS hcl hL rfl bb _ rfl⟩
        · intro L a w' hL hsame hsz hJ hdep hcl
          have e0 : a.eval (.tmp 163) = (.bool true) := eval_slot (j := 42) (by kernel_rfl) (hJ.valOf (by decide) (dep_of hdep 42 (by kernel_rfl)) rfl rfl)
          have e1 : a.eval (.tmp 172) = (.bool true) := eval_slot (j := 51) (by kernel_rfl) (hJ.valOf (by decide) (dep_of hdep 51 (by kernel_rfl)) rfl rfl)
          refine Step.val _ rfl rfl (wanted_none rfl) (.bool true) w' (fun ρ hρ => ?_) (hJ.val hRS hcl hL rfl (Below.refl _ _) _ rfl)
          rw [hρ] at e0 e1
          have ec0 : ρ (.const (.bool false)) = (.bool false) := (hρ _).symm
          clear hJ hsame hdep hcl hρ hsz
          go_simp
        · intro L a w' hL hsame hsz hJ hdep hcl
          have e0 : a.eval (.tmp 173) = (.bool true) := eval_slot (j := 52) (by kernel_rfl) (hJ.valOf (by decide) (dep_of hdep 52 (by kernel_rfl)) rfl rfl)
          refine Step.val _ rfl rfl (wanted_none rfl) (.bool true) w' (fun ρ hρ => ?_) (hJ.val hRS hcl hL rfl (Below.refl _ _) _ rfl)
          rw [hρ] at e0
          clear hJ hsame hdep hcl hρ hsz
          go_simp
        · intro L a w' hL hsame hsz hJ hdep hcl
          have gd : valOf _ 53 a = .bool true := hJ.valOf (by decide) (dep_of hdep 53 (by kernel_rfl)) rfl rfl
          refine Step.call _ rfl rfl (wanted_some (g := 53) (b := true) rfl gd) 3 #[] (fun ρ hρ => ?_) ?_
          · skip
            have ef : ρ (.func 3) = .func (.func 3) #[] #[] := (hρ _).symm
            clear hJ hsame hdep hcl hρ hsz gd
            go_simp
          · refine (editRuns_any w' (SP.out.keptS hJ.kept (by simp))).mono ?_
            rintro e w2 ⟨rfl, bb⟩
            exact ⟨_, rfl, hJ.val hRS hcl hL rfl bb _ rfl⟩
        · intro L a w' hL hsame hsz hJ hdep hcl
          have e0 : a.eval (.tmp 174) = (.bool true) := eval_slot (j := 53) (by kernel_rfl) (hJ.valOf (by decide) (dep_of hdep 53 (by kernel_rfl)) rfl rfl)
          have e1 : a.eval (.tmp 175) = (.bool true) := eval_slot (j := 54) (by kernel_rfl) (hJ.valOf (by decide) (dep_of hdep 54 (by kernel_rfl)) rfl rfl)
          refine Step.val _ rfl rfl (wanted_none rfl) (.bool true) w' (fun ρ hρ => ?_) (hJ.val hRS hcl hL rfl (Below.refl _ _) _ rfl)
          rw [hρ] at e0 e1
          have ec0 : ρ (.const (.bool false)) = (.bool false) := (hρ _).symm
          clear hJ hsame hdep hcl hρ hsz
          go_simp
        · intro L a w' hL hsame hsz hJ hdep hcl
          have e0 : a.eval (.tmp 176) = (.bool true) := eval_slot (j := 55) (by kernel_rfl) (hJ.valOf (by decide) (dep_of hdep 55 (by kernel_rfl)) rfl rfl)
          refine Step.val _ rfl rfl (wanted_none rfl) (.bool true) w' (fun ρ hρ => ?_) (hJ.val hRS hcl hL rfl (Below.refl _ _) _ rfl)
          rw [hρ] at e0
          clear hJ hsame hdep hcl hρ hsz
          go_simp
        · intro L a w' hsame hsz hJ hall
          obtain ⟨u, hu, ha⟩ := act_puts hsame
          have h : (u 56 = .bool true) ∧ Below wc.heap.size wc w' := by
            (try simp only [hu])
            exact (And.intro (hJ.valOf (j := 56) (by decide) (hall 56 (by decide)) rfl rfl) (hJ.kept.toBelow (Nat.le_refl _) (by simp)))
          have h := hide h
          clear hJ hall hsz hu hsame
          subst ha
          change Exit.then _ _ Exit.normal (Act.put (Act.put (Act.put (Act.put (Act.put (Act.put (Act.put (Act.put (Act.put (Act.put (Act.put (Act.put (Act.put (Act.put (Act.put (Act.put (Act.put (Act.put (Act.put (Act.put (Act.put (Act.put (Act.put (Act.put (Act.put (Act.put (Act.put (Act.put (Act.put (Act.put (Act.put (Act.put (Act.put (Act.put (Act.put (Act.put (Act.put (Act.put (Act.put (Act.put (Act.put (Act.put (Act.put (Act.put (Act.put (Act.put (Act.put (Act.put (Act.put (Act.put (Act.put (Act.put (Act.put (Act.put (Act.put (Act.put (Act.put (putAll _ u 0 _) (some 121) (u 0)) (some 122) (u 1)) (some 123) (u 2)) (some 124) (u 3)) (some 125) (u 4)) (some 126) (u 5)) (some 127) (u 6)) (some 128) (u 7)) (some 129) (u 8)) (some 130) (u 9)) (some 131) (u 10)) (some 132) (u 11)) (some 133) (u 12)) (some 134) (u 13)) (some 135) (u 14)) (some 136) (u 15)) (some 137) (u 16)) (some 138) (u 17)) (some 139) (u 18)) (some 140) (u 19)) (some 141) (u 20)) (some 142) (u 21)) (some 143) (u 22)) (some 144) (u 23)) (some 145) (u 24)) (some 146) (u 25)) (some 147) (u 26)) (some 148) (u 27)) (some 149) (u 28)) (some 150) (u 29)) (some 151) (u 30)) (some 152) (u 31)) (some 153) (u 32)) (some 154) (u 33)) (some 155) (u 34)) (some 156) (u 35)) (some 157) (u 36)) (some 158) (u 37)) (some 159) (u 38)) (some 160) (u 39)) (some 161) (u 40)) (some 162) (u 41)) (some 163) (u 42)) (some 164) (u 43)) (some 165) (u 44)) (some 166) (u 45)) (some 167) (u 46)) (some 168) (u 47)) (some 169) (u 48)) (some 170) (u 49)) (some 171) (u 50)) (some 172) (u 51)) (some 173) (u 52)) (some 174) (u 53)) (some 175) (u 54)) (some 176) (u 55)) (some 6) (u 56)) _
          simp only [putAll]
          generalize u 0 = v0
          generalize u 1 = v1
          generalize u 2 = v2
          generalize u 3 = v3
          generalize u 4 = v4
          generalize u 5 = v5
          generalize u 6 = v6
          generalize u 7 = v7
          generalize u 8 = v8
          generalize u 9 = v9
          generalize u 10 = v10
          generalize u 11 = v11
          generalize u 12 = v12
          generalize u 13 = v13
          generalize u 14 = v14
          generalize u 15 = v15
          generalize u 16 = v16
          generalize u 17 = v17
          generalize u 18 = v18
          generalize u 19 = v19
          generalize u 20 = v20
          generalize u 21 = v21
          generalize u 22 = v22
          generalize u 23 = v23
          generalize u 24 = v24
          generalize u 25 = v25
          generalize u 26 = v26
          generalize u 27 = v27
          generalize u 28 = v28
          generalize u 29 = v29
          generalize u 30 = v30
          generalize u 31 = v31
          generalize u 32 = v32
          generalize u 33 = v33
          generalize u 34 = v34
          generalize u 35 = v35
          generalize u 36 = v36
          generalize u 37 = v37
          generalize u 38 = v38
          generalize u 39 = v39
          generalize u 40 = v40
          generalize u 41 = v41
          generalize u 42 = v42
          generalize u 43 = v43
          generalize u 44 = v44
          generalize u 45 = v45
          generalize u 46 = v46
          generalize u 47 = v47
          generalize u 48 = v48
          generalize u 49 = v49
          generalize u 50 = v50
          generalize u 51 = v51
          generalize u 52 = v52
          generalize u 53 = v53
          generalize u 54 = v54
          generalize u 55 = v55
          generalize u 56 = v56 at h ⊢
          go_simp
          go_step
          go_meet
          exact h.out
      · have hq1 : ¬ (N : Int) < (k : Int) + (q : Int) := by omega
        have hq2 : (k : Int) + (q : Int) ≤ (N : Int) := by omega
        refine wp_region_rj (n := 177) [] (fun _ => #[]) [(0, 0, 0, 0), (0, 0, 0, 0), (0, 0, 0, 0), (0, 0, 0, 0), (1, 0, 0, 0), (0, 0, 0, 0), (0, 0, 0, 0), (0, 0, 0, 0), (0, 0, 0, 0), (0, 0, 0, 0), (0, 0, 0, 0), (0, 0, 0, 0), (0, 0, 0, 0), (0, 0, 0, 0), (0, 0, 0, 0), (0, 0, 0, 0), (0, 0, 0, 0), (0, 0, 0, 0), (0, 0, 0, 0), (0, 0, 0, 0), (1, 0, 0, 0), (0, 0, 0, 0), (0, 0, 0, 0), (0, 0, 0, 0), (0, 0, 0, 0), (0, 0, 0, 0), (0, 0, 0, 0), (0, 0, 0, 0), (0, 0, 0, 0), (0, 0, 0, 0), (0, 0, 0, 0), (1, 0, 0, 0), (0, 0, 0, 0), (0, 0, 0, 0), (0, 0, 0, 0), (0, 0, 0, 0), (0, 0, 0, 0), (0, 0, 0, 0), (1, 0, 0, 0), (0, 0, 0, 0), (0, 0, 0, 0), (0, 0, 0, 0), (0, 0, 0, 0), (0, 0, 0, 0), (0, 0, 0, 0), (0, 0, 0, 0), (1, 0, 0, 0), (0, 0, 0, 0), (0, 0, 0, 0), (0, 0, 0, 0), (1, 0, 0, 0), (0, 0, 0, 0), (0, 0, 0, 0), (0, 0, 0, 0), (0, 0, 0, 0), (0, 0, 0, 0), (0, 0, 0, 0)] (fun j => [(.agg #[.int .i64 1, .int .i64 N, .slice AT N cT]), (.int .i64 k), (.int .i64 q), (.agg #[.int .i64 (-1), .int .i64 (-1), .int .i64 0]), undef, (.string inS), (.string inS), (.bool true), (.bool true), (.int .i64 k), (.int .i64 q), (.int .i64 ((k : Int) + (q : Int))), (.slice (some ad) N cs), (.int .i64 N), (.bool false), (.bool false), (.agg #[.int .i64 1, .int .i64 N, .slice AT N cT]), (.int .i64 k), (.int .i64 q), (.agg #[.int .i64 (-1), .int .i64 (-1), .int .i64 0]), undef, (.string outS), (.string outS), (.bool true), (.bool true), (.bool true), (.bool true), (.agg #[.int .i64 1, .int .i64 N, .slice AB N cB]), (.agg #[.int .i64 1, .int .i64 N, .slice AT N cT]), (.int .i64 k), (.agg #[.int .i64 (-1), .int .i64 (-1), .int .i64 0]), undef, (.bool true), (.bool true), (.bool true), (.agg #[.int .i64 1, .int .i64 N, .slice AT N cT]), (.int .i64 k), (.agg #[.int .i64 (-1), .int .i64 (-1), .int .i64 0]), undef, (.agg #[.int .i64 1, .int .i64 N, .slice AT N cT]), (.bool true), (.bool true), (.bool true), (.agg #[.int .i64 1, .int .i64 N, .slice AT N cT]), (.int .i64 k), (.agg #[.int .i64 (-1), .int .i64 (-1), .int .i64 0]), undef, (.agg #[.int .i64 1, .int .i64 N, .slice AT N cT]), (.int .i64 k), (.agg #[.int .i64 (-1), .int .i64 (-1), .int .i64 0]), undef, (.bool true), (.bool true), (.bool true), (.bool true), (.bool true), (.bool true)].getD j undef) (fun j => [PG.dflt, PG.dflt, PG.dflt, PG.dflt, (PG.shiftI (PG.lets s N) 0 k q PG.plain), PG.dflt, PG.dflt, PG.dflt, PG.dflt, PG.dflt, PG.dflt, PG.dflt, PG.dflt, PG.dflt, PG.dflt, PG.dflt, PG.dflt, PG.dflt, PG.dflt, PG.dflt, (PG.shiftI (PG.lets s N) 0 k (-(q : Int)) PG.plain), PG.dflt, PG.dflt, PG.dflt, PG.dflt, PG.dflt, PG.dflt, PG.dflt, PG.dflt, PG.dflt, PG.dflt, (PG.lineI (PG.lets s N) 0 k 2 PG.plain), PG.dflt, PG.dflt, PG.dflt, PG.dflt, PG.dflt, PG.dflt, (PG.lineI (PG.lets s N) 0 k 3 PG.plain), PG.dflt, PG.dflt, PG.dflt, PG.dflt, PG.dflt, PG.dflt, PG.dflt, (PG.eraseI (PG.lets s N) 0 k 0 PG.plain), PG.dflt, PG.dflt, PG.dflt, (PG.lineI (PG.lets s N) 0 k 0 PG.plain), PG.dflt, PG.dflt, PG.dflt, PG.dflt, PG.dflt, PG.dflt].getD j PG.dflt) (fun _ => 0) (by kernel_rfl) (by kernel_rfl) (by kernel_rfl) rfl (by kernel_rfl) (no4 rfl) (fun i j h => by revert h; exact no4 (p := fun _ => _) rfl i) (fun hRS => cases57 ⟨?_, ?_, ?_, ?_, ?_, ?_, ?_, ?_, ?_, ?_, ?_, ?_, ?_, ?_, ?_, ?_, ?_, ?_, ?_, ?_, ?_, ?_, ?_, ?_, ?_, ?_, ?_, ?_, ?_, ?_, ?_, ?_, ?_, ?_, ?_, ?_, ?_, ?_, ?_, ?_, ?_, ?_, ?_, ?_, ?_, ?_, ?_, ?_, ?_, ?_, ?_, ?_, ?_, ?_, ?_, ?_, ?_⟩) ?_
        · intro L a w' hL hsame hsz hJ hdep hcl
          have e0 : a.eval (.tmp 10) = (.pointer (some ⟨gT, 0, none⟩)) := eval_base hsame (by kernel_rfl)
          have hb := hJ.keptBox BT.out (by simp)
          have q0 : w'.cell? ⟨gT, 0, none⟩ = some (.int .i64 1) := hb.cell 0
          have q1 : w'.cell? ⟨gT, 1, none⟩ = some (.int .i64 N) := hb.cell 1
          have q2 : w'.cell? ⟨gT, 2, none⟩ = some (.slice AT N cT) := hb.cell 2
          refine Step.val _ rfl rfl (wanted_none rfl) (.agg #[.int .i64 1, .int .i64 N, .slice AT N cT]) w' (fun ρ hρ => ?_) (hJ.val hRS hcl hL rfl (Below.refl _ _) _ rfl)
          rw [hρ] at e0
          clear hb
          clear hJ hsame hdep hcl hρ hsz
          go_simp
        · intro L a w' hL hsame hsz hJ hdep hcl
          have e0 : a.eval (.tmp 13) = (.int .i64 k) := eval_base hsame (by kernel_rfl)
          refine Step.val _ rfl rfl (wanted_none rfl) (.int .i64 k) w' (fun ρ hρ => ?_) (hJ.val hRS hcl hL rfl (Below.refl _ _) _ rfl)
          rw [hρ] at e0
          clear hJ hsame hdep hcl hρ hsz
          go_simp
        · intro L a w' hL hsame hsz hJ hdep hcl
          have e0 : a.eval (.tmp 14) = (.int .i64 q) := eval_base hsame (by kernel_rfl)
          refine Step.val _ rfl rfl (wanted_none rfl) (.int .i64 q) w' (fun ρ hρ => ?_) (hJ.val hRS hcl hL rfl (Below.refl _ _) _ rfl)
          rw [hρ] at e0
          clear hJ hsame hdep hcl hρ hsz
          go_simp
        · intro L a w' hL hsame hsz hJ hdep hcl
          have e0 : a.eval (.tmp 9) = (.pointer (some ⟨gP, 0, none⟩)) := eval_base hsame (by kernel_rfl)
          have hb := hJ.keptBox BP.out (by simp)
          have q0 : w'.cell? ⟨gP, 0, none⟩ = some (.int .i64 (-1)) := hb.cell 0
          have q1 : w'.cell? ⟨gP, 1, none⟩ = some (.int .i64 (-1)) := hb.cell 1
          have q2 : w'.cell? ⟨gP, 2, none⟩ = some (.int .i64 0) := hb.cell 2
          refine Step.val _ rfl rfl (wanted_none rfl) (.agg #[.int .i64 (-1), .int .i64 (-1), .int .i64 0]) w' (fun ρ hρ => ?_) (hJ.val hRS hcl hL rfl (Below.refl _ _) _ rfl)
          rw [hρ] at e0
          clear hb
          clear hJ hsame hdep hcl hρ hsz
          go_simp
        · intro L a w' hL hsame hsz hJ hdep hcl
          have e0 : a.eval (.tmp 121) = (.agg #[.int .i64 1, .int .i64 N, .slice AT N cT]) := eval_slot (j := 0) (by kernel_rfl) (hJ.valOf (by decide) (dep_of hdep 0 (by kernel_rfl)) rfl rfl)
          have e2 : a.eval (.tmp 122) = (.int .i64 k) := eval_slot (j := 1) (by kernel_rfl) (hJ.valOf (by decide) (dep_of hdep 1 (by kernel_rfl)) rfl rfl)
          have e3 : a.eval (.tmp 123) = (.int .i64 q) := eval_slot (j := 2) (by kernel_rfl) (hJ.valOf (by decide) (dep_of hdep 2 (by kernel_rfl)) rfl rfl)
          have e4 : a.eval (.tmp 124) = (.agg #[.int .i64 (-1), .int .i64 (-1), .int .i64 0]) := eval_slot (j := 3) (by kernel_rfl) (hJ.valOf (by decide) (dep_of hdep 3 (by kernel_rfl)) rfl rfl)
          refine Step.call _ rfl rfl (wanted_none rfl) 13 #[.agg #[.int .i64 1, .int .i64 N, .slice AT N cT], .int .i64 0, .int .i64 k, .int .i64 q, .agg #[.int .i64 (-1), .int .i64 (-1), .int .i64 0]] (fun ρ hρ => ?_) ?_
          · skip
            rw [hρ] at e0 e2 e3 e4
            have ec0 : ρ (.const (.int .i64 0)) = (.int .i64 0) := (hρ _).symm
            have ef : ρ (.func 13) = .func (.func 13) #[] #[] := (hρ _).symm
            clear hJ hsame hdep hcl hρ hsz
            go_simp
          · refine (u_insert HR.out.1 (IT.out.low (hJ.kept.toBelow (Nat.le_refl _) (by simp))) 0 k q PG.plain PG.plain_ok (by omega) bk bq).mono ?_
            rintro e w2 ⟨v, rfl, hg, bb⟩
            exact ⟨v, rfl, hJ.grid hRS hcl hL rfl bb v hg⟩
        · intro L a w' hL hsame hsz hJ hdep hcl
          obtain ⟨v4, hv4, hG4⟩ := hJ.gridAt (j := 4) (by decide) (dep_of hdep 4 (by kernel_rfl)) rfl
          have hG4 : IsG w' (PG.shiftI (PG.lets s N) 0 k q PG.plain) v4 := hG4
          have e0 : a.eval (.tmp 125) = v4 := eval_slot (j := 4) (by kernel_rfl) hv4
          refine Step.call _ rfl rfl (wanted_none rfl) 12 #[v4, .int .i64 0] (fun ρ hρ => ?_) ?_
          · skip
            rw [hρ] at e0
            have ec0 : ρ (.const (.int .i64 0)) = (.int .i64 0) := (hρ _).symm
            have ef : ρ (.func 12) = .func (.func 12) #[] #[] := (hρ _).symm
            clear hJ hsame hdep hcl hρ hsz
            go_simp
          · refine (TXI.out w' _ hG4).mono ?_
            rintro e w2 ⟨rfl, bb⟩
            exact ⟨_, rfl, hJ.val hRS hcl hL rfl bb _ rfl⟩
        · intro L a w' hL hsame hsz hJ hdep hcl
          have e0 : a.eval (.tmp 16) = (.string inS) := eval_base hsame (by kernel_rfl)
          refine Step.val _ rfl rfl (wanted_none rfl) (.string inS) w' (fun ρ hρ => ?_) (hJ.val hRS hcl hL rfl (Below.refl _ _) _ rfl)
          rw [hρ] at e0
          clear hJ hsame hdep hcl hρ hsz
          go_simp
        · intro L a w' hL hsame hsz hJ hdep hcl
          have e0 : a.eval (.tmp 126) = (.string inS) := eval_slot (j := 5) (by kernel_rfl) (hJ.valOf (by decide) (dep_of hdep 5 (by kernel_rfl)) rfl rfl)
          have e1 : a.eval (.tmp 127) = (.string inS) := eval_slot (j := 6) (by kernel_rfl) (hJ.valOf (by decide) (dep_of hdep 6 (by kernel_rfl)) rfl rfl)
          refine Step.val _ rfl rfl (wanted_none rfl) (.bool true) w' (fun ρ hρ => ?_) (hJ.val hRS hcl hL rfl (Below.refl _ _) _ rfl)
          rw [hρ] at e0 e1
          clear hJ hsame hdep hcl hρ hsz
          go_simp
        · intro L a w' hL hsame hsz hJ hdep hcl
          have e0 : a.eval (.tmp 128) = (.bool true) := eval_slot (j := 7) (by kernel_rfl) (hJ.valOf (by decide) (dep_of hdep 7 (by kernel_rfl)) rfl rfl)
          refine Step.val _ rfl rfl (wanted_none rfl) (.bool true) w' (fun ρ hρ => ?_) (hJ.val hRS hcl hL rfl (Below.refl _ _) _ rfl)
          rw [hρ] at e0
          clear hJ hsame hdep hcl hρ hsz
          go_simp
        · intro L a w' hL hsame hsz hJ hdep hcl
          have gd : valOf _ 8 a = .bool true := hJ.valOf (by decide) (dep_of hdep 8 (by kernel_rfl)) rfl rfl
          have e0 : a.eval (.tmp 13) = (.int .i64 k) := eval_base hsame (by kernel_rfl)
          refine Step.val _ rfl rfl (wanted_some (g := 8) (b := true) rfl gd) (.int .i64 k) w' (fun ρ hρ => ?_) (hJ.val hRS hcl hL rfl (Below.refl _ _) _ rfl)
          rw [hρ] at e0
          clear hJ hsame hdep hcl hρ hsz gd
          go_simp
        · intro L a w' hL hsame hsz hJ hdep hcl
          have gd : valOf _ 8 a = .bool true := hJ.valOf (by decide) (dep_of hdep 8 (by kernel_rfl)) rfl rfl
          have e0 : a.eval (.tmp 14) = (.int .i64 q) := eval_base hsame (by kernel_rfl)
          refine Step.val _ rfl rfl (wanted_some (g := 8) (b := true) rfl gd) (.int .i64 q) w' (fun ρ hρ => ?_) (hJ.val hRS hcl hL rfl (Below.refl _ _) _ rfl)
          rw [hρ] at e0
          clear hJ hsame hdep hcl hρ hsz gd
          go_simp
        · intro L a w' hL hsame hsz hJ hdep hcl
          have gd : valOf _ 8 a = .bool true := hJ.valOf (by decide) (dep_of hdep 8 (by kernel_rfl)) rfl rfl
          have e0 : a.eval (.tmp 130) = (.int .i64 k) := eval_slot (j := 9) (by kernel_rfl) (hJ.valOf (by decide) (dep_of hdep 9 (by kernel_rfl)) rfl rfl)
          have e1 : a.eval (.tmp 131) = (.int .i64 q) := eval_slot (j := 10) (by kernel_rfl) (hJ.valOf (by decide) (dep_of hdep 10 (by kernel_rfl)) rfl rfl)
          refine Step.val _ rfl rfl (wanted_some (g := 8) (b := true) rfl gd) (.int .i64 ((k : Int) + (q : Int))) w' (fun ρ hρ => ?_) (hJ.val hRS hcl hL rfl (Below.refl _ _) _ rfl)
          rw [hρ] at e0 e1
          clear hJ hsame hdep hcl hρ hsz gd
          go_simp
        · intro L a w' hL hsame hsz hJ hdep hcl
          have gd : valOf _ 8 a = .bool true := hJ.valOf (by decide) (dep_of hdep 8 (by kernel_rfl)) rfl rfl
          have e0 : a.eval (.tmp 7) = (.slice (some ad) N cs) := eval_base hsame (by kernel_rfl)
          refine Step.val _ rfl rfl (wanted_some (g := 8) (b := true) rfl gd) (.slice (some ad) N cs) w' (fun ρ hρ => ?_) (hJ.val hRS hcl hL rfl (Below.refl _ _) _ rfl)
          rw [hρ] at e0
          clear hJ hsame hdep hcl hρ hsz gd
          go_simp
        · intro L a w' hL hsame hsz hJ hdep hcl
          have gd : valOf _ 8 a = .bool true := hJ.valOf (by decide) (dep_of hdep 8 (by kernel_rfl)) rfl rfl
          have e0 : a.eval (.tmp 133) = (.slice (some ad) N cs) := eval_slot (j := 12) (by kernel_rfl) (hJ.valOf (by decide) (dep_of hdep 12 (by kernel_rfl)) rfl rfl)
          refine Step.val _ rfl rfl (wanted_some (g := 8) (b := true) rfl gd) (.int .i64 N) w' (fun ρ hρ => ?_) (hJ.val hRS hcl hL rfl (Below.refl _ _) _ rfl)
          rw [hρ] at e0
          clear hJ hsame hdep hcl hρ hsz gd
          go_simp
        · intro L a w' hL hsame hsz hJ hdep hcl
          have gd : valOf _ 8 a = .bool true := hJ.valOf (by decide) (dep_of hdep 8 (by kernel_rfl)) rfl rfl
          have e0 : a.eval (.tmp 132) = (.int .i64 ((k : Int) + (q : Int))) := eval_slot (j := 11) (by kernel_rfl) (hJ.valOf (by decide) (dep_of hdep 11 (by kernel_rfl)) rfl rfl)
          have e1 : a.eval (.tmp 134) = (.int .i64 N) := eval_slot (j := 13) (by kernel_rfl) (hJ.valOf (by decide) (dep_of hdep 13 (by kernel_rfl)) rfl rfl)
          refine Step.val _ rfl rfl (wanted_some (g := 8) (b := true) rfl gd) (.bool false) w' (fun ρ hρ => ?_) (hJ.val hRS hcl hL rfl (Below.refl _ _) _ rfl)
          rw [hρ] at e0 e1
          clear hJ hsame hdep hcl hρ hsz gd
          go_simp
        · intro L a w' hL hsame hsz hJ hdep hcl
          have gd : valOf _ 8 a = .bool true := hJ.valOf (by decide) (dep_of hdep 8 (by kernel_rfl)) rfl rfl
          have e0 : a.eval (.tmp 135) = (.bool false) := eval_slot (j := 14) (by kernel_rfl) (hJ.valOf (by decide) (dep_of hdep 14 (by kernel_rfl)) rfl rfl)
          refine Step.val _ rfl rfl (wanted_some (g := 8) (b := true) rfl gd) (.bool false) w' (fun ρ hρ => ?_) (hJ.val hRS hcl hL rfl (Below.refl _ _) _ rfl)
          rw [hρ] at e0
          clear hJ hsame hdep hcl hρ hsz gd
          go_simp
        · intro L a w' hL hsame hsz hJ hdep hcl
          have gd : valOf _ 15 a = .bool false := hJ.valOf (by decide) (dep_of hdep 15 (by kernel_rfl)) rfl rfl
          have e0 : a.eval (.tmp 10) = (.pointer (some ⟨gT, 0, none⟩)) := eval_base hsame (by kernel_rfl)
          have hb := hJ.keptBox BT.out (by simp)
          have q0 : w'.cell? ⟨gT, 0, none⟩ = some (.int .i64 1) := hb.cell 0
          have q1 : w'.cell? ⟨gT, 1, none⟩ = some (.int .i64 N) := hb.cell 1
          have q2 : w'.cell? ⟨gT, 2, none⟩ = some (.slice AT N cT) := hb.cell 2
          refine Step.val _ rfl rfl (wanted_some (g := 15) (b := false) rfl gd) (.agg #[.int .i64 1, .int .i64 N, .slice AT N cT]) w' (fun ρ hρ => ?_) (hJ.val hRS hcl hL rfl (Below.refl _ _) _ rfl)
          rw [hρ] at e0
          clear hb
          clear hJ hsame hdep hcl hρ hsz gd
          go_simp
        · intro L a w' hL hsame hsz hJ hdep hcl
          have gd : valOf _ 15 a = .bool false := hJ.valOf (by decide) (dep_of hdep 15 (by kernel_rfl)) rfl rfl
          have e0 : a.eval (.tmp 13) = (.int .i64 k) := eval_base hsame (by kernel_rfl)
          refine Step.val _ rfl rfl (wanted_some (g := 15) (b := false) rfl gd) (.int .i64 k) w' (fun ρ hρ => ?_) (hJ.val hRS hcl hL rfl (Below.refl _ _) _ rfl)
          rw [hρ] at e0
          clear hJ hsame hdep hcl hρ hsz gd
          go_simp
        · intro L a w' hL hsame hsz hJ hdep hcl
          have gd : valOf _ 15 a = .bool false := hJ.valOf (by decide) (dep_of hdep 15 (by kernel_rfl)) rfl rfl
          have e0 : a.eval (.tmp 14) = (.int .i64 q) := eval_base hsame (by kernel_rfl)
          refine Step.val _ rfl rfl (wanted_some (g := 15) (b := false) rfl gd) (.int .i64 q) w' (fun ρ hρ => ?_) (hJ.val hRS hcl hL rfl (Below.refl _ _) _ rfl)
          rw [hρ] at e0
          clear hJ hsame hdep hcl hρ hsz gd
          go_simp
        · intro L a w' hL hsame hsz hJ hdep hcl
          have gd : valOf _ 15 a = .bool false := hJ.valOf (by decide) (dep_of hdep 15 (by kernel_rfl)) rfl rfl
          have e0 : a.eval (.tmp 9) = (.pointer (some ⟨gP, 0, none⟩)) := eval_base hsame (by kernel_rfl)
          have hb := hJ.keptBox BP.out (by simp)
          have q0 : w'.cell? ⟨gP, 0, none⟩ = some (.int .i64 (-1)) := hb.cell 0
          have q1 : w'.cell? ⟨gP, 1, none⟩ = some (.int .i64 (-1)) := hb.cell 1
          have q2 : w'.cell? ⟨gP, 2, none⟩ = some (.int .i64 0) := hb.cell 2
          refine Step.val _ rfl rfl (wanted_some (g := 15) (b := false) rfl gd) (.agg #[.int .i64 (-1), .int .i64 (-1), .int .i64 0]) w' (fun ρ hρ => ?_) (hJ.val hRS hcl hL rfl (Below.refl _ _) _ rfl)
          rw [hρ] at e0
          clear hb
          clear hJ hsame hdep hcl hρ hsz gd
          go_simp
        · intro L a w' hL hsame hsz hJ hdep hcl
          have gd : valOf _ 15 a = .bool false := hJ.valOf (by decide) (dep_of hdep 15 (by kernel_rfl)) rfl rfl
          have e0 : a.eval (.tmp 137) = (.agg #[.int .i64 1, .int .i64 N, .slice AT N cT]) := eval_slot (j := 16) (by kernel_rfl) (hJ.valOf (by decide) (dep_of hdep 16 (by kernel_rfl)) rfl rfl)
          have e2 : a.eval (.tmp 138) = (.int .i64 k) := eval_slot (j := 17) (by kernel_rfl) (hJ.valOf (by decide) (dep_of hdep 17 (by kernel_rfl)) rfl rfl)
          have e3 : a.eval (.tmp 139) = (.int .i64 q) := eval_slot (j := 18) (by kernel_rfl) (hJ.valOf (by decide) (dep_of hdep 18 (by kernel_rfl)) rfl rfl)
          have e4 : a.eval (.tmp 140) = (.agg #[.int .i64 (-1), .int .i64 (-1), .int .i64 0]) := eval_slot (j := 19) (by kernel_rfl) (hJ.valOf (by decide) (dep_of hdep 19 (by kernel_rfl)) rfl rfl)
          refine Step.call _ rfl rfl (wanted_some (g := 15) (b := false) rfl gd) 15 #[.agg #[.int .i64 1, .int .i64 N, .slice AT N cT], .int .i64 0, .int .i64 k, .int .i64 q, .agg #[.int .i64 (-1), .int .i64 (-1), .int .i64 0]] (fun ρ hρ => ?_) ?_
          · skip
            rw [hρ] at e0 e2 e3 e4
            have ec0 : ρ (.const (.int .i64 0)) = (.int .i64 0) := (hρ _).symm
            have ef : ρ (.func 15) = .func (.func 15) #[] #[] := (hρ _).symm
            clear hJ hsame hdep hcl hρ hsz gd
            go_simp
          · refine (u_delete HR.out.1 (IT.out.low (hJ.kept.toBelow (Nat.le_refl _) (by simp))) 0 k q PG.plain PG.plain_ok (by omega) bk bq).mono ?_
            rintro e w2 ⟨v, rfl, hg, bb⟩
            exact ⟨v, rfl, hJ.grid hRS hcl hL rfl bb v hg⟩
        · intro L a w' hL hsame hsz hJ hdep hcl
          have gd : valOf _ 15 a = .bool false := hJ.valOf (by decide) (dep_of hdep 15 (by kernel_rfl)) rfl rfl
          obtain ⟨v20, hv20, hG20⟩ := hJ.gridAt (j := 20) (by decide) (dep_of hdep 20 (by kernel_rfl)) rfl
          have hG20 : IsG w' (PG.shiftI (PG.lets s N) 0 k (-(q : Int)) PG.plain) v20 := hG20
          have e0 : a.eval (.tmp 141) = v20 := eval_slot (j := 20) (by kernel_rfl) hv20
          refine Step.call _ rfl rfl (wanted_some (g := 15) (b := false) rfl gd) 12 #[v20, .int .i64 0] (fun ρ hρ => ?_) ?_
          · skip
            rw [hρ] at e0
            have ec0 : ρ (.const (.int .i64 0)) = (.int .i64 0) := (hρ _).symm
            have ef : ρ (.func 12) = .func (.func 12) #[] #[] := (hρ _).symm
            clear hJ hsame hdep hcl hρ hsz gd
            go_simp
          · refine (TXD.out (by omega) w' _ hG20).mono ?_
            rintro e w2 ⟨rfl, bb⟩
            exact ⟨_, rfl, hJ.val hRS hcl hL rfl bb _ rfl⟩
        · intro L a w' hL hsame hsz hJ hdep hcl
          have gd : valOf _ 15 a = .bool false := hJ.valOf (by decide) (dep_of hdep 15 (by kernel_rfl)) rfl rfl
          have e0 : a.eval (.tmp 17) = (.string outS) := eval_base hsame (by kernel_rfl)
          refine Step.val _ rfl rfl (wanted_some (g := 15) (b := false) rfl gd) (.string outS) w' (fun ρ hρ => ?_) (hJ.val hRS hcl hL rfl (Below.refl _ _) _ rfl)
          rw [hρ] at e0
          clear hJ hsame hdep hcl hρ hsz gd
          go_simp
        · intro L a w' hL hsame hsz hJ hdep hcl
          have gd : valOf _ 15 a = .bool false := hJ.valOf (by decide) (dep_of hdep 15 (by kernel_rfl)) rfl rfl
          have e0 : a.eval (.tmp 142) = (.string outS) := eval_slot (j := 21) (by kernel_rfl) (hJ.valOf (by decide) (dep_of hdep 21 (by kernel_rfl)) rfl rfl)
          have e1 : a.eval (.tmp 143) = (.string outS) := eval_slot (j := 22) (by kernel_rfl) (hJ.valOf (by decide) (dep_of hdep 22 (by kernel_rfl)) rfl rfl)
          refine Step.val _ rfl rfl (wanted_some (g := 15) (b := false) rfl gd) (.bool true) w' (fun ρ hρ => ?_) (hJ.val hRS hcl hL rfl (Below.refl _ _) _ rfl)
          rw [hρ] at e0 e1
          clear hJ hsame hdep hcl hρ hsz gd
          go_simp
        · intro L a w' hL hsame hsz hJ hdep hcl
          have gd : valOf _ 8 a = .bool true := hJ.valOf (by decide) (dep_of hdep 8 (by kernel_rfl)) rfl rfl
          have e0 : a.eval (.tmp 136) = (.bool false) := eval_slot (j := 15) (by kernel_rfl) (hJ.valOf (by decide) (dep_of hdep 15 (by kernel_rfl)) rfl rfl)
          have e2 : a.eval (.tmp 144) = (.bool true) := eval_slot (j := 23) (by kernel_rfl) (hJ.valOf (by decide) (dep_of hdep 23 (by kernel_rfl)) rfl rfl)
          refine Step.val _ rfl rfl (wanted_some (g := 8) (b := true) rfl gd) (.bool true) w' (fun ρ hρ => ?_) (hJ.val hRS hcl hL rfl (Below.refl _ _) _ rfl)
          rw [hρ] at e0 e2
          have ec0 : ρ (.const (.bool true)) = (.bool true) := (hρ _).symm
          clear hJ hsame hdep hcl hρ hsz gd
          go_simp
        · intro L a w' hL hsame hsz hJ hdep hcl
          have e0 : a.eval (.tmp 129) = (.bool true) := eval_slot (j := 8) (by kernel_rfl) (hJ.valOf (by decide) (dep_of hdep 8 (by kernel_rfl)) rfl rfl)
          have e1 : a.eval (.tmp 145) = (.bool true) := eval_slot (j := 24) (by kernel_rfl) (hJ.valOf (by decide) (dep_of hdep 24 (by kernel_rfl)) rfl rfl)
          refine Step.val _ rfl rfl (wanted_none rfl) (.bool true) w' (fun ρ hρ => ?_) (hJ.val hRS hcl hL rfl (Below.refl _ _) _ rfl)
          rw [hρ] at e0 e1
          have ec0 : ρ (.const (.bool false)) = (.bool false) := (hρ _).symm
          clear hJ hsame hdep hcl hρ hsz
          go_simp
        · intro L a w' hL hsame hsz hJ hdep hcl
          have e0 : a.eval (.tmp 146) = (.bool true) := eval_slot (j := 25) (by kernel_rfl) (hJ.valOf (by decide) (dep_of hdep 25 (by kernel_rfl)) rfl rfl)
          refine Step.val _ rfl rfl (wanted_none rfl) (.bool true) w' (fun ρ hρ => ?_) (hJ.val hRS hcl hL rfl (Below.refl _ _) _ rfl)
          rw [hρ] at e0
          clear hJ hsame hdep hcl hρ hsz
          go_simp
        · intro L a w' hL hsame hsz hJ hdep hcl
          have gd : valOf _ 26 a = .bool true := hJ.valOf (by decide) (dep_of hdep 26 (by kernel_rfl)) rfl rfl
          have e0 : a.eval (.tmp 18) = (.pointer (some ⟨gB, 0, none⟩)) := eval_base hsame (by kernel_rfl)
          have hb := hJ.keptBox BU.out (by simp)
          have q0 : w'.cell? ⟨gB, 0, none⟩ = some (.int .i64 1) := hb.cell 0
          have q1 : w'.cell? ⟨gB, 1, none⟩ = some (.int .i64 N) := hb.cell 1
          have q2 : w'.cell? ⟨gB, 2, none⟩ = some (.slice AB N cB) := hb.cell 2
          refine Step.val _ rfl rfl (wanted_some (g := 26) (b := true) rfl gd) (.agg #[.int .i64 1, .int .i64 N, .slice AB N cB]) w' (fun ρ hρ => ?_) (hJ.val hRS hcl hL rfl (Below.refl _ _) _ rfl)
          rw [hρ] at e0
          clear hb
          clear hJ hsame hdep hcl hρ hsz gd
          go_simp
        · intro L a w' hL hsame hsz hJ hdep hcl
          have gd : valOf _ 26 a = .bool true := hJ.valOf (by decide) (dep_of hdep 26 (by kernel_rfl)) rfl rfl
          have e0 : a.eval (.tmp 10) = (.pointer (some ⟨gT, 0, none⟩)) := eval_base hsame (by kernel_rfl)
          have hb := hJ.keptBox BT.out (by simp)
          have q0 : w'.cell? ⟨gT, 0, none⟩ = some (.int .i64 1) := hb.cell 0
          have q1 : w'.cell? ⟨gT, 1, none⟩ = some (.int .i64 N) := hb.cell 1
          have q2 : w'.cell? ⟨gT, 2, none⟩ = some (.slice AT N cT) := hb.cell 2
          refine Step.val _ rfl rfl (wanted_some (g := 26) (b := true) rfl gd) (.agg #[.int .i64 1, .int .i64 N, .slice AT N cT]) w' (fun ρ hρ => ?_) (hJ.val hRS hcl hL rfl (Below.refl _ _) _ rfl)
          rw [hρ] at e0
          clear hb
          clear hJ hsame hdep hcl hρ hsz gd
          go_simp
        · intro L a w' hL hsame hsz hJ hdep hcl
          have gd : valOf _ 26 a = .bool true := hJ.valOf (by decide) (dep_of hdep 26 (by kernel_rfl)) rfl rfl
          have e0 : a.eval (.tmp 13) = (.int .i64 k) := eval_base hsame (by kernel_rfl)
          refine Step.val _ rfl rfl (wanted_some (g := 26) (b := true) rfl gd) (.int .i64 k) w' (fun ρ hρ => ?_) (hJ.val hRS hcl hL rfl (Below.refl _ _) _ rfl)
          rw [hρ] at e0
          clear hJ hsame hdep hcl hρ hsz gd
          go_simp
        · intro L a w' hL hsame hsz hJ hdep hcl
          have gd : valOf _ 26 a = .bool true := hJ.valOf (by decide) (dep_of hdep 26 (by kernel_rfl)) rfl rfl
          have e0 : a.eval (.tmp 9) = (.pointer (some ⟨gP, 0, none⟩)) := eval_base hsame (by kernel_rfl)
          have hb := hJ.keptBox BP.out (by simp)
          have q0 : w'.cell? ⟨gP, 0, none⟩ = some (.int .i64 (-1)) := hb.cell 0
          have q1 : w'.cell? ⟨gP, 1, none⟩ = some (.int .i64 (-1)) := hb.cell 1
          have q2 : w'.cell? ⟨gP, 2, none⟩ = some (.int .i64 0) := hb.cell 2
          refine Step.val _ rfl rfl (wanted_some (g := 26) (b := true) rfl gd) (.agg #[.int .i64 (-1), .int .i64 (-1), .int .i64 0]) w' (fun ρ hρ => ?_) (hJ.val hRS hcl hL rfl (Below.refl _ _) _ rfl)
          rw [hρ] at e0
          clear hb
          clear hJ hsame hdep hcl hρ hsz gd
          go_simp
        · intro L a w' hL hsame hsz hJ hdep hcl
          have gd : valOf _ 26 a = .bool true := hJ.valOf (by decide) (dep_of hdep 26 (by kernel_rfl)) rfl rfl
          have e0 : a.eval (.tmp 149) = (.agg #[.int .i64 1, .int .i64 N, .slice AT N cT]) := eval_slot (j := 28) (by kernel_rfl) (hJ.valOf (by decide) (dep_of hdep 28 (by kernel_rfl)) rfl rfl)
          have e2 : a.eval (.tmp 150) = (.int .i64 k) := eval_slot (j := 29) (by kernel_rfl) (hJ.valOf (by decide) (dep_of hdep 29 (by kernel_rfl)) rfl rfl)
          have e4 : a.eval (.tmp 151) = (.agg #[.int .i64 (-1), .int .i64 (-1), .int .i64 0]) := eval_slot (j := 30) (by kernel_rfl) (hJ.valOf (by decide) (dep_of hdep 30 (by kernel_rfl)) rfl rfl)
          refine Step.call _ rfl rfl (wanted_some (g := 26) (b := true) rfl gd) 24 #[.agg #[.int .i64 1, .int .i64 N, .slice AT N cT], .int .i64 0, .int .i64 k, .int .i64 2, .agg #[.int .i64 (-1), .int .i64 (-1), .int .i64 0]] (fun ρ hρ => ?_) ?_
          · skip
            rw [hρ] at e0 e2 e4
            have ec0 : ρ (.const (.int .i64 0)) = (.int .i64 0) := (hρ _).symm
            have ec1 : ρ (.const (.int .i64 2)) = (.int .i64 2) := (hρ _).symm
            have ef : ρ (.func 24) = .func (.func 24) #[] #[] := (hρ _).symm
            clear hJ hsame hdep hcl hρ hsz gd
            go_simp
          · refine (u_line HR.out.1 (IT.out.low (hJ.kept.toBelow (Nat.le_refl _) (by simp))) 0 k 2 PG.plain PG.plain_ok (by omega) bk).mono ?_
            rintro e w2 ⟨v, rfl, hg, bb⟩
            exact ⟨v, rfl, hJ.grid hRS hcl hL rfl bb v hg⟩
        · intro L a w' hL hsame hsz hJ hdep hcl
          have gd : valOf _ 26 a = .bool true := hJ.valOf (by decide) (dep_of hdep 26 (by kernel_rfl)) rfl rfl
          have e0 : a.eval (.tmp 148) = (.agg #[.int .i64 1, .int .i64 N, .slice AB N cB]) := eval_slot (j := 27) (by kernel_rfl) (hJ.valOf (by decide) (dep_of hdep 27 (by kernel_rfl)) rfl rfl)
          obtain ⟨v31, hv31, hG31⟩ := hJ.gridAt (j := 31) (by decide) (dep_of hdep 31 (by kernel_rfl)) rfl
          have hG31 : IsG w' (PG.lineI (PG.lets s N) 0 k 2 PG.plain) v31 := hG31
          have e1 : a.eval (.tmp 152) = v31 := eval_slot (j := 31) (by kernel_rfl) hv31
          refine Step.call _ rfl rfl (wanted_some (g := 26) (b := true) rfl gd) 28 #[.agg #[.int .i64 1, .int .i64 N, .slice AB N cB], v31] (fun ρ hρ => ?_) ?_
          · skip
            rw [hρ] at e0 e1
            have ef : ρ (.func 28) = .func (.func 28) #[] #[] := (hρ _).symm
            clear hJ hsame hdep hcl hρ hsz gd
            go_simp
          · refine (u_same (PG.right_lineI (PG.right_lineI HR.out.1 PG.plain_ok _ _ _) PG.plain_ok _ _ _) (IB.out.low (hJ.kept.toBelow (Nat.le_refl _) (by simp))) hG31 AL2.out).mono ?_
            rintro e w2 ⟨rfl, bb⟩
            exact ⟨_, rfl, hJ.val hRS hcl hL rfl bb _ rfl⟩
        · intro L a w' hL hsame hsz hJ hdep hcl
          have e0 : a.eval (.tmp 147) = (.bool true) := eval_slot (j := 26) (by kernel_rfl) (hJ.valOf (by decide) (dep_of hdep 26 (by kernel_rfl)) rfl rfl)
          have e1 : a.eval (.tmp 153) = (.bool true) := eval_slot (j := 32) (by kernel_rfl) (hJ.valOf (by decide) (dep_of hdep 32 (by kernel_rfl)) rfl rfl)
          refine Step.val _ rfl rfl (wanted_none rfl) (.bool true) w' (fun ρ hρ => ?_) (hJ.val hRS hcl hL rfl (Below.refl _ _) _ rfl)
          rw [hρ] at e0 e1
          have ec0 : ρ (.const (.bool false)) = (.bool false) := (hρ _).symm
          clear hJ hsame hdep hcl hρ hsz
          go_simp
        · intro L a w' hL hsame hsz hJ hdep hcl
          have e0 : a.eval (.tmp 154) = (.bool true) := eval_slot (j := 33) (by kernel_rfl) (hJ.valOf (by decide) (dep_of hdep 33 (by kernel_rfl)) rfl rfl)
          refine Step.val _ rfl rfl (wanted_none rfl) (.bool true) w' (fun ρ hρ => ?_) (hJ.val hRS hcl hL rfl (Below.refl _ _) _ rfl)
          rw [hρ] at e0
          clear hJ hsame hdep hcl hρ hsz
          go_simp
        · intro L a w' hL hsame hsz hJ hdep hcl
          have gd : valOf _ 34 a = .bool true := hJ.valOf (by decide) (dep_of hdep 34 (by kernel_rfl)) rfl rfl
          have e0 : a.eval (.tmp 10) = (.pointer (some ⟨gT, 0, none⟩)) := eval_base hsame (by kernel_rfl)
          have hb := hJ.keptBox BT.out (by simp)
          have q0 : w'.cell? ⟨gT, 0, none⟩ = some (.int .i64 1) := hb.cell 0
          have q1 : w'.cell? ⟨gT, 1, none⟩ = some (.int .i64 N) := hb.cell 1
          have q2 : w'.cell? ⟨gT, 2, none⟩ = some (.slice AT N cT) := hb.cell 2
          refine Step.val _ rfl rfl (wanted_some (g := 34) (b := true) rfl gd) (.agg #[.int .i64 1, .int .i64 N, .slice AT N cT]) w' (fun ρ hρ => ?_) (hJ.val hRS hcl hL rfl (Below.refl _ _) _ rfl)
          rw [hρ] at e0
          clear hb
          clear hJ hsame hdep hcl hρ hsz gd
          go_simp
        · intro L a w' hL hsame hsz hJ hdep hcl
          have gd : valOf _ 34 a = .bool true := hJ.valOf (by decide) (dep_of hdep 34 (by kernel_rfl)) rfl rfl
          have e0 : a.eval (.tmp 13) = (.int .i64 k) := eval_base hsame (by kernel_rfl)
          refine Step.val _ rfl rfl (wanted_some (g := 34) (b := true) rfl gd) (.int .i64 k) w' (fun ρ hρ => ?_) (hJ.val hRS hcl hL rfl (Below.refl _ _) _ rfl)
          rw [hρ] at e0
          clear hJ hsame hdep hcl hρ hsz gd
          go_simp
        · intro L a w' hL hsame hsz hJ hdep hcl
          have gd : valOf _ 34 a = .bool true := hJ.valOf (by decide) (dep_of hdep 34 (by kernel_rfl)) rfl rfl
          have e0 : a.eval (.tmp 9) = (.pointer (some ⟨gP, 0, none⟩)) := eval_base hsame (by kernel_rfl)
          have hb := hJ.keptBox BP.out (by simp)
          have q0 : w'.cell? ⟨gP, 0, none⟩ = some (.int .i64 (-1)) := hb.cell 0
          have q1 : w'.cell? ⟨gP, 1, none⟩ = some (.int .i64 (-1)) := hb.cell 1
          have q2 : w'.cell? ⟨gP, 2, none⟩ = some (.int .i64 0) := hb.cell 2
          refine Step.val _ rfl rfl (wanted_some (g := 34) (b := true) rfl gd) (.agg #[.int .i64 (-1), .int .i64 (-1), .int .i64 0]) w' (fun ρ hρ => ?_) (hJ.val hRS hcl hL rfl (Below.refl _ _) _ rfl)
          rw [hρ] at e0
          clear hb
          clear hJ hsame hdep hcl hρ hsz gd
          go_simp
        · intro L a w' hL hsame hsz hJ hdep hcl
          have gd : valOf _ 34 a = .bool true := hJ.valOf (by decide) (dep_of hdep 34 (by kernel_rfl)) rfl rfl
          have e0 : a.eval (.tmp 156) = (.agg #[.int .i64 1, .int .i64 N, .slice AT N cT]) := eval_slot (j := 35) (by kernel_rfl) (hJ.valOf (by decide) (dep_of hdep 35 (by kernel_rfl)) rfl rfl)
          have e2 : a.eval (.tmp 157) = (.int .i64 k) := eval_slot (j := 36) (by kernel_rfl) (hJ.valOf (by decide) (dep_of hdep 36 (by kernel_rfl)) rfl rfl)
          have e4 : a.eval (.tmp 158) = (.agg #[.int .i64 (-1), .int .i64 (-1), .int .i64 0]) := eval_slot (j := 37) (by kernel_rfl) (hJ.valOf (by decide) (dep_of hdep 37 (by kernel_rfl)) rfl rfl)
          refine Step.call _ rfl rfl (wanted_some (g := 34) (b := true) rfl gd) 24 #[.agg #[.int .i64 1, .int .i64 N, .slice AT N cT], .int .i64 0, .int .i64 k, .int .i64 3, .agg #[.int .i64 (-1), .int .i64 (-1), .int .i64 0]] (fun ρ hρ => ?_) ?_
          · skip
            rw [hρ] at e0 e2 e4
            have ec0 : ρ (.const (.int .i64 0)) = (.int .i64 0) := (hρ _).symm
            have ec1 : ρ (.const (.int .i64 3)) = (.int .i64 3) := (hρ _).symm
            have ef : ρ (.func 24) = .func (.func 24) #[] #[] := (hρ _).symm
            clear hJ hsame hdep hcl hρ hsz gd
            go_simp
          · refine (u_line HR.out.1 (IT.out.low (hJ.kept.toBelow (Nat.le_refl _) (by simp))) 0 k 3 PG.plain PG.plain_ok (by omega) bk).mono ?_
            rintro e w2 ⟨v, rfl, hg, bb⟩
            exact ⟨v, rfl, hJ.grid hRS hcl hL rfl bb v hg⟩
        · intro L a w' hL hsame hsz hJ hdep hcl
          have gd : valOf _ 34 a = .bool true := hJ.valOf (by decide) (dep_of hdep 34 (by kernel_rfl)) rfl rfl
          have e0 : a.eval (.tmp 10) = (.pointer (some ⟨gT, 0, none⟩)) := eval_base hsame (by kernel_rfl)
          have hb := hJ.keptBox BT.out (by simp)
          have q0 : w'.cell? ⟨gT, 0, none⟩ = some (.int .i64 1) := hb.cell 0
          have q1 : w'.cell? ⟨gT, 1, none⟩ = some (.int .i64 N) := hb.cell 1
          have q2 : w'.cell? ⟨gT, 2, none⟩ = some (.slice AT N cT) := hb.cell 2
          refine Step.val _ rfl rfl (wanted_some (g := 34) (b := true) rfl gd) (.agg #[.int .i64 1, .int .i64 N, .slice AT N cT]) w' (fun ρ hρ => ?_) (hJ.val hRS hcl hL rfl (Below.refl _ _) _ rfl)
          rw [hρ] at e0
          clear hb
          clear hJ hsame hdep hcl hρ hsz gd
          go_simp
        · intro L a w' hL hsame hsz hJ hdep hcl
          have gd : valOf _ 34 a = .bool true := hJ.valOf (by decide) (dep_of hdep 34 (by kernel_rfl)) rfl rfl
          obtain ⟨v38, hv38, hG38⟩ := hJ.gridAt (j := 38) (by decide) (dep_of hdep 38 (by kernel_rfl)) rfl
          have hG38 : IsG w' (PG.lineI (PG.lets s N) 0 k 3 PG.plain) v38 := hG38
          have e0 : a.eval (.tmp 159) = v38 := eval_slot (j := 38) (by kernel_rfl) hv38
          have e1 : a.eval (.tmp 160) = (.agg #[.int .i64 1, .int .i64 N, .slice AT N cT]) := eval_slot (j := 39) (by kernel_rfl) (hJ.valOf (by decide) (dep_of hdep 39 (by kernel_rfl)) rfl rfl)
          refine Step.call _ rfl rfl (wanted_some (g := 34) (b := true) rfl gd) 28 #[v38, .agg #[.int .i64 1, .int .i64 N, .slice AT N cT]] (fun ρ hρ => ?_) ?_
          · skip
            rw [hρ] at e0 e1
            have ef : ρ (.func 28) = .func (.func 28) #[] #[] := (hρ _).symm
            clear hJ hsame hdep hcl hρ hsz gd
            go_simp
          · refine (u_same (PG.right_lineI HR.out.1 PG.plain_ok _ _ _) hG38 (IT.out.low (hJ.kept.toBelow (Nat.le_refl _) (by simp))) AL3.out).mono ?_
            rintro e w2 ⟨rfl, bb⟩
            exact ⟨_, rfl, hJ.val hRS hcl hL rfl bb _ rfl⟩
        · intro L a w' hL hsame hsz hJ hdep hcl
          have e0 : a.eval (.tmp 155) = (.bool true) := eval_slot (j := 34) (by kernel_rfl) (hJ.valOf (by decide) (dep_of hdep 34 (by kernel_rfl)) rfl rfl)
          have e1 : a.eval (.tmp 161) = (.bool true) := eval_slot (j := 40) (by kernel_rfl) (hJ.valOf (by decide) (dep_of hdep 40 (by kernel_rfl)) rfl rfl)
          refine Step.val _ rfl rfl (wanted_none rfl) (.bool true) w' (fun ρ hρ => ?_) (hJ.val hRS hcl hL rfl (Below.refl _ _) _ rfl)
          rw [hρ] at e0 e1
          have ec0 : ρ (.const (.bool false)) = (.bool false) := (hρ _).symm
          clear hJ hsame hdep hcl hρ hsz
          go_simp
        · intro L a w' hL hsame hsz hJ hdep hcl
          have e0 : a.eval (.tmp 162) = (.bool true) := eval_slot (j := 41) (by kernel_rfl) (hJ.valOf (by decide) (dep_of hdep 41 (by kernel_rfl)) rfl rfl)
          refine Step.val _ rfl rfl (wanted_none rfl) (.bool true) w' (fun ρ hρ => ?_) (hJ.val hRS hcl hL rfl (Below.refl _ _) _ rfl)
          rw [hρ] at e0
          clear hJ hsame hdep hcl hρ hsz
          go_simp
        · intro L a w' hL hsame hsz hJ hdep hcl
          have gd : valOf _ 42 a = .bool true := hJ.valOf (by decide) (dep_of hdep 42 (by kernel_rfl)) rfl rfl
          have e0 : a.eval (.tmp 10) = (.pointer (some ⟨gT, 0, none⟩)) := eval_base hsame (by kernel_rfl)
          have hb := hJ.keptBox BT.out (by simp)
          have q0 : w'.cell? ⟨gT, 0, none⟩ = some (.int .i64 1) := hb.cell 0
          have q1 : w'.cell? ⟨gT, 1, none⟩ = some (.int .i64 N) := hb.cell 1
          have q2 : w'.cell? ⟨gT, 2, none⟩ = some (.slice AT N cT) := hb.cell 2
          refine Step.val _ rfl rfl (wanted_some (g := 42) (b := true) rfl gd) (.agg #[.int .i64 1, .int .i64 N, .slice AT N cT]) w' (fun ρ hρ => ?_) (hJ.val hRS hcl hL rfl (Below.refl _ _) _ rfl)
          rw [hρ] at e0
          clear hb
          clear hJ hsame hdep hcl hρ hsz gd
          go_simp
        · intro L a w' hL hsame hsz hJ hdep hcl
          have gd : valOf _ 42 a = .bool true := hJ.valOf (by decide) (dep_of hdep 42 (by kernel_rfl)) rfl rfl
          have e0 : a.eval (.tmp 13) = (.int .i64 k) := eval_base hsame (by kernel_rfl)
          refine Step.val _ rfl rfl (wanted_some (g := 42) (b := true) rfl gd) (.int .i64 k) w' (fun ρ hρ => ?_) (hJ.val hRS hcl hL rfl (Below.refl _ _) _ rfl)
          rw [hρ] at e0
          clear hJ hsame hdep hcl hρ hsz gd
          go_simp
        · intro L a w' hL hsame hsz hJ hdep hcl
          have gd : valOf _ 42 a = .bool true := hJ.valOf (by decide) (dep_of hdep 42 (by kernel_rfl)) rfl rfl
          have e0 : a.eval (.tmp 9) = (.pointer (some ⟨gP, 0, none⟩)) := eval_base hsame (by kernel_rfl)
          have hb := hJ.keptBox BP.out (by simp)
          have q0 : w'.cell? ⟨gP, 0, none⟩ = some (.int .i64 (-1)) := hb.cell 0
          have q1 : w'.cell? ⟨gP, 1, none⟩ = some (.int .i64 (-1)) := hb.cell 1
          have q2 : w'.cell? ⟨gP, 2, none⟩ = some (.int .i64 0) := hb.cell 2
          refine Step.val _ rfl rfl (wanted_some (g := 42) (b := true) rfl gd) (.agg #[.int .i64 (-1), .int .i64 (-1), .int .i64 0]) w' (fun ρ hρ => ?_) (hJ.val hRS hcl hL rfl (Below.refl _ _) _ rfl)
          rw [hρ] at e0
          clear hb
          clear hJ hsame hdep hcl hρ hsz gd
          go_simp
        · intro L a w' hL hsame hsz hJ hdep hcl
          have gd : valOf _ 42 a = .bool true := hJ.valOf (by decide) (dep_of hdep 42 (by kernel_rfl)) rfl rfl
          have e0 : a.eval (.tmp 164) = (.agg #[.int .i64 1, .int .i64 N, .slice AT N cT]) := eval_slot (j := 43) (by kernel_rfl) (hJ.valOf (by decide) (dep_of hdep 43 (by kernel_rfl)) rfl rfl)
          have e2 : a.eval (.tmp 165) = (.int .i64 k) := eval_slot (j := 44) (by kernel_rfl) (hJ.valOf (by decide) (dep_of hdep 44 (by kernel_rfl)) rfl rfl)
          have e4 : a.eval (.tmp 166) = (.agg #[.int .i64 (-1), .int .i64 (-1), .int .i64 0]) := eval_slot (j := 45) (by kernel_rfl) (hJ.valOf (by decide) (dep_of hdep 45 (by kernel_rfl)) rfl rfl)
          refine Step.call _ rfl rfl (wanted_some (g := 42) (b := true) rfl gd) 22 #[.agg #[.int .i64 1, .int .i64 N, .slice AT N cT], .int .i64 0, .int .i64 k, .int .i64 0, .agg #[.int .i64 (-1), .int .i64 (-1), .int .i64 0]] (fun ρ hρ => ?_) ?_
          · skip
            rw [hρ] at e0 e2 e4
            have ec0 : ρ (.const (.int .i64 0)) = (.int .i64 0) := (hρ _).symm
            have ef : ρ (.func 22) = .func (.func 22) #[] #[] := (hρ _).symm
            clear hJ hsame hdep hcl hρ hsz gd
            go_simp
          · refine (u_erase HR.out.1 (IT.out.low (hJ.kept.toBelow (Nat.le_refl _) (by simp))) 0 k 0 PG.plain PG.plain_ok (by omega) bk).mono ?_
            rintro e w2 ⟨v, rfl, hg, bb⟩
            exact ⟨v, rfl, hJ.grid hRS hcl hL rfl bb v hg⟩
        · intro L a w' hL hsame hsz hJ hdep hcl
          have gd : valOf _ 42 a = .bool true := hJ.valOf (by decide) (dep_of hdep 42 (by kernel_rfl)) rfl rfl
          have e0 : a.eval (.tmp 10) = (.pointer (some ⟨gT, 0, none⟩)) := eval_base hsame (by kernel_rfl)
          have hb := hJ.keptBox BT.out (by simp)
          have q0 : w'.cell? ⟨gT, 0, none⟩ = some (.int .i64 1) := hb.cell 0
          have q1 : w'.cell? ⟨gT, 1, none⟩ = some (.int .i64 N) := hb.cell 1
          have q2 : w'.cell? ⟨gT, 2, none⟩ = some (.slice AT N cT) := hb.cell 2
          refine Step.val _ rfl rfl (wanted_some (g := 42) (b := true) rfl gd) (.agg #[.int .i64 1, .int .i64 N, .slice AT N cT]) w' (fun ρ hρ => ?_) (hJ.val hRS hcl hL rfl (Below.refl _ _) _ rfl)
          rw [hρ] at e0
          clear hb
          clear hJ hsame hdep hcl hρ hsz gd
          go_simp
        · intro L a w' hL hsame hsz hJ hdep hcl
          have gd : valOf _ 42 a = .bool true := hJ.valOf (by decide) (dep_of hdep 42 (by kernel_rfl)) rfl rfl
          have e0 : a.eval (.tmp 13) = (.int .i64 k) := eval_base hsame (by kernel_rfl)
          refine Step.val _ rfl rfl (wanted_some (g := 42) (b := true) rfl gd) (.int .i64 k) w' (fun ρ hρ => ?_) (hJ.val hRS hcl hL rfl (Below.refl _ _) _ rfl)
          rw [hρ] at e0
          clear hJ hsame hdep hcl hρ hsz gd
          go_simp
        · intro L a w' hL hsame hsz hJ hdep hcl
          have gd : valOf _ 42 a = .bool true := hJ.valOf (by decide) (dep_of hdep 42 (by kernel_rfl)) rfl rfl
          have e0 : a.eval (.tmp 9) = (.pointer (some ⟨gP, 0, none⟩)) := eval_base hsame (by kernel_rfl)
          have hb := hJ.keptBox BP.out (by simp)
          have q0 : w'.cell? ⟨gP, 0, none⟩ = some (.int .i64 (-1)) := hb.cell 0
          have q1 : w'.cell? ⟨gP, 1, none⟩ = some (.int .i64 (-1)) := hb.cell 1
          have q2 : w'.cell? ⟨gP, 2, none⟩ = some (.int .i64 0) := hb.cell 2
          refine Step.val _ rfl rfl (wanted_some (g := 42) (b := true) rfl gd) (.agg #[.int .i64 (-1), .int .i64 (-1), .int .i64 0]) w' (fun ρ hρ => ?_) (hJ.val hRS hcl hL rfl (Below.refl _ _) _ rfl)
          rw [hρ] at e0
          clear hb
          clear hJ hsame hdep hcl hρ hsz gd
          go_simp
        · intro L a w' hL hsame hsz hJ hdep hcl
          have gd : valOf _ 42 a = .bool true := hJ.valOf (by decide) (dep_of hdep 42 (by kernel_rfl)) rfl rfl
          have e0 : a.eval (.tmp 168) = (.agg #[.int .i64 1, .int .i64 N, .slice AT N cT]) := eval_slot (j := 47) (by kernel_rfl) (hJ.valOf (by decide) (dep_of hdep 47 (by kernel_rfl)) rfl rfl)
          have e2 : a.eval (.tmp 169) = (.int .i64 k) := eval_slot (j := 48) (by kernel_rfl) (hJ.valOf (by decide) (dep_of hdep 48 (by kernel_rfl)) rfl rfl)
          have e4 : a.eval (.tmp 170) = (.agg #[.int .i64 (-1), .int .i64 (-1), .int .i64 0]) := eval_slot (j := 49) (by kernel_rfl) (hJ.valOf (by decide) (dep_of hdep 49 (by kernel_rfl)) rfl rfl)
          refine Step.call _ rfl rfl (wanted_some (g := 42) (b := true) rfl gd) 24 #[.agg #[.int .i64 1, .int .i64 N, .slice AT N cT], .int .i64 0, .int .i64 k, .int .i64 0, .agg #[.int .i64 (-1), .int .i64 (-1), .int .i64 0]] (fun ρ hρ => ?_) ?_
          · skip
            rw [hρ] at e0 e2 e4
            have ec0 : ρ (.const (.int .i64 0)) = (.int .i64 0) := (hρ _).symm
            have ef : ρ (.func 24) = .func (.func 24) #[] #[] := (hρ _).symm
            clear hJ hsame hdep hcl hρ hsz gd
            go_simp
          · refine (u_line HR.out.1 (IT.out.low (hJ.kept.toBelow (Nat.le_refl _) (by simp))) 0 k 0 PG.plain PG.plain_ok (by omega) bk).mono ?_
            rintro e w2 ⟨v, rfl, hg, bb⟩
            exact ⟨v, rfl, hJ.grid hRS hcl hL rfl bb v hg⟩
        · intro L a w' hL hsame hsz hJ hdep hcl
          have gd : valOf _ 42 a = .bool true := hJ.valOf (by decide) (dep_of hdep 42 (by kernel_rfl)) rfl rfl
          obtain ⟨v46, hv46, hG46⟩ := hJ.gridAt (j := 46) (by decide) (dep_of hdep 46 (by kernel_rfl)) rfl
          have hG46 : IsG w' (PG.eraseI (PG.lets s N) 0 k 0 PG.plain) v46 := hG46
          have e0 : a.eval (.tmp 167) = v46 := eval_slot (j := 46) (by kernel_rfl) hv46
          obtain ⟨v50, hv50, hG50⟩ := hJ.gridAt (j := 50) (by decide) (dep_of hdep 50 (by kernel_rfl)) rfl
          have hG50 : IsG w' (PG.lineI (PG.lets s N) 0 k 0 PG.plain) v50 := hG50
          have e1 : a.eval (.tmp 171) = v50 := eval_slot (j := 50) (by kernel_rfl) hv50
          refine Step.call _ rfl rfl (wanted_some (g := 42) (b := true) rfl gd) 28 #[v46, v50] (fun ρ hρ => ?_) ?_
          · skip
            rw [hρ] at e0 e1
            have ef : ρ (.func 28) = .func (.func 28) #[] #[] := (hρ _).symm
            clear hJ hsame hdep hcl hρ hsz gd
            go_simp
          · refine (u_same (PG.right_eraseI HR.out.1 PG.plain_ok _ _ _) hG46 hG50 ALE.out).mono ?_
            rintro e w2 ⟨rfl, bb⟩
            exact ⟨_, rfl, hJ.val hRS hcl hL rfl bb _ rfl⟩
        · intro L a w' hL hsame hsz hJ hdep hcl
          have e0 : a.eval (.tmp 163) = (.bool true) := eval_slot (j := 42) (by kernel_rfl) (hJ.valOf (by decide) (dep_of hdep 42 (by kernel_rfl)) rfl rfl)
          have e1 : a.eval (.tmp 172) = (.bool true) := eval_slot (j := 51) (by kernel_rfl) (hJ.valOf (by decide) (dep_of hdep 51 (by kernel_rfl)) rfl rfl)
          refine Step.val _ rfl rfl (wanted_none rfl) (.bool true) w' (fun ρ hρ => ?_) (hJ.val hRS hcl hL rfl (Below.refl _ _) _ rfl)
          rw [hρ] at e0 e1
          have ec0 : ρ (.const (.bool false)) = (.bool false) := (hρ _).symm
          clear hJ hsame hdep hcl hρ hsz
          go_simp
        · intro L a w' hL hsame hsz hJ hdep hcl
          have e0 : a.eval (.tmp 173) = (.bool true) := eval_slot (j := 52) (by kernel_rfl) (hJ.valOf (by decide) (dep_of hdep 52 (by kernel_rfl)) rfl rfl)
          refine Step.val _ rfl rfl (wanted_none rfl) (.bool true) w' (fun ρ hρ => ?_) (hJ.val hRS hcl hL rfl (Below.refl _ _) _ rfl)
          rw [hρ] at e0
          clear hJ hsame hdep hcl hρ hsz
          go_simp
        · intro L a w' hL hsame hsz hJ hdep hcl
          have gd : valOf _ 53 a = .bool true := hJ.valOf (by decide) (dep_of hdep 53 (by kernel_rfl)) rfl rfl
          refine Step.call _ rfl rfl (wanted_some (g := 53) (b := true) rfl gd) 3 #[] (fun ρ hρ => ?_) ?_
          · skip
            have ef : ρ (.func 3) = .func (.func 3) #[] #[] := (hρ _).symm
            clear hJ hsame hdep hcl hρ hsz gd
            go_simp
          · refine (editRuns_any w' (SP.out.keptS hJ.kept (by simp))).mono ?_
            rintro e w2 ⟨rfl, bb⟩
            exact ⟨_, rfl, hJ.val hRS hcl hL rfl bb _ rfl⟩
        · intro L a w' hL hsame hsz hJ hdep hcl
          have e0 : a.eval (.tmp 174) = (.bool true) := eval_slot (j := 53) (by kernel_rfl) (hJ.valOf (by decide) (dep_of hdep 53 (by kernel_rfl)) rfl rfl)
          have e1 : a.eval (.tmp 175) = (.bool true) := eval_slot (j := 54) (by kernel_rfl) (hJ.valOf (by decide) (dep_of hdep 54 (by kernel_rfl)) rfl rfl)
          refine Step.val _ rfl rfl (wanted_none rfl) (.bool true) w' (fun ρ hρ => ?_) (hJ.val hRS hcl hL rfl (Below.refl _ _) _ rfl)
          rw [hρ] at e0 e1
          have ec0 : ρ (.const (.bool false)) = (.bool false) := (hρ _).symm
          clear hJ hsame hdep hcl hρ hsz
          go_simp
        · intro L a w' hL hsame hsz hJ hdep hcl
          have e0 : a.eval (.tmp 176) = (.bool true) := eval_slot (j := 55) (by kernel_rfl) (hJ.valOf (by decide) (dep_of hdep 55 (by kernel_rfl)) rfl rfl)
          refine Step.val _ rfl rfl (wanted_none rfl) (.bool true) w' (fun ρ hρ => ?_) (hJ.val hRS hcl hL rfl (Below.refl _ _) _ rfl)
          rw [hρ] at e0
          clear hJ hsame hdep hcl hρ hsz
          go_simp
        · intro L a w' hsame hsz hJ hall
          obtain ⟨u, hu, ha⟩ := act_puts hsame
          have h : (u 56 = .bool true) ∧ Below wc.heap.size wc w' := by
            (try simp only [hu])
            exact (And.intro (hJ.valOf (j := 56) (by decide) (hall 56 (by decide)) rfl rfl) (hJ.kept.toBelow (Nat.le_refl _) (by simp)))
          have h := hide h
          clear hJ hall hsz hu hsame
          subst ha
          change Exit.then _ _ Exit.normal (Act.put (Act.put (Act.put (Act.put (Act.put (Act.put (Act.put (Act.put (Act.put (Act.put (Act.put (Act.put (Act.put (Act.put (Act.put (Act.put (Act.put (Act.put (Act.put (Act.put (Act.put (Act.put (Act.put (Act.put (Act.put (Act.put (Act.put (Act.put (Act.put (Act.put (Act.put (Act.put (Act.put (Act.put (Act.put (Act.put (Act.put (Act.put (Act.put (Act.put (Act.put (Act.put (Act.put (Act.put (Act.put (Act.put (Act.put (Act.put (Act.put (Act.put (Act.put (Act.put (Act.put (Act.put (Act.put (Act.put (Act.put (putAll _ u 0 _) (some 121) (u 0)) (some 122) (u 1)) (some 123) (u 2)) (some 124) (u 3)) (some 125) (u 4)) (some 126) (u 5)) (some 127) (u 6)) (some 128) (u 7)) (some 129) (u 8)) (some 130) (u 9)) (some 131) (u 10)) (some 132) (u 11)) (some 133) (u 12)) (some 134) (u 13)) (some 135) (u 14)) (some 136) (u 15)) (some 137) (u 16)) (some 138) (u 17)) (some 139) (u 18)) (some 140) (u 19)) (some 141) (u 20)) (some 142) (u 21)) (some 143) (u 22)) (some 144) (u 23)) (some 145) (u 24)) (some 146) (u 25)) (some 147) (u 26)) (some 148) (u 27)) (some 149) (u 28)) (some 150) (u 29)) (some 151) (u 30)) (some 152) (u 31)) (some 153) (u 32)) (some 154) (u 33)) (some 155) (u 34)) (some 156) (u 35)) (some 157) (u 36)) (some 158) (u 37)) (some 159) (u 38)) (some 160) (u 39)) (some 161) (u 40)) (some 162) (u 41)) (some 163) (u 42)) (some 164) (u 43)) (some 165) (u 44)) (some 166) (u 45)) (some 167) (u 46)) (some 168) (u 47)) (some 169) (u 48)) (some 170) (u 49)) (some 171) (u 50)) (some 172) (u 51)) (some 173) (u 52)) (some 174) (u 53)) (some 175) (u 54)) (some 176) (u 55)) (some 6) (u 56)) _
          simp only [putAll]
          generalize u 0 = v0
          generalize u 1 = v1
          generalize u 2 = v2
          generalize u 3 = v3
          generalize u 4 = v4
          generalize u 5 = v5
          generalize u 6 = v6
          generalize u 7 = v7
          generalize u 8 = v8
          generalize u 9 = v9
          generalize u 10 = v10
          generalize u 11 = v11
          generalize u 12 = v12
          generalize u 13 = v13
          generalize u 14 = v14
          generalize u 15 = v15
          generalize u 16 = v16
          generalize u 17 = v17
          generalize u 18 = v18
          generalize u 19 = v19
          generalize u 20 = v20
          generalize u 21 = v21
          generalize u 22 = v22
          generalize u 23 = v23
          generalize u 24 = v24
          generalize u 25 = v25
          generalize u 26 = v26
          generalize u 27 = v27
          generalize u 28 = v28
          generalize u 29 = v29
          generalize u 30 = v30
          generalize u 31 = v31
          generalize u 32 = v32
          generalize u 33 = v33
          generalize u 34 = v34
          generalize u 35 = v35
          generalize u 36 = v36
          generalize u 37 = v37
          generalize u 38 = v38
          generalize u 39 = v39
          generalize u 40 = v40
          generalize u 41 = v41
          generalize u 42 = v42
          generalize u 43 = v43
          generalize u 44 = v44
          generalize u 45 = v45
          generalize u 46 = v46
          generalize u 47 = v47
          generalize u 48 = v48
          generalize u 49 = v49
          generalize u 50 = v50
          generalize u 51 = v51
          generalize u 52 = v52
          generalize u 53 = v53
          generalize u 54 = v54
          generalize u 55 = v55
          generalize u 56 = v56 at h ⊢
          go_simp
          go_step
          go_meet
          exact h.out
  case rest =>
  obtain ⟨rfl, bc⟩ := hcut
  have BB := hide (BB.out.trans (bc.mono BB.out.size))
  go_wp2_with fail
  go_ret
  exact ⟨rfl, BB.out⟩
theorem editRows_any (A1 : Option Addr) (n1 c1 : Nat) (l1 : List Int) (c m : Int) (w : World) (hb : Arg .u8 w A1 n1 c1 l1) (hc : (Lit.int .i64 c).wf = true) (hm : (Lit.int .i64 m).wf = true) (hs : Spans w) :
    Calls Tryd.prog 6 #[.slice A1 n1 c1, .int .i64 c, .int .i64 m] w fun e w' => e = .returned (.bool true) ∧ Below w.heap.size w w' :=
  editRows_core A1 n1 c1 l1 c m w hb (bounds_i64 hc) (bounds_i64 hm) hs
end Go.Proofs.YtcbmjdacdjcggaaDoor
