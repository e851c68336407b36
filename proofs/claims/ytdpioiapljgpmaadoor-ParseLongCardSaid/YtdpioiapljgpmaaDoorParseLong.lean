/- ParseLong: parameters more than there may be, numbers greater, texts longer: cut, or dropped. -/
import Derived.Test.YtdpioiapljgpmaaDoorParseStrings
import Derived.ArgAppend
namespace Go.Proofs.YtdpioiapljgpmaaDoor
open Go.RowKit
set_option linter.unusedVariables false
/-- the string of k parameters of nines -/
def NinesOf (w : World) (k : Nat) (s : Value) (wx : World) : Prop := s = .string (strOfNums (PA.nines k)) ∧ w = wx
/-- the bytes of an OSC of j letters -/
def OscOf (w6 : World) (j : Nat) (b : Value) (wx : World) : Prop := wx.ownsRow w6.heap.size 5 1 b (2 + j) (u8s (27 :: 93 :: List.replicate j 120)) ∧ Below w6.heap.size w6 wx
/-- and so far -/
def OscSo (w6 w7 : World) (j : Nat) (b i : Value) (wr : World) : Prop :=
  ∃ q : Nat, q ≤ j ∧ i = .int .i64 q ∧ ((q = 0 ∧ b = .slice (some ⟨w6.heap.size, 0, none⟩) 2 2 ∧ w7 = wr) ∨ (0 < q ∧ wr.ownsRow w6.heap.size 5 1 b (2 + q) (u8s (27 :: 93 :: List.replicate q 120)) ∧ Below w6.heap.size w6 wr))
set_option maxHeartbeats 16000000 in
set_option maxRecDepth 100000 in
theorem parseLong_any (n m : Int) (w : World) (hn : (Lit.int .i64 n).wf = true) (hm : (Lit.int .i64 m).wf = true) (ht : Tabs w) :
    Calls Tryd.prog 6 #[.int .i64 n, .int .i64 m] w fun e w' => e = .returned (.bool true) ∧ Below w.heap.size w w' := by
  obtain ⟨i0, hi, hz0, hz1, hz2⟩ := info_parts info_ev
  obtain ⟨i1, hj, hy0, hy1, hy2⟩ := info_parts info_u8
  have h2 := ht.lt
  have hnb := bounds_i64 hn
  have hmb := bounds_i64 hm
  have HT := hide ht
  clear hn hm ht
  obtain ⟨k, hk, hk1, hk30⟩ : ∃ k : Nat, 1 + n % (30 - 1 + 1) = (k : Int) ∧ 1 ≤ k ∧ k ≤ 30 := ⟨(1 + n % (30 - 1 + 1)).toNat, by omega, by omega, by omega⟩
  obtain ⟨t, htt, ht6⟩ : ∃ t : Nat, 0 + m % (6 - 0 + 1) = (t : Int) ∧ t ≤ 6 := ⟨(m % (6 - 0 + 1)).toNat, by omega, by omega⟩
  have WK := hide (fun w' => within_is n 1 30 (k : Int) hk w' hnb.1 hnb.2 (by omega) (by omega) (by omega))
  have WT := hide (fun w' => within_is m 0 6 (t : Int) htt w' hmb.1 hmb.2 (by omega) (by omega) (by omega))
  clear hk htt hnb hmb
  go_enter Tryd.func6, Tryd.ntmps6
  go_wp2_with fail
  refine (new_any _).mono ?_
  rintro e w1 ⟨rfl, rfl⟩
  have hP := new_pb w w.heap.size (Nat.le_refl _)
  have bel : Below w.heap.size w (w.alloc (.cells (pcells PA.s0 (.slice none 0 0) (.slice none 0 0)) 44)) := (Below.refl _ _).alloc (Nat.le_refl _) _
  generalize w.alloc (.cells (pcells PA.s0 (.slice none 0 0) (.slice none 0 0)) 44) = w1 at hP bel ⊢
  have HP := hide hP
  have HBL := hide bel
  clear hP bel
  go_wp2_with fail
  refine (WK.out _).mono ?_
  rintro e w2 ⟨rfl, rfl⟩
  go_upto_block 0 with fail
  go_cut [7] (fun s wx => NinesOf w1 k s wx)
  case first =>
    go_wp2_with fail
    go_loopw [7, 21] (fun s i wr => ∃ q : Nat, q ≤ k ∧ i = .int .i64 q ∧ s = .string (strOfNums (PA.nines q)) ∧ w1 = wr) (fun _ i _ => k - (intOf i).toNat)
    case atStart => exact ⟨0, Nat.zero_le _, rfl, rfl, rfl⟩
    case round =>
      obtain ⟨q, hq, rfl, rfl, rfl⟩ := hrel
      by_cases hlt : q < k
      · obtain ⟨z, hz, hzb⟩ : ∃ z : Nat, (strOfNums (PA.nines q)).size = z ∧ z ≤ 700 := ⟨_, rfl, by rw [strOfNums_size]; have := PA.nines_len q; omega⟩
        by_cases hq0 : q = 0
        · subst hq0
          have E := hide (show (strOfNums (PA.nines 0) ++ ⟨#[57, 57, 57, 57, 57, 57, 57, 57, 57, 57, 57, 57, 57, 57, 57, 57, 57, 57, 57, 57]⟩ : ByteArray) = strOfNums (PA.nines 1) by
            rw [show (⟨#[57, 57, 57, 57, 57, 57, 57, 57, 57, 57, 57, 57, 57, 57, 57, 57, 57, 57, 57, 57]⟩ : ByteArray) = strOfNums PA.nine from rfl, str_app]
            rfl)
          generalize strOfNums (PA.nines 0) = S at hz E
          go_wp2_with fail
          go_roundw
          case rel => exact ⟨1, by omega, by go_num, by rw [E.out], by first | rfl | trivial⟩
          case measure => simp [intOf]; omega
        · have hq0' : (0 : Int) < (q : Int) := by omega
          have E := hide (show (strOfNums (PA.nines q) ++ ⟨#[59]⟩ ++ ⟨#[57, 57, 57, 57, 57, 57, 57, 57, 57, 57, 57, 57, 57, 57, 57, 57, 57, 57, 57, 57]⟩ : ByteArray) = strOfNums (PA.nines (q + 1)) by
            rw [show (⟨#[57, 57, 57, 57, 57, 57, 57, 57, 57, 57, 57, 57, 57, 57, 57, 57, 57, 57, 57, 57]⟩ : ByteArray) = strOfNums PA.nine from rfl, show (⟨#[59]⟩ : ByteArray) = strOfNums [59] from rfl, str_app, str_app]
            show strOfNums _ = strOfNums (PA.nines q ++ ((if q = 0 then [] else [59]) ++ PA.nine))
            rw [if_neg hq0, List.append_assoc])
          generalize strOfNums (PA.nines q) = S at hz E
          clear hq0
          go_wp2_with fail
          go_roundw
          case rel => exact ⟨q + 1, by omega, by go_num, by rw [E.out], by first | rfl | trivial⟩
          case measure => simp [intOf]; omega
      · obtain rfl : q = k := by omega
        go_wp2_with fail
        go_meet
        exact ⟨rfl, rfl⟩
  case rest =>
    obtain ⟨rfl, rfl⟩ := hcut
    obtain ⟨z, hz, hzb⟩ : ∃ z : Nat, (strOfNums (PA.nines k)).size = z ∧ z ≤ 700 := ⟨_, rfl, by rw [strOfNums_size]; have := PA.nines_len k; omega⟩
    have hzl : (PA.nines k).length = z := by rw [← strOfNums_size]; exact hz
    have cs := conv_str
    go_wp2_with fail
    have hX : (strOfNums (PA.nines k) ++ ⟨#[109]⟩ : ByteArray) = strOfNums (PA.nines k ++ [109]) := by
      rw [show (⟨#[109]⟩ : ByteArray) = strOfNums [109] from rfl, str_app]
    have hL1 : ∀ x ∈ PA.nines k ++ [109], 0 ≤ x ∧ x < 256 := fun x hx => by
      rcases List.mem_append.1 hx with hx | hx
      · exact PA.nines_u8 k x hx
      · simp only [List.mem_singleton] at hx
        omega
    have hl1 : (PA.nines k ++ [109]).length = z + 1 := by simp [hzl]
    have b5 := strWorld_below w1 (strOfNums (PA.nines k) ++ ⟨#[109]⟩)
    have s5 := strWorld_seen (w := w1) hX hL1 hl1
    generalize strWorld w1 (strOfNums (PA.nines k) ++ ⟨#[109]⟩) = w5 at b5 s5 ⊢
    generalize strCap w1 (strOfNums (PA.nines k) ++ ⟨#[109]⟩) = cp5
    have hP5 := HP.out.below b5
    have hb5 := HBL.out.trans (b5.mono HBL.out.size)
    have hgp := HP.out.lt
    have hfc := PA.feed_csi k hk1
    have FE := hide (feed_any w.heap.size w.heap.size PA.s0 _ _ (some ⟨w1.heap.size, 0, none⟩) (z + 1) cp5 (PA.nines k ++ [109]) w5 hP5 PA.s0_ok (by simp [PA.s0, PA.d0]) s5 hL1 (by omega) (fun _ ad had => by
      injection had with had
      subst had
      simp only [Value.ownBlock, List.mem_cons, List.not_mem_nil, or_false, Option.some.injEq, reduceCtorEq]
      omega) h2 (HT.out.keep hb5))
    have HP5 := hide hP5
    have HB5 := hide hb5
    have HFC := hide hfc
    clear hP5 hb5 b5 s5 hX hL1 hl1 hgp hfc hzl hz HP HBL WK
    refine FE.out.mono ?_
    intro e w6 hF
    rw [HFC.out] at hF
    obtain ⟨va, vpp, vtp, Ma, rfl, hMa, hP, hEa, hOa, hK, hVa, fp, ft, hHa⟩ := hF.out
    obtain ⟨rfl, rfl⟩ := hP.nils
    have b6 := below_of_kept hK HP5.out (Nat.le_refl _) HB5.out
    obtain ⟨x, rfl⟩ := one_of hMa
    obtain ⟨Aa, ca, rfl, _⟩ := own_form' hEa.1
    have HP6 := hide hP
    have HEA := hide hEa
    have HB6 := hide b6
    clear hF hMa hP hEa hOa hK hVa fp ft hHa b6 HP5 HB5 FE HFC
    go_wp2_with fail
    refine (WT.out _).mono ?_
    rintro e w7 ⟨rfl, rfl⟩
    have cc := conv_const
    clear cs
    go_upto_region 16 with fail
    have b7 : Below w6.heap.size w6 (w6.alloc (.cells #[.int .u8 27, .int .u8 93] 5 (2, 3))) := (Below.refl _ _).alloc (Nat.le_refl _) _
    have s7 : Seen (w6.alloc (.cells #[.int .u8 27, .int .u8 93] 5 (2, 3))) (w6.heap.size + 1) (some ⟨w6.heap.size, 0, none⟩) 2 (u8s [27, 93]) := seen_marked rfl (Nat.lt_succ_self _) rfl (fun j u hu => by simpa [u8s] using hu)
    have z7 : (w6.alloc (.cells #[.int .u8 27, .int .u8 93] 5 (2, 3))).heap.size = w6.heap.size + 1 := by simp
    generalize w6.alloc (.cells #[.int .u8 27, .int .u8 93] 5 (2, 3)) = w7 at b7 s7 z7 ⊢
    have S7 := hide s7
    have B7 := hide b7
    have hz7 : w6.heap.size + 1 ≤ w7.heap.size := by omega
    clear s7 b7 cc z7
    go_upto_block 2 with fail
    go_cut [11] (fun b wx => OscOf w6 (4093 + t) b wx)
    case first =>
      go_wp2_with fail
      go_loopw [11, 42] (fun b i wr => OscSo w6 w7 (4093 + t) b i wr) (fun _ i _ => (4093 + t) - (intOf i).toNat)
      case atStart => exact ⟨0, Nat.zero_le _, rfl, .inl ⟨rfl, rfl, rfl⟩⟩
      case round =>
        obtain ⟨q, hq, rfl, hc⟩ := hrel
        have hqt : (q : Int) ≤ 4093 + (t : Int) := by omega
        by_cases hlt : q < 4093 + t
        · have hlt' : (q : Int) < 4093 + (t : Int) := by omega
          rcases hc with ⟨rfl, rfl, rfl⟩ | ⟨hpos, hown, hbel⟩
          · have hcell : ∀ (j : Nat) (u : Value), (u8s [27, 93])[j]? = some u → (w7.alloc (.cells #[.int .u8 120] 5)).cell? ((⟨w6.heap.size, 0, none⟩ : Addr).add j) = some u := fun j u hu => by
              obtain ⟨ad, h1, h2, h3⟩ := (S7.out.alloc (by omega) (.cells #[.int .u8 120] 5)).2 j u hu
              injection h1 with h1
              subst h1
              exact h3
            have HCC := hide hcell
            clear hcell
            go_wp2_with (at_builtin; refine wpList_append_grows _ rfl (.tmp 44) (.tmp 45) 26 rfl 5 i1 _ 1 1 Tryd.underlying26 hj hy0 hy1 hy2 rfl (by omega) (some ⟨w6.heap.size, 0, none⟩) 2 2 (u8s [27, 93]) rfl (fun h => by cases h) rfl (fun b hb j u hu => by injection hb with hb; subst hb; exact HCC.out j u hu) ⟨w7.heap.size, 0, none⟩ 1 1 [.int .u8 120] rfl rfl (cell_one_new _ _ _) (by intro u hu; simp at hu; subst hu; rfl) (by omega) (by simp [maxLen]) (by omega) ?_; intro v8 w8 own8 hg8)
            have F := hide (show OscSo w6 w7 (4093 + t) v8 (.int .i64 1) w8 from ⟨1, by omega, rfl, .inr ⟨by omega, own_base' own8 (by simp; omega), (B7.out.alloc (by omega) _).grown hg8 (by simp; omega) (fun k hk => by cases hk)⟩⟩)
            clear own8 hg8
            go_roundw
            case rel => exact F.out
            case measure => (simp [intOf] <;> omega)
          · have HO := hide hown
            have HB8 := hide hbel
            have hs8 := hbel.size
            clear hown hbel
            go_wp2_with (at_builtin; refine wpList_app1 rfl (.tmp 44) (.tmp 45) 26 rfl w6.heap.size 5 i1 _ 1 Tryd.underlying26 hj hy0 hy1 hy2 rfl u11 (2 + q) _ rfl HO.out _ _ _ rfl rfl rfl (by omega) (by omega) hs8 ?_; intro v8 w8 own8 hg8 hm8)
            have F := hide (show OscSo w6 w7 (4093 + t) v8 (.int .i64 ((q + 1 : Nat) : Int)) w8 from ⟨q + 1, by omega, rfl, .inr ⟨by omega, by
              have := own8
              rw [show 2 + q + 1 = 2 + (q + 1) by omega] at this
              rw [List.replicate_succ']
              simpa [u8s] using this, HB8.out.grown hg8 hs8 (fun k hk => (HO.out.lt k hk).1)⟩⟩)
            clear own8 hg8 hm8
            go_roundw
            case rel => exact F.out
            case measure => (simp [intOf] <;> omega)
        · obtain rfl : q = 4093 + t := by omega
          rcases hc with ⟨h0, _⟩ | ⟨hpos, hown, hbel⟩
          · omega
          · have F := hide (show OscOf w6 (4093 + t) u11 wr from ⟨hown, hbel⟩)
            clear hown hbel hlt
            go_wp2_with fail
            go_meet
            exact F.out
    case rest =>
      obtain ⟨hown, hbel⟩ := hcut
      have HO := hide hown
      have HBc := hide hbel
      have hsc := hbel.size
      clear hown hbel S7 B7 hz7
      have hs6 := HB6.out.size
      go_wp2_with (at_builtin; refine wpList_app1 rfl (.tmp 49) (.tmp 50) 26 rfl w6.heap.size 5 i1 _ 1 Tryd.underlying26 hj hy0 hy1 hy2 rfl u11 (2 + (4093 + t)) _ rfl HO.out _ _ _ rfl rfl rfl (by omega) (by omega) hsc ?_; intro v8 w8 own8 hg8 hm8; (obtain ⟨A8, c8, rfl, _⟩ := own_form own8))
      have own8' : w8.ownsRow w6.heap.size 5 1 (.slice A8 (2 + (4093 + t) + 1) c8) (2 + (4093 + t) + 1) (u8s (27 :: 93 :: List.replicate (4093 + t) 120 ++ [7])) := by simpa [u8s] using own8
      have b8 : Below w6.heap.size w6 w8 := HBc.out.grown hg8 hsc (fun k hk => (HO.out.lt k hk).1)
      have hL : ∀ x ∈ 27 :: 93 :: List.replicate (4093 + t) (120 : Int) ++ [7], 0 ≤ x ∧ x < 256 := fun x hx => by
        simp only [List.mem_append, List.mem_cons, List.not_mem_nil, or_false] at hx
        rcases hx with (rfl | rfl | hx) | rfl
        · omega
        · omega
        · have := List.eq_of_mem_replicate hx; omega
        · omega
      have hP8 := HP6.out.below b8
      have hEa8 := HEA.out.below b8
      have hb8 := HB6.out.trans (b8.mono hs6)
      have hgp := HP6.out.lt
      have hlo := PA.long_osc (4093 + t)
      have FE := hide (feed_any w.heap.size w.heap.size PA.s0 _ _ A8 (2 + (4093 + t) + 1) c8 (27 :: 93 :: List.replicate (4093 + t) 120 ++ [7]) w8 hP8 PA.s0_ok (by simp [PA.s0, PA.d0]) (Seen.of_own own8') hL (by omega) (fun _ ad had => by
        have h1 := (own8'.lt ad.block (by rw [had]; rfl)).1
        simp only [Value.ownBlock, List.mem_cons, List.not_mem_nil, or_false, Option.some.injEq, reduceCtorEq]
        omega) h2 (HT.out.keep hb8))
      have HP8 := hide hP8
      have HEA8 := hide hEa8
      have HB8 := hide hb8
      have HLO := hide hlo
      clear own8 own8' b8 hL hP8 hEa8 hb8 hgp hlo HP6 HEA HB6 HO HBc hg8 hm8
      refine FE.out.mono ?_
      intro e w9 hF
      rw [HLO.out] at hF
      obtain ⟨vo, vpp, vtp, Mo, rfl, hMo, hP, hEo, hOo, hK, hVo, fp, ft, hHo⟩ := hF.out
      obtain ⟨rfl, rfl⟩ := hP.nils
      have b9 := below_of_kept hK HP8.out (Nat.le_refl _) HB8.out
      have hEa := HEA8.out.kept HP8.out hK (fun p hp q hq => by simp [Value.ownBlock])
      have hml : (PA.many k).length = min k 16 := by simp [PA.many]
      have hSa := seenE_of hEa.1 hEa.2 (fun p hp => by simp only [List.mem_singleton] at hp; subst hp; simp only []; omega)
      obtain ⟨gb, rfl, _, d0, Ap, cp, hx, hps, _⟩ := hSa.2 0 _ rfl
      simp only [] at hx hps
      subst hx
      have d5 := d0 5 _ rfl
      simp only [Nat.zero_mul, Nat.zero_add] at d5
      obtain ⟨pl, hpl⟩ : ∃ pl, (PA.many k).length = pl := ⟨_, rfl⟩
      have HPS := hide hps
      rw [hpl] at d5 HPS
      have hpk : pl = min k 16 := by omega
      have HPL := hide hpl
      have HPf := hide hP
      have HEO := hide hEo
      have HBf := hide b9
      have HMO := hide hMo
      clear hF hP hEo hOo hK hVo fp ft hHo b9 hEa hml hSa d0 hps hpl HP8 HEA8 HB8 FE HLO hMo
      go_upto_region 21 with fail
      go_cut [65] (fun u wx => u = .bool false ∧ w9 = wx)
      case first =>
        by_cases h16 : k ≤ 16
        · obtain rfl : pl = k := by omega
          clear hpk
          go_wp2_with fail
          go_meet
          exact ⟨rfl, rfl⟩
        · obtain rfl : pl = 16 := by omega
          have h16' : 16 < k := by omega
          clear hpk
          go_wp2_with fail
          go_meet
          exact ⟨rfl, rfl⟩
      case rest =>
        obtain ⟨rfl, rfl⟩ := hcut
        have hpb : pl ≤ 16 := by omega
        have hall : ∀ (j : Nat) (y : Int), (PA.many k)[j]? = some y → y = 65535 := fun j y hy => by unfold PA.many at hy; exact List.eq_of_mem_replicate (List.mem_of_getElem? hy)
        have HAL := hide hall
        clear hall hpk
        go_wp2_with fail
        go_loopw [71] (fun i wr => ∃ q : Nat, q ≤ pl ∧ i = .int .i64 q ∧ w9 = wr) (fun i _ => pl - (intOf i).toNat)
        case atStart => exact ⟨0, Nat.zero_le _, rfl, rfl⟩
        case round =>
          obtain ⟨q, hq, rfl, rfl⟩ := hrel
          by_cases hlt : q < pl
          · obtain ⟨ad, u, rfl, hadb, hu, hc⟩ := HPS.out.at_ hlt
            rw [i64s, List.getElem?_map] at hu
            obtain ⟨y, hy, rfl⟩ := Option.map_eq_some_iff.1 hu
            obtain rfl := HAL.out _ _ hy
            clear hu hy
            go_wp2_with fail
            go_roundw
            case rel => exact ⟨q + 1, by omega, by go_num, by first | rfl | trivial⟩
            case measure => (simp [intOf] <;> omega)
          · obtain rfl : q = pl := by omega
            clear hlt hq d5
            by_cases h4 : 4093 + t ≤ 4096
            · have hMo := HMO.out
              rw [if_pos h4] at hMo
              obtain ⟨x, rfl⟩ := one_of hMo
              obtain ⟨Ao, co, rfl, _⟩ := own_form' HEO.out.1
              have hSo := seenE_of HEO.out.1 HEO.out.2 (fun p hp => by simp only [List.mem_singleton] at hp; subst hp; simp)
              obtain ⟨gc, rfl, _, c0, _⟩ := hSo.2 0 _ rfl
              have c6 := c0 6 _ rfl
              simp only [Nat.zero_mul, Nat.zero_add] at c6
              have z6 : (strOfNums (List.replicate (4093 + t) 120)).size = 4093 + t := by rw [strOfNums_size, List.length_replicate]
              have h4' : (4093 : Int) + (t : Int) ≤ 4096 := by omega
              generalize strOfNums (List.replicate (4093 + t) 120) = S at c6 z6
              clear hMo hSo c0 HEO HMO
              go_wp2_with fail
              refine (ground_any _ _ _ _ _ _ HPf.out).mono ?_
              rintro e w10 ⟨rfl, b10⟩
              rw [show PA.ground PA.s0 = true from rfl]
              have HB10 := hide (HBf.out.trans (b10.mono HBf.out.size))
              clear b10
              go_wp2_with fail
              refine (parseRuns_any _ (HT.out.keep HB10.out)).mono ?_
              rintro e w11 ⟨rfl, b11⟩
              have HB11 := hide (HB10.out.trans (b11.mono HB10.out.size))
              clear b11
              go_wp2_with fail
              go_ret
              exact ⟨rfl, HB11.out⟩
            · have hMo := HMO.out
              rw [if_neg h4] at hMo
              have hMn : Mo = [] := by simpa using hMo
              subst hMn
              obtain ⟨Ao, co, rfl, _⟩ := own_form' HEO.out.1
              have h4' : (4096 : Int) < (4093 : Int) + (t : Int) := by omega
              clear hMo HEO HMO
              go_wp2_with fail
              refine (ground_any _ _ _ _ _ _ HPf.out).mono ?_
              rintro e w10 ⟨rfl, b10⟩
              rw [show PA.ground PA.s0 = true from rfl]
              have HB10 := hide (HBf.out.trans (b10.mono HBf.out.size))
              clear b10
              go_wp2_with fail
              refine (parseRuns_any _ (HT.out.keep HB10.out)).mono ?_
              rintro e w11 ⟨rfl, b11⟩
              have HB11 := hide (HB10.out.trans (b11.mono HB10.out.size))
              clear b11
              go_wp2_with fail
              go_ret
              exact ⟨c_bool (by simp; omega), HB11.out⟩
end Go.Proofs.YtdpioiapljgpmaaDoor
