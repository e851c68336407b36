/- ParseStrings: strings end by BEL or ESC \; an OSC's text is told, others' aren't; what stands behind is text again. -/
import Derived.Test.YtdpioiapljgpmaaDoorParseCuts
import Derived.Test.YtdpioiapljgpmaaDoorParseStr
import Derived.Deep.CutBlock
namespace Go.Proofs.YtdpioiapljgpmaaDoor
open Go.RowKit
set_option linter.unusedVariables false
theorem str_app (l m : List Int) : strOfNums l ++ strOfNums m = strOfNums (l ++ m) := by
  apply ByteArray.ext
  simp [strOfNums, ByteArray.data_append]
theorem conv_seen {w : World} {B n c : Nat} {A : Option Addr} {l : List Int} (h : Seen w B A n (u8s l)) : (convert 26 9 (.slice A n c)).run Tryd.prog w = .ok (.string (strOfNums l)) w := by
  have hl : l.length = n := by simpa [u8s] using h.1
  rcases A with _ | ad
  · have : l = [] := by
      rcases l with _ | ⟨x, l⟩
      · rfl
      · obtain ⟨ad, h0, _⟩ := h.2 0 _ rfl
        cases h0
    subst this
    exact run_convert_bytes_nil w _ _ Tryd.underlying26 Tryd.underlying5 _ _ _ Tryd.underlying9
  · have hh : (loadCells ad n).run Tryd.prog w = .ok ((l.map (Value.int .u8)).toArray) w := by
      have := run_loadCells_list (P := Tryd.prog) w ad (l.map (Value.int .u8)) (fun j v hj => by
        obtain ⟨ad', h1, _, h3⟩ := h.2 j v hj
        injection h1 with h1
        subst h1
        exact h3)
      simpa [hl] using this
    rw [run_convert_bytes_string w _ _ _ _ n c Tryd.underlying26 Tryd.underlying5 Tryd.underlying9, run_bytesToString w _ n c l hh, foldl_push_bytes]
    simp [strOfNums, ByteArray.empty, ByteArray.emptyWithCapacity]
    rfl
/-- what '[]byte(s)' makes of a world -/
def strCap (w : World) (s : ByteArray) : Nat := grownCap w s.size 0 5
def strWorld (w : World) (s : ByteArray) : World := w.drew.alloc (.cells (bytesRow s (strCap w s)) 5 ((bytesRow s (strCap w s)).size, (bytesRow s (strCap w s)).size + 1))
theorem conv_str (w : World) (s : ByteArray) : (convert 9 26 (.string s)).run Tryd.prog w = .ok (.slice (some ⟨w.heap.size, 0, none⟩) s.size (strCap w s)) (strWorld w s) := conv_string w s
theorem strWorld_below (w : World) (s : ByteArray) : Below w.heap.size w (strWorld w s) := (Below.refl _ _).drew.alloc (Nat.le_refl _) _
theorem strWorld_size (w : World) (s : ByteArray) : (strWorld w s).heap.size = w.heap.size + 1 := by simp [strWorld]
theorem strWorld_seen {w : World} {s : ByteArray} {l : List Int} {n : Nat} (hs : s = strOfNums l) (hl : ∀ x ∈ l, 0 ≤ x ∧ x < 256) (hn : l.length = n) : Seen (strWorld w s) (strWorld w s).heap.size (some ⟨w.heap.size, 0, none⟩) n (u8s l) := by
  subst hs
  exact seen_string hl rfl (by rw [strWorld_size]; exact Nat.lt_succ_self _) hn
def kindOk (c : Int) : Prop := c = 93 ∨ c = 80 ∨ c = 88 ∨ c = 94 ∨ c = 95
/-- the kind of string -/
def Kind (w : World) (u : Value) (wx : World) : Prop := ∃ c, u = .int .u8 c ∧ kindOk c ∧ w = wx
def chs (x : Int) : Int := 32 + x % 224
/-- the call's own text -/
def OwnText (w : World) (l : List Int) (t : Value) (wr : World) : Prop := ∃ k : Nat, k ≤ 30 ∧ wr.ownsRow w.heap.size 5 1 t k (u8s ((l.take k).map chs)) ∧ k ≤ l.length ∧ Below w.heap.size w wr
theorem one_of {α β : Type} {M : List (α × β)} {a : α} (h : M.map (·.1) = [a]) : ∃ x, M = [(a, x)] := by
  rcases M with _ | ⟨⟨p, x⟩, _ | ⟨t, M⟩⟩ <;> simp at h
  subst h
  exact ⟨x, rfl⟩
/-- what is to come, but the letter -/
def Wanted (w w6 : World) (ch : Int) (l : List Int) (o : Value) (wx : World) : Prop :=
  ∃ M, M.map (·.1) = (if ch = 93 then [⟨5, 0, 0, 0, 0, [], l⟩] else [] : List PA.Ev) ∧ Evs wx w.heap.size o M ∧ Below w6.heap.size w6 wx ∧ High w6.heap.size o
set_option maxHeartbeats 16000000 in
set_option maxRecDepth 100000 in
theorem parseStrings_any (kind : Int) (A1 : Option Addr) (n1 c1 : Nat) (l1 : List Int) (bel : Bool) (w : World) (hkd : (Lit.int .i64 kind).wf = true) (hb : Arg .u8 w A1 n1 c1 l1) (ht : Tabs w) :
    Calls Tryd.prog 7 #[.int .i64 kind, .slice A1 n1 c1, .bool bel] w fun e w' => e = .returned (.bool true) ∧ Below w.heap.size w w' := by
  obtain ⟨i0, hi, hz0, hz1, hz2⟩ := info_parts info_ev
  obtain ⟨i1, hj, hy0, hy1, hy2⟩ := info_parts info_u8
  have h2 := ht.lt
  have hcb := bounds_i64 hkd
  have HB := hide hb
  have HT := hide ht
  have hcap := hb.cap
  have hle := hb.le
  unfold maxLen at hcap
  clear hb ht hkd
  go_enter Tryd.func7, Tryd.ntmps7
  go_upto_region 1 with fail
  go_cut [7] (fun u wx => Kind w u wx)
  case first =>
    obtain ⟨t, ht1, ht2⟩ : ∃ t : Int, 0 + kind % (4 - 0 + 1) = t ∧ (t = 0 ∨ t = 1 ∨ t = 2 ∨ t = 3 ∨ t = 4) := ⟨_, rfl, by omega⟩
    have WI := hide (fun w' => within_is kind 0 4 t ht1 w' hcb.1 hcb.2 (by omega) (by omega) (by omega))
    clear ht1
    rcases ht2 with rfl | rfl | rfl | rfl | rfl
    all_goals
      go_wp2_with fail
      refine (WI.out _).mono ?_
      rintro e w1 ⟨rfl, rfl⟩
      go_wp2_with fail
      go_meet
      first | exact ⟨93, rfl, .inl rfl, rfl⟩ | exact ⟨80, rfl, .inr (.inl rfl), rfl⟩ | exact ⟨88, rfl, .inr (.inr (.inl rfl)), rfl⟩ | exact ⟨94, rfl, .inr (.inr (.inr (.inl rfl))), rfl⟩ | exact ⟨95, rfl, .inr (.inr (.inr (.inr rfl))), rfl⟩
  case rest =>
    obtain ⟨ch, rfl, hch, rfl⟩ := hcut
    have HCH := hide hch
    have hchr : 80 ≤ ch ∧ ch ≤ 95 := by unfold kindOk at hch; omega
    clear hch
    go_upto_block 0 with fail
    go_cut [8] (fun t wx => OwnText w l1 t wx)
    case first =>
      go_wp2_with fail
      go_loopw [8, 9] (fun t i wr => ∃ k : Nat, k ≤ n1 ∧ k ≤ 30 ∧ i = .int .i64 k ∧ wr.ownsRow w.heap.size 5 1 t k (u8s ((l1.take k).map chs)) ∧ Below w.heap.size w wr) (fun _ i _ => 30 - (intOf i).toNat)
      case atStart => exact ⟨0, by omega, by omega, rfl, World.ownsRow_nil _ _ _ _, Below.refl _ _⟩
      case round =>
        obtain ⟨k, hk, hk30, rfl, hx, bel0⟩ := hrel
        by_cases hlt : k < n1 ∧ k < 30
        · obtain ⟨hlt, hlt30⟩ := hlt
          obtain ⟨ad, u, rfl, hadb, hu, hc⟩ := (HB.out.seen.below bel0).at_ hlt
          rw [List.getElem?_map] at hu
          obtain ⟨y, hy, rfl⟩ := Option.map_eq_some_iff.1 hu
          have hyr := arg_u8 HB.out y (List.mem_of_getElem? hy)
          have E := hide (show (l1.take (k + 1)).map chs = (l1.take k).map chs ++ [chs y] by rw [List.take_add_one, hy]; simp)
          have hcr : 32 ≤ chs y ∧ chs y ≤ 255 := by unfold chs; omega
          have WI := hide (fun w' => within_is y 32 255 (chs y) rfl w' (by omega) (by omega) (by omega) (by omega) (by omega))
          generalize chs y = z at E hcr WI
          have wz : IntKind.u8.wrap z = z := IntWalk.u8_in _ (by omega)
          have HX := hide hx
          have HBr := hide bel0
          have hsz := bel0.size
          clear hu hy hx bel0
          go_wp2_with fail
          refine (WI.out _).mono ?_
          rintro e w4 ⟨rfl, rfl⟩
          go_wp2_with (at_builtin; refine wpList_app1 rfl (.tmp 30) (.tmp 38) 26 rfl w.heap.size 5 i1 _ 1 Tryd.underlying26 hj hy0 hy1 hy2 rfl u8 k _ rfl HX.out _ _ _ rfl rfl rfl (by omega) (by omega) hsz ?_; intro v7 w5 own7 hg7 hm7)
          have F := hide (show w5.ownsRow w.heap.size 5 1 v7 (k + 1) (u8s ((l1.take (k + 1)).map chs)) by rw [E.out, u8s_app]; exact own7)
          have bel6 : Below w.heap.size w w5 := HBr.out.grown hg7 hsz (fun q hq => (HX.out.lt q hq).1)
          have G := hide bel6
          clear bel6 own7 hg7 hm7
          go_roundw
          case rel => exact ⟨k + 1, by omega, by omega, by go_num, F.out, G.out⟩
          case measure => simp [intOf]; omega
        · have hex : (k < n1 ∧ ¬ k < 30) ∨ ¬ k < n1 := by omega
          have HX := hide hx
          have HBr := hide bel0
          have hkl : k ≤ l1.length := by rw [HB.out.len]; exact hk
          clear hx bel0 hlt
          rcases hex with hex | hex
          all_goals
            (try obtain ⟨hex, hex2⟩ := hex)
            go_wp2_with fail
            go_meet
            exact ⟨k, hk30, HX.out, hkl, HBr.out⟩
    case rest =>
      obtain ⟨k, hk30, hx, hkl, bel0⟩ := hcut
      have hll : ((l1.take k).map chs).length = k := by rw [List.length_map, List.length_take]; omega
      have hchs : ∀ x ∈ (l1.take k).map chs, 32 ≤ x ∧ x < 256 := fun x hx => by
        obtain ⟨y, _, rfl⟩ := List.mem_map.1 hx
        unfold chs
        omega
      generalize (l1.take k).map chs = l at hx hll hchs
      obtain ⟨A, c, rfl, _⟩ := own_form hx
      have HX := hide hx
      have HBr := hide bel0
      have HLL := hide hll
      have HCS := hide hchs
      clear hx bel0 hll hchs HB hcb hkl
      go_upto_if 40 with fail
      go_cut [10] (fun u wx => u = .string (strOfNums (PA.ends bel)) ∧ wc = wx)
      case first =>
        rcases bel with _ | _
        all_goals
          go_wp2_with fail
          go_meet
          exact ⟨rfl, rfl⟩
      case rest =>
        obtain ⟨rfl, rfl⟩ := hcut
        obtain ⟨m, hm1, hm2⟩ : ∃ m : Nat, (strOfNums (PA.ends bel)).size = m ∧ m ≤ 2 := ⟨_, rfl, by cases bel <;> decide⟩
        obtain ⟨es, hes⟩ : ∃ es, PA.ends bel = es := ⟨_, rfl⟩
        have HES := hide hes
        rw [hes] at hm1 ⊢
        clear hes
        have HM1 := hide hm1
        clear hm1
        go_wp2_with fail
        refine (new_any _).mono ?_
        rintro e w1 ⟨rfl, rfl⟩
        have hP := new_pb wc w.heap.size HBr.out.size
        have o1 := HX.out.alloc (.cells (pcells PA.s0 (.slice none 0 0) (.slice none 0 0)) 44)
        have b1 := HBr.out.alloc HBr.out.size (.cells (pcells PA.s0 (.slice none 0 0) (.slice none 0 0)) 44)
        have s1 : (wc.alloc (.cells (pcells PA.s0 (.slice none 0 0) (.slice none 0 0)) 44)).heap.size = wc.heap.size + 1 := by simp
        generalize wc.alloc (.cells (pcells PA.s0 (.slice none 0 0) (.slice none 0 0)) 44) = w1 at hP o1 b1 s1 ⊢
        have HP1 := hide hP
        have HO1 := hide o1
        have HB1 := hide b1
        have HS1 := hide s1
        clear hP o1 b1 s1
        go_wp2_with fail
        refine (new_any _).mono ?_
        rintro e w2 ⟨rfl, rfl⟩
        have hQ := new_pb w1 w.heap.size HB1.out.size
        have hP := HP1.out.alloc (.cells (pcells PA.s0 (.slice none 0 0) (.slice none 0 0)) 44)
        have o2 := HO1.out.alloc (.cells (pcells PA.s0 (.slice none 0 0) (.slice none 0 0)) 44)
        have b2 := HB1.out.alloc HB1.out.size (.cells (pcells PA.s0 (.slice none 0 0) (.slice none 0 0)) 44)
        have s2 : (w1.alloc (.cells (pcells PA.s0 (.slice none 0 0) (.slice none 0 0)) 44)).heap.size = w1.heap.size + 1 := by simp
        generalize w1.alloc (.cells (pcells PA.s0 (.slice none 0 0) (.slice none 0 0)) 44) = w2 at hP hQ o2 b2 s2 ⊢
        obtain ⟨gp, hgp⟩ : ∃ gp, wc.heap.size = gp := ⟨_, rfl⟩
        obtain ⟨gq, hgq⟩ : ∃ gq, w1.heap.size = gq := ⟨_, rfl⟩
        have hpq : gp ≠ gq := by have := HS1.out; omega
        have hgqs : gq < w2.heap.size := by omega
        rw [hgp] at hP ⊢
        rw [hgq] at hQ ⊢
        have HP2 := hide hP
        have HQ2 := hide hQ
        have HO2 := hide o2
        have HB2 := hide b2
        clear hP hQ o2 b2 s2 hgp hgq HP1 HO1 HB1 HS1 HX HBr
        have c1 : ∀ w' : World, (convert 26 9 (.slice (some ⟨w'.heap.size, 0, none⟩) 1 1)).run Tryd.prog (w'.alloc (.cells #[.int .u8 ch] 5)) = .ok (.string (strOfNums [ch])) (w'.alloc (.cells #[.int .u8 ch] 5)) := fun w' => conv_seen (B := w'.heap.size + 1) (Seen.fresh rfl rfl rfl rfl)
        have bA : Below w2.heap.size w2 (w2.alloc (.cells #[.int .u8 ch] 5)) := (Below.refl _ _).alloc (Nat.le_refl _) _
        have c2 : (convert 26 9 (.slice A k c)).run Tryd.prog (w2.alloc (.cells #[.int .u8 ch] 5)) = .ok (.string (strOfNums l)) (w2.alloc (.cells #[.int .u8 ch] 5)) := conv_seen ((Seen.of_own HO2.out).below bA)
        have HBA := hide bA
        have cs := conv_str
        have z1 : (strOfNums [ch]).size = 1 := rfl
        have z2 : (strOfNums l).size = k := by rw [strOfNums_size]; exact HLL.out
        have z3 := HM1.out
        clear bA
        go_wp2_with fail
        have hX : (⟨#[27]⟩ ++ strOfNums [ch] ++ strOfNums l ++ strOfNums es ++ ⟨#[122]⟩ : ByteArray) = strOfNums (27 :: ch :: l ++ es ++ [122]) := by
          rw [show (⟨#[27]⟩ : ByteArray) = strOfNums [27] from rfl, show (⟨#[122]⟩ : ByteArray) = strOfNums [122] from rfl, str_app, str_app, str_app, str_app]
          simp
        have hml : es.length = m := by have := HM1.out; rw [strOfNums_size] at this; exact this
        have her : ∀ x ∈ es, 0 ≤ x ∧ x < 256 := by
          rw [← HES.out]
          cases bel <;> decide
        have hL1 : ∀ x ∈ 27 :: ch :: l ++ es ++ [122], 0 ≤ x ∧ x < 256 := fun x hx => by
          simp only [List.mem_append, List.mem_cons, List.not_mem_nil, or_false] at hx
          rcases hx with ((rfl | rfl | hx) | hx) | rfl
          · omega
          · omega
          · have := HCS.out x hx; omega
          · exact her x hx
          · omega
        have hl1 : (27 :: ch :: l ++ es ++ [122]).length = 2 + k + m + 1 := by
          simp only [List.length_append, List.length_cons, List.length_nil, HLL.out, hml]
          omega
        have b5 : Below w2.heap.size w2 (strWorld (w2.alloc (.cells #[.int .u8 ch] 5)) (⟨#[27]⟩ ++ strOfNums [ch] ++ strOfNums l ++ strOfNums es ++ ⟨#[122]⟩)) := HBA.out.trans ((strWorld_below _ _).mono (by simp))
        have s5 : Seen (strWorld (w2.alloc (.cells #[.int .u8 ch] 5)) (⟨#[27]⟩ ++ strOfNums [ch] ++ strOfNums l ++ strOfNums es ++ ⟨#[122]⟩)) (strWorld (w2.alloc (.cells #[.int .u8 ch] 5)) (⟨#[27]⟩ ++ strOfNums [ch] ++ strOfNums l ++ strOfNums es ++ ⟨#[122]⟩)).heap.size (some ⟨w2.heap.size + 1, 0, none⟩) (2 + k + m + 1) (u8s (27 :: ch :: l ++ es ++ [122])) := by
          have := strWorld_seen (w := w2.alloc (.cells #[.int .u8 ch] 5)) hX hL1 hl1
          simpa using this
        generalize strWorld (w2.alloc (.cells #[.int .u8 ch] 5)) (⟨#[27]⟩ ++ strOfNums [ch] ++ strOfNums l ++ strOfNums es ++ ⟨#[122]⟩) = w5 at b5 s5 ⊢
        generalize strCap (w2.alloc (.cells #[.int .u8 ch] 5)) (⟨#[27]⟩ ++ strOfNums [ch] ++ strOfNums l ++ strOfNums es ++ ⟨#[122]⟩) = cp5
        have hP5 := HP2.out.below b5
        have hQ5 := HQ2.out.below b5
        have ho5 := own_kept HO2.out (Kept.of_below (L := []) b5) (by simp)
        have hb5 := HB2.out.trans (b5.mono HB2.out.size)
        have hgp := HP2.out.lt
        have hfs := PA.feed_string l bel HCH.out HCS.out (by rw [HLL.out]; omega)
        rw [HES.out] at hfs
        have FE := hide (feed_any w.heap.size gp PA.s0 _ _ (some ⟨w2.heap.size + 1, 0, none⟩) (2 + k + m + 1) cp5 (27 :: ch :: l ++ es ++ [122]) w5 hP5 PA.s0_ok (by simp [PA.s0, PA.d0]) s5 hL1 (by omega) (fun _ ad had => by
          injection had with had
          subst had
          simp only [Value.ownBlock, List.mem_cons, List.not_mem_nil, or_false, Option.some.injEq, reduceCtorEq]
          omega) h2 (HT.out.keep hb5))
        have HP5 := hide hP5
        have HQ5 := hide hQ5
        have HO5 := hide ho5
        have HB5 := hide hb5
        have HFS := hide hfs
        have hs25 := b5.size
        clear hP5 hQ5 ho5 hb5 hfs b5 s5 HP2 HQ2 HO2 HB2 HBA c2 hX hml her hL1 hl1 hgp z3 HM1 hm2
        refine FE.out.mono ?_
        intro e w6 hF
        rw [HFS.out] at hF
        obtain ⟨va, vpp, vtp, Ma, rfl, hMa, hP, hEa, hOa, hK, hVa, fp, ft, hHa⟩ := hF.out
        obtain ⟨rfl, rfl⟩ := hP.nils
        have b6 := below_of_kept hK HP5.out (Nat.le_refl _) HB5.out
        have hQ := HQ5.out.beside HP5.out hK hpq.symm (fun q hq => by simp [Value.ownBlock] at hq) (fun q hq => by simp [Value.ownBlock] at hq)
        have o6 := bytes_beside HO5.out HP5.out hK (fun q hq => by simp [Value.ownBlock])
        have hs56 := hK.size
        obtain ⟨Aa, ca, rfl, _⟩ := own_form' hEa.1
        have HMA := hide hMa
        have HP6 := hide hP
        have HEA := hide hEa
        have HQ6 := hide hQ
        have HO6 := hide o6
        have HB6 := hide b6
        have HLV := hide hEa.low
        clear hF hMa hP hEa hOa hK hVa fp ft hHa b6 hQ o6 HP5 HQ5 HO5 HB5 FE HFS
        go_upto_if 64 with fail
        go_cut [15] (fun o wx => Wanted w w6 ch l o wx)
        case first =>
          by_cases h93 : ch = 93
          · subst h93
            have c2 : (convert 26 9 (.slice A k c)).run Tryd.prog w6 = .ok (.string (strOfNums l)) w6 := conv_seen (Seen.of_own HO6.out)
            have hbs := HB6.out.size
            have own0 : w6.ownsRow w.heap.size 30 7 (.slice none 0 0) 0 [] := World.ownsRow_nil _ _ _ _
            go_wp2_with (at_builtin; refine wpList_appS rfl (.tmp 65) (.tmp 69) 24 rfl w.heap.size 30 i0 _ 7 56 Tryd.underlying24 hi hz0 hz1 hz2 zev_size (by omega) (.slice none 0 0) 0 [] rfl own0 _ _ _ rfl rfl rfl (by intro u hu; simp at hu; (repeat' (first | (rcases hu with rfl | hu) | subst hu)) <;> rfl) (by omega) (by omega) hbs ?_; intro v7 w7 own7 hg7 hm7)
            go_meet
            refine ⟨[(⟨5, 0, 0, 0, 0, [], l⟩, .slice none 0 0)], by rw [if_pos rfl]; rfl, ⟨?_, fun p hp => ?_⟩, ?_, ?_⟩
            · rw [mcells_one]
              exact own7
            · simp only [List.mem_singleton] at hp
              subst hp
              exact World.ownsRow_nil _ _ _ _
            · exact (Below.refl _ _).grown hg7 (Nat.le_refl _) (fun q hq => by simp [Value.ownBlock] at hq)
            · exact (High.nil _).step (From.moved hm7) (Nat.le_refl _)
          · have hne : (ch == 93) = false := by simpa using h93
            have HN := hide h93
            clear h93
            go_wp2_with fail
            go_meet
            exact ⟨[], by rw [if_neg HN.out]; rfl, ⟨World.ownsRow_nil _ _ _ _, OwnM.nil _ _⟩, Below.refl _ _, High.nil _⟩
        case rest =>
          obtain ⟨M0, hM0, hE0, b7, hH0⟩ := hcut
          have HM0 := hide hM0
          have HE0 := hide hE0
          have HB7 := hide b7
          have HH0 := hide hH0
          have hbs : w.heap.size ≤ wc.heap.size := by have := HB6.out.size; have := HB7.out.size; omega
          have hM0l : M0.length ≤ 1 := by
            have := congrArg List.length hM0
            rw [List.length_map] at this
            rw [this]
            split <;> simp
          have cs := conv_str
          have z2 : (strOfNums l).size = k := by rw [strOfNums_size]; exact HLL.out
          clear hM0 hE0 b7 hH0
          go_wp2_with (at_builtin; refine wpList_appS rfl (.tmp 71) (.tmp 73) 24 rfl w.heap.size 30 i0 _ 7 56 Tryd.underlying24 hi hz0 hz1 hz2 zev_size (by omega) u15 M0.length (mcells M0) rfl HE0.out.1 _ _ _ rfl rfl rfl (by intro u hu; simp at hu; (repeat' (first | (rcases hu with rfl | hu) | subst hu)) <;> rfl) (by omega) (by omega) hbs ?_; intro v8 w8 own8 hg8 hm8)
          have K8 : Kept [u15.ownBlock] wc w8 := (Kept.refl _ _).grown hg8 (From.mem (by simp))
          have hE8 : Evs w8 w.heap.size v8 (M0 ++ [(PA.pr 122, .slice none 0 0)]) := by
            refine ⟨by rw [List.length_append, mcells_app, mcells_one, ← ecells_pr]; exact own8, fun p hp => ?_⟩
            rcases List.mem_append.1 hp with hp | hp
            · exact own_kept (HE0.out.2 p hp) K8 (fun q hq hm => by
                simp only [List.mem_singleton] at hm
                exact own_ne_own (HE0.out.2 p hp) HE0.out.1 (by decide) hq hm.symm)
            · simp only [List.mem_singleton] at hp
              subst hp
              exact World.ownsRow_nil _ _ _ _
          have hEa7 := HEA.out.below HB7.out
          have hEa8 : Evs w8 w.heap.size (.slice Aa Ma.length ca) Ma := ⟨own_kept hEa7.1 K8 (fun q hq hm => by
            simp only [List.mem_singleton] at hm
            have a1 := HLV.out q hq
            have a2 := HH0.out q hm.symm
            omega), hEa7.2.kept K8 (fun p hp q hq hm => by
            simp only [List.mem_singleton] at hm
            exact own_ne_own (hEa7.2 p hp) HE0.out.1 (by decide) hq hm.symm)⟩
          have hP7 := HP6.out.below HB7.out
          have hQ7 := HQ6.out.below HB7.out
          obtain ⟨y1, y2, y3⟩ := own_not_parser hP7 HE0.out.1
          obtain ⟨x1, x2, x3⟩ := own_not_parser hQ7 HE0.out.1
          have hP8 := hP7.kept K8 y1 y2 y3
          have hQ8 := hQ7.kept K8 x1 x2 x3
          have hb8 := (HB6.out.trans (HB7.out.mono HB6.out.size)).grown hg8 hbs (fun q hq => (HE0.out.1.lt q hq).1)
          have hX : (⟨#[27]⟩ ++ strOfNums [ch] ++ strOfNums l ++ ⟨#[27, 91, 53, 110]⟩ : ByteArray) = strOfNums (27 :: ch :: l ++ [27, 91, 53, 110]) := by
            rw [show (⟨#[27]⟩ : ByteArray) = strOfNums [27] from rfl, show (⟨#[27, 91, 53, 110]⟩ : ByteArray) = strOfNums [27, 91, 53, 110] from rfl, str_app, str_app, str_app]
            simp
          have hL2 : ∀ x ∈ 27 :: ch :: l ++ [27, 91, 53, 110], 0 ≤ x ∧ x < 256 := fun x hx => by
            simp only [List.mem_append, List.mem_cons, List.not_mem_nil, or_false] at hx
            rcases hx with (rfl | rfl | hx) | rfl | rfl | rfl | rfl
            · omega
            · omega
            · have := HCS.out x hx; omega
            all_goals omega
          have hl2 : (27 :: ch :: l ++ [27, 91, 53, 110]).length = 2 + k + 4 := by
            simp only [List.length_append, List.length_cons, List.length_nil, HLL.out]
            omega
          have b9 := strWorld_below w8 (⟨#[27]⟩ ++ strOfNums [ch] ++ strOfNums l ++ ⟨#[27, 91, 53, 110]⟩)
          have s9 := strWorld_seen (w := w8) hX hL2 hl2
          generalize strWorld w8 (⟨#[27]⟩ ++ strOfNums [ch] ++ strOfNums l ++ ⟨#[27, 91, 53, 110]⟩) = w9 at b9 s9 ⊢
          generalize strCap w8 (⟨#[27]⟩ ++ strOfNums [ch] ++ strOfNums l ++ ⟨#[27, 91, 53, 110]⟩) = cp9
          have hP9 := hP8.below b9
          have hQ9 := hQ8.below b9
          have hEa9 := hEa8.below b9
          have hE9 := hE8.below b9
          have hb9 := hb8.trans (b9.mono hb8.size)
          have hgq8 := hQ8.lt
          have hfc := PA.feed_cut l HCH.out HCS.out (by rw [HLL.out]; omega)
          have FE := hide (feed_any w.heap.size gq PA.s0 _ _ (some ⟨w8.heap.size, 0, none⟩) (2 + k + 4) cp9 (27 :: ch :: l ++ [27, 91, 53, 110]) w9 hQ9 PA.s0_ok (by simp [PA.s0, PA.d0]) s9 hL2 (by omega) (fun _ ad had => by
            injection had with had
            subst had
            simp only [Value.ownBlock, List.mem_cons, List.not_mem_nil, or_false, Option.some.injEq, reduceCtorEq]
            omega) h2 (HT.out.keep hb9))
          have HP9 := hide hP9
          have HQ9 := hide hQ9
          have HEA9 := hide hEa9
          have HE9 := hide hE9
          have HB9 := hide hb9
          have HFC := hide hfc
          have HLN := hide (show Ma.length = (M0 ++ [(PA.pr 122, Value.slice none 0 0)]).length by
            have e1 := congrArg List.length HMA.out
            have e2 := congrArg List.length HM0.out
            simp only [List.length_map, List.length_append, List.length_cons, List.length_nil] at e1 e2 ⊢
            rw [e1, ← e2])
          have HEQ := hide (show Ma.map (·.1) = (M0 ++ [(PA.pr 122, Value.slice none 0 0)]).map (·.1) by
            rw [HMA.out, List.map_append, HM0.out]
            rfl)
          clear K8 hE8 hEa7 hEa8 hP7 hQ7 y1 y2 y3 x1 x2 x3 hP8 hQ8 hb8 hX hL2 hl2 b9 s9 hP9 hQ9 hEa9 hE9 hb9 hgq8 hfc HEA HE0 HP6 HQ6 HO6 HB6 HB7 HLV HH0 hg8 hm8 own8 z2 cs
          refine FE.out.mono ?_
          intro e w10 hF
          rw [HFC.out] at hF
          obtain ⟨vc, vpq, vtq, Mc, rfl, hMc, hQ, hEc, hOc, hK, hVc, fp, ft, hHc⟩ := hF.out
          obtain ⟨rfl, rfl⟩ := hQ.nils
          have hP := HP9.out.beside HQ9.out hK hpq (fun q hq => by simp [Value.ownBlock]) (fun q hq => by simp [Value.ownBlock])
          have hEa := HEA9.out.kept HQ9.out hK (fun p hp q hq => by simp [Value.ownBlock])
          have hE := HE9.out.kept HQ9.out hK (fun p hp q hq => by simp [Value.ownBlock])
          have b10 := below_of_kept hK HQ9.out (Nat.le_refl _) HB9.out
          obtain ⟨x, rfl⟩ := one_of hMc
          obtain ⟨Ac, cc, rfl, _⟩ := own_form' hEc.1
          have hSc := seenE_of hEc.1 hEc.2 (fun p hp => by simp at hp; subst hp; simp [PA.csi5])
          obtain ⟨gb, rfl, _, d0, _⟩ := hSc.2 0 _ rfl
          have d4 := d0 4 _ rfl
          simp only [Nat.zero_mul, Nat.zero_add] at d4
          have hE1 := hE.1
          rw [← HLN.out] at hE1
          obtain ⟨A8, c8, rfl, _⟩ := own_form' hE1
          have hpa : ∀ p ∈ Ma, p.1.params.length ≤ 1024 := fun p hp => by
            have h1 : p.1 ∈ Ma.map (·.1) := List.mem_map_of_mem hp
            rw [HMA.out] at h1
            rcases List.mem_append.1 h1 with h1 | h1
            · split at h1
              · simp only [List.mem_singleton] at h1; rw [h1]; simp
              · cases h1
            · simp only [List.mem_singleton] at h1; rw [h1]; simp [PA.pr]
          have hp1 : ∀ p ∈ M0 ++ [(PA.pr 122, Value.slice none 0 0)], p.1.params.length ≤ 1024 := fun p hp => by
            have h1 : p.1 ∈ (M0 ++ [(PA.pr 122, Value.slice none 0 0)]).map (·.1) := List.mem_map_of_mem hp
            rw [← HEQ.out] at h1
            obtain ⟨p', hp', e⟩ := List.mem_map.1 h1
            rw [← e]
            exact hpa p' hp'
          have hMal : Ma.length ≤ 2 := by
            have := HLN.out
            simp only [List.length_append, List.length_cons, List.length_nil] at this
            omega
          have EV := hide (events_any Aa A8 Ma.length ca c8 Ma _ w10 (seenE_of hEa.1 hEa.2 hpa) (seenE_at hE1 hE.2 hp1 HLN.out.symm) HEQ.out (by omega))
          have d4' : ∀ w' : World, Below w10.heap.size w10 w' → w'.cell? ⟨gb, 4, none⟩ = some (.int .u8 110) := fun w' hb => (hb.cell (p := ⟨gb, 4, none⟩) (by
            have := World.block_lt_of_cell? w10 _ d4
            exact this)).trans d4
          have D4 := hide d4'
          have HPf := hide hP
          have HQf := hide hQ
          have HBf := hide b10
          clear hF hMc hQ hEc hOc hK hVc fp ft hHc hP hEa hE b10 hSc d0 d4 d4' hE1 hpa hp1 HLN HEQ HP9 HQ9 HEA9 HE9 HB9 FE HMA HM0
          go_wp2_with fail
          refine EV.out.mono ?_
          rintro e w11 ⟨rfl, b11⟩
          have d4 := D4.out _ b11
          have HP11 := hide (HPf.out.below b11)
          have HQ11 := hide (HQf.out.below b11)
          have HB11 := hide (HBf.out.trans (b11.mono HBf.out.size))
          clear b11 EV
          go_wp2_with fail
          refine (ground_any _ _ _ _ _ _ HP11.out).mono ?_
          rintro e w12 ⟨rfl, b12⟩
          rw [show PA.ground PA.s0 = true from rfl]
          have HQ12 := hide (HQ11.out.below b12)
          have HB12 := hide (HB11.out.trans (b12.mono HB11.out.size))
          clear b12
          go_wp2_with fail
          refine (ground_any _ _ _ _ _ _ HQ12.out).mono ?_
          rintro e w13 ⟨rfl, b13⟩
          rw [show PA.ground PA.s0 = true from rfl]
          have HB13 := hide (HB12.out.trans (b13.mono HB12.out.size))
          clear b13
          go_wp2_with fail
          refine (parseRuns_any _ (HT.out.keep HB13.out)).mono ?_
          rintro e w14 ⟨rfl, b14⟩
          have HB14 := hide (HB13.out.trans (b14.mono HB13.out.size))
          clear b14
          go_wp2_with fail
          go_ret
          exact ⟨rfl, HB14.out⟩
end Go.Proofs.YtdpioiapljgpmaaDoor
