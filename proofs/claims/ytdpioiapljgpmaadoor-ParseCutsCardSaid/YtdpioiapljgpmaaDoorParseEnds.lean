/- ParseEnds: whatever was begun, behind a CAN it is the ground again: what is plain then is printed, and nothing else. -/
import Derived.Test.YtdpioiapljgpmaaDoorParseRuns
import Derived.Test.YtdpioiapljgpmaaDoorParsePlain
import Derived.Test.YtdpioiapljgpmaaDoorArgs
import Derived.Test.YtdpioiapljgpmaaDoorBook
namespace Go.Proofs.YtdpioiapljgpmaaDoor
open Go.RowKit
set_option linter.unusedVariables false
theorem PB.nils {w : World} {B g : Nat} {vp vt : Value} (h : PB w B g PA.s0 vp vt) : vp = .slice none 0 0 ∧ vt = .slice none 0 0 := ⟨h.pn rfl, h.tn rfl⟩
/-- a parser that has been fed something: in block g, whatever it has begun -/
def Somewhere (w : World) (g : Nat) (wx : World) : Prop := ∃ s vp vt, PB wx w.heap.size g s vp vt ∧ s.ok ∧ s.d.parts ≤ 500000 ∧ Below w.heap.size w wx
theorem arg_u8 {w : World} {A : Option Addr} {n c : Nat} {l : List Int} (h : Arg .u8 w A n c l) : ∀ x ∈ l, 0 ≤ x ∧ x < 256 := fun x hx => by
  have := h.wf x hx
  have hmin : IntKind.u8.min = 0 := rfl
  have hmax : IntKind.u8.max = 255 := rfl
  simp only [Lit.wf, Bool.and_eq_true, decide_eq_true_eq] at this
  omega
theorem seenE_at {w : World} {B B' n c : Nat} {A : Option Addr} {M : List (PA.Ev × Value)} (h : w.ownsRow B 30 7 (.slice A n c) n (mcells M)) (hO : OwnM w B' M) (hb : ∀ p ∈ M, p.1.params.length ≤ 1024) (hn : M.length = n) : SeenE w A n M := by
  subst hn
  exact seenE_of h hO hb
def chr (x : Int) : Int := 32 + x % 95
theorem fed_below {B g : Nat} {s' : PA.S} {evs : List PA.Ev} {vp vt : Value} {w w1 w' : World} {e : Ending} {s : PA.S} (h : Fed B g s' evs vp vt w1 e w') (hP : PB w1 B g s vp vt) (hB : w.heap.size ≤ B) (b0 : Below w.heap.size w w1) : Below w.heap.size w w' := by
  obtain ⟨v', vp', vt', M, _, _, _, _, _, _, hK, _⟩ := h
  refine b0.trans (hK.toBelow b0.size (fun k hk => ?_))
  simp only [List.mem_cons, List.not_mem_nil, or_false, Option.some.injEq] at hk
  rcases hk with rfl | hk | hk
  · have := hP.low; omega
  · have := (hP.par.lt k hk.symm).1; omega
  · have := (hP.txt.lt k hk.symm).1; omega
set_option maxHeartbeats 8000000 in
set_option maxRecDepth 100000 in
theorem parseEnds_any (A1 : Option Addr) (n1 c1 : Nat) (l1 : List Int) (A2 : Option Addr) (n2 c2 : Nat) (l2 : List Int) (w : World) (hb : Arg .u8 w A1 n1 c1 l1) (hs : Arg .u8 w A2 n2 c2 l2) (ht : Tabs w) :
    Calls Tryd.prog 5 #[.slice A1 n1 c1, .slice A2 n2 c2] w fun e w' => e = .returned (.bool true) ∧ Below w.heap.size w w' := by
  obtain ⟨i0, hi, hz0, hz1, hz2⟩ := info_parts info_ev
  obtain ⟨i1, hj, hy0, hy1, hy2⟩ := info_parts info_u8
  have h2 := ht.lt
  have HB := hide hb
  have HS := hide hs
  have HT := hide ht
  have hcap := hb.cap
  have hle := hb.le
  have hcap2 := hs.cap
  have hle2 := hs.le
  unfold maxLen at hcap hcap2
  clear hb hs ht
  go_enter Tryd.func5, Tryd.ntmps5
  go_wp2_with fail
  refine (new_any _).mono ?_
  rintro e w1 ⟨rfl, rfl⟩
  have hP := new_pb w w.heap.size (Nat.le_refl _)
  have bel : Below w.heap.size w (w.alloc (.cells (pcells PA.s0 (.slice none 0 0) (.slice none 0 0)) 44)) := (Below.refl _ _).alloc (Nat.le_refl _) _
  generalize w.alloc (.cells (pcells PA.s0 (.slice none 0 0) (.slice none 0 0)) 44) = w1 at hP bel ⊢
  have HP := hide hP
  have HBL := hide bel
  clear hP bel
  go_upto_region 4 with fail
  go_cut [] (fun wx => Somewhere w w.heap.size wx)
  case first =>
    have fin : ∀ k, k ≤ n1 → k ≤ 60 → ∀ (e : Ending) (w' : World), Fed w.heap.size w.heap.size (PA.feed PA.s0 (l1.take k)).1 (PA.feed PA.s0 (l1.take k)).2 (.slice none 0 0) (.slice none 0 0) w1 e w' → (∃ v, e = .returned v) ∧ Somewhere w w.heap.size w' := fun k hk hk60 e w' hF => by
      have hbel := fed_below hF HP.out (Nat.le_refl _) HBL.out
      obtain ⟨v', vp', vt', M, he, hM, hP2, _⟩ := hF
      have hr : ∀ x ∈ l1.take k, 0 ≤ x ∧ x < 256 := fun x hx => arg_u8 HB.out x (List.mem_of_mem_take hx)
      have := PA.feed_parts PA.s0 (l1.take k)
      rw [List.length_take, show PA.s0.d.parts = 0 from rfl] at this
      exact ⟨⟨v', he⟩, _, vp', vt', hP2, PA.feed_ok PA.s0_ok _ hr, by omega, hbel⟩
    have call : ∀ k, k ≤ n1 → k ≤ 60 → Calls Tryd.prog 9 #[.pointer (some ⟨w.heap.size, 0, none⟩), .slice A1 k c1] w1 (Fed w.heap.size w.heap.size (PA.feed PA.s0 (l1.take k)).1 (PA.feed PA.s0 (l1.take k)).2 (.slice none 0 0) (.slice none 0 0) w1) := fun k hk hk60 => by
      have hsn := (HB.out.seen.below HBL.out).take hk
      refine feed_any w.heap.size w.heap.size PA.s0 _ _ A1 k c1 (l1.take k) w1 HP.out PA.s0_ok (by simp [PA.s0, PA.d0]) ?_ (fun x hx => arg_u8 HB.out x (List.mem_of_mem_take hx)) (by omega) (fun hpos ad had => ?_) h2 (HT.out.keep HBL.out)
      · have := hsn.more HBL.out.size
        rwa [← List.map_take] at this
      · obtain ⟨ad', _, had', hlt', _⟩ := hsn.at_ hpos
        rw [had] at had'
        injection had' with had'
        subst had'
        simp [Value.ownBlock]
        omega
    have FIN := hide fin
    have CALL := hide call
    clear fin call
    by_cases h60 : n1 ≤ 60
    · go_wp2_with fail
      refine (CALL.out _ (Nat.le_refl _) h60).mono ?_
      intro e w2 hF
      obtain ⟨⟨v, rfl⟩, hS⟩ := FIN.out _ (Nat.le_refl _) h60 _ _ hF
      clear hF
      go_wp2_with fail
      go_meet
      exact hS
    · have h60' : 60 < n1 := by omega
      go_wp2_with fail
      refine (CALL.out 60 (by omega) (Nat.le_refl _)).mono ?_
      intro e w2 hF
      obtain ⟨⟨v, rfl⟩, hS⟩ := FIN.out 60 (by omega) (Nat.le_refl _) _ _ hF
      clear hF
      go_wp2_with fail
      go_meet
      exact hS
  case rest =>
    obtain ⟨s, vp, vt, hP, hok, hpt, bel⟩ := hcut
    have hcan := PA.take_can hok
    have PU := hide (ppush_any w.heap.size w.heap.size s vp vt 24 wc hP hok (by omega) (by omega) (by omega) h2 (HT.out.keep bel))
    have HPc := hide hP
    have HBc := hide bel
    clear hP bel HP HBL
    go_wp2_with fail
    refine PU.out.mono ?_
    intro e w2 hF
    have hbel := fed_below hF HPc.out (Nat.le_refl _) HBc.out
    obtain ⟨v', vp', vt', M, rfl, hM, hP2, _⟩ := hF
    rw [hcan] at hP2
    obtain ⟨rfl, rfl⟩ := hP2.nils
    have GR := hide (ground_any _ _ _ _ _ _ hP2)
    rw [show PA.ground PA.s0 = true from rfl] at GR
    have HP2 := hide hP2
    have HB2 := hide hbel
    clear hP2 hbel hM PU HPc HBc hok hcan hpt
    go_wp2_with fail
    refine GR.out.mono ?_
    rintro e w3 ⟨rfl, b3⟩
    have HP3 := hide (HP2.out.below b3)
    have HB3 := hide (HB2.out.trans (b3.mono HB2.out.size))
    clear HP2 HB2 b3 GR
    go_wp2_with fail
    go_loopw [6, 7, 8] (fun o t i wr => ∃ k : Nat, k ≤ n2 ∧ k ≤ 20 ∧ i = .int .i64 k ∧ wr.ownsRow w.heap.size 30 7 o k (mcells (prs ((l2.take k).map chr))) ∧ wr.ownsRow w.heap.size 5 1 t k (u8s ((l2.take k).map chr)) ∧ PB wr w.heap.size w.heap.size PA.s0 (.slice none 0 0) (.slice none 0 0) ∧ Below w.heap.size w wr) (fun _ _ i _ => 20 - (intOf i).toNat)
    case atStart => exact ⟨0, by omega, by omega, rfl, World.ownsRow_nil _ _ _ _, World.ownsRow_nil _ _ _ _, HP3.out, HB3.out⟩
    case round =>
      clear HP3 HB3
      obtain ⟨k, hk, hk20, rfl, hw, hx, hP, bel⟩ := hrel
      by_cases hlt : k < n2 ∧ k < 20
      · obtain ⟨hlt, hlt20⟩ := hlt
        obtain ⟨ad, u, rfl, hadb, hu, hc⟩ := (HS.out.seen.below bel).at_ hlt
        rw [List.getElem?_map] at hu
        obtain ⟨y, hy, rfl⟩ := Option.map_eq_some_iff.1 hu
        have hyr := arg_u8 HS.out y (List.mem_of_getElem? hy)
        have E := hide (show (l2.take (k + 1)).map chr = (l2.take k).map chr ++ [chr y] by rw [List.take_add_one, hy]; simp)
        have hcr : 32 ≤ chr y ∧ chr y ≤ 126 := by unfold chr; omega
        have WI := hide (fun w' => within_is y 32 126 (chr y) rfl w' (by omega) (by omega) (by omega) (by omega) (by omega))
        generalize chr y = z at E hcr WI
        have wz : IntKind.u8.wrap z = z := IntWalk.u8_in _ (by omega)
        have wz' : IntKind.i32.wrap z = z := IntWalk.i32_in _ (by omega)
        have HW := hide hw
        have HX := hide hx
        have HPr := hide hP
        have HBr := hide bel
        have hsz := bel.size
        clear hu hy hw hx hP bel
        go_wp2_with fail
        refine (WI.out _).mono ?_
        rintro e w4 ⟨rfl, rfl⟩
        go_wp2_with (first
          | (at_builtin; refine wpList_app1 rfl (.tmp 42) (.tmp 44) 26 rfl w.heap.size 5 i1 _ 1 Tryd.underlying26 hj hy0 hy1 hy2 rfl u7 k _ rfl HX.out _ _ _ rfl rfl rfl (by omega) (by omega) hsz ?_; intro v7 w5 own7 hg7 hm7; (have hw5 := own_kept HW.out ((Kept.refl [u7.ownBlock] _).grown hg7 (From.mem (by simp))) (fun q hq hm => own_ne_own HW.out HX.out (by decide) hq (by simpa [eq_comm] using hm))); (have hz5 := hg7.size))
          | (at_builtin; refine wpList_appS rfl (.tmp 46) (.tmp 50) 24 rfl w.heap.size 30 i0 _ 7 56 Tryd.underlying24 hi hz0 hz1 hz2 zev_size (by omega) u6 k _ rfl hw5 _ _ _ rfl rfl rfl (by intro u hu; simp at hu; (repeat' (first | (rcases hu with rfl | hu) | subst hu)) <;> rfl) (by omega) (by omega) (by omega) ?_; intro v6 w6 own6 hg6 hm6))
        have K5 : Kept [u7.ownBlock] wr w5 := (Kept.refl _ _).grown hg7 (From.mem (by simp))
        have K6 : Kept [u6.ownBlock] w5 w6 := (Kept.refl _ _).grown hg6 (From.mem (by simp))
        have P5 : PB w5 w.heap.size w.heap.size PA.s0 (.slice none 0 0) (.slice none 0 0) := HPr.out.kept K5 (fun hm => own_ne_box HX.out HPr.out.box (by decide) (by simpa [eq_comm] using hm)) (fun b hb => by simp [Value.ownBlock] at hb) (fun b hb => by simp [Value.ownBlock] at hb)
        have P6 : PB w6 w.heap.size w.heap.size PA.s0 (.slice none 0 0) (.slice none 0 0) := P5.kept K6 (fun hm => own_ne_box hw5 P5.box (by decide) (by simpa [eq_comm] using hm)) (fun b hb => by simp [Value.ownBlock] at hb) (fun b hb => by simp [Value.ownBlock] at hb)
        have own7' := own_kept own7 K6 (fun q hq hm => own_ne_own own7 hw5 (by decide) hq (by simpa [eq_comm] using hm))
        have bel6 : Below w.heap.size w w6 := (HBr.out.grown hg7 hsz (fun q hq => (HX.out.lt q hq).1)).grown hg6 (by omega) (fun q hq => (hw5.lt q hq).1)
        have f1 : w6.ownsRow w.heap.size 30 7 v6 (k + 1) (mcells (prs ((l2.take (k + 1)).map chr))) := by
          rw [E.out, prs_snoc, mcells_app, mcells_one]
          exact own6
        have f2 : w6.ownsRow w.heap.size 5 1 v7 (k + 1) (u8s ((l2.take (k + 1)).map chr)) := by
          rw [E.out, u8s_app]
          exact own7'
        have F := hide (And.intro f1 (And.intro f2 (And.intro P6 bel6)))
        clear f1 f2 P6 bel6 own7' own6 own7 K5 K6 P5 hg6 hg7 hm6 hm7 hw5
        go_roundw
        case rel => exact ⟨k + 1, by omega, by omega, by go_num, F.out⟩
        case measure => simp [intOf]; omega
      · have hex : (k < n2 ∧ ¬ k < 20) ∨ ¬ k < n2 := by omega
        have hll : ((l2.take k).map chr).length = k := by rw [List.length_map, List.length_take, HS.out.len]; omega
        have hch : ∀ x ∈ (l2.take k).map chr, 32 ≤ x ∧ x ≤ 126 := fun x hx => by
          obtain ⟨y, _, rfl⟩ := List.mem_map.1 hx
          unfold chr
          omega
        generalize (l2.take k).map chr = ch at hw hx hll hch
        have hfeed := PA.feed_plain ch hch
        obtain ⟨A7, c7, rfl, _⟩ := own_form hx
        have hsn := Seen.of_own hx
        have FE := hide (feed_any w.heap.size w.heap.size PA.s0 _ _ A7 k c7 ch wr hP PA.s0_ok (by simp [PA.s0, PA.d0]) hsn (fun x hx => by have := hch x hx; omega) (by omega) (fun hpos ad had => by
          have := own_ne_box hx hP.box (by decide)
          subst had
          simp [Value.ownBlock] at this ⊢
          exact this) h2 (HT.out.keep bel))
        have HW := hide hw
        have HPr := hide hP
        have HBr := hide bel
        have HFD := hide hfeed
        have HLL := hide hll
        clear hw hx hP bel hfeed hsn hll hch hlt
        rcases hex with hex | hex
        all_goals
          (try obtain ⟨hex, hex2⟩ := hex)
          go_wp2_with fail
          refine FE.out.mono ?_
          intro e w2 hF
          rw [HFD.out] at hF
          have hbel := fed_below hF HPr.out (Nat.le_refl _) HBr.out
          obtain ⟨v', vp', vt', M, rfl, hM, hP2, hown, hO, _, hK, _⟩ := hF
          obtain ⟨rfl, rfl⟩ := hP2.nils
          have hw2 := own_kept HW.out hK (fun q hq hm => own_ne_box HW.out HPr.out.box (by decide) (by
            simp only [Value.ownBlock, List.mem_cons, List.not_mem_nil, or_false, Option.some.injEq, reduceCtorEq] at hm
            rw [hq, hm]))
          have hMk : M.length = k := by
            have := congrArg List.length hM
            simp only [List.length_map] at this
            rw [this]
            exact HLL.out
          rw [hMk] at hown
          obtain ⟨A6, c6, rfl, _⟩ := own_form' hw2
          obtain ⟨A2, c2, rfl, _⟩ := own_form' hown
          have EV := hide (events_any A2 A6 k c2 c6 M (prs ch) w2 (seenE_at hown hO (fun p hp => by
            have h1 : p.1 ∈ M.map (·.1) := List.mem_map_of_mem hp
            rw [hM] at h1
            obtain ⟨r, _, hr⟩ := List.mem_map.1 h1
            rw [← hr]
            simp [PA.pr]) hMk) (seenE_at hw2 (prs_own w2 w.heap.size ch) (fun p hp => by
            obtain ⟨r, _, rfl⟩ := List.mem_map.1 hp
            simp [PA.pr]) (by rw [prs_len]; exact HLL.out)) (by rw [hM, prs_ev]) (by omega))
          have HP2 := hide hP2
          have HB2 := hide hbel
          clear hM hP2 hown hO hK hw2 hbel hMk FE
          go_wp2_with fail
          refine EV.out.mono ?_
          rintro e w3 ⟨rfl, b3⟩
          have HP3 := hide (HP2.out.below b3)
          have HB3 := hide (HB2.out.trans (b3.mono HB2.out.size))
          clear b3 EV
          go_wp2_with fail
          refine (ground_any _ _ _ _ _ _ HP3.out).mono ?_
          rintro e w4 ⟨rfl, b4⟩
          rw [show PA.ground PA.s0 = true from rfl]
          have HB4 := hide (HB3.out.trans (b4.mono HB3.out.size))
          clear b4
          go_wp2_with fail
          refine (parseRuns_any _ (HT.out.keep HB4.out)).mono ?_
          rintro e w5 ⟨rfl, b5⟩
          have HB5 := hide (HB4.out.trans (b5.mono HB4.out.size))
          clear b5
          go_wp2_with fail
          go_ret
          exact ⟨rfl, HB5.out⟩
end Go.Proofs.YtdpioiapljgpmaaDoor
