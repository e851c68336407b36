/- The document's own goTo, one, moves, csi, escape and Do, of the events that move the cursor up, down, to a place, that save it and that restore it. (written by tools/gencursordo.py) -/
import Derived.Test.YtbhnipepbckalaaDoorCursorRef
import Derived.Test.YtbhnipepbckalaaDoorLib
import Derived.Deep.DeepCutAuto
set_option maxRecDepth 100000
namespace Go.Proofs.YtbhnipepbckalaaDoor
open Go.RowKit
set_option linter.unusedVariables false
set_option maxHeartbeats 4000000 in
theorem rgoto_is (x : Value) (s t : SN.Sc) (r c : Int) (w : World) (hx : x.oneCell' = true) (hs : SN.RightS s) (hr : -1073741825 ≤ r ∧ r ≤ 1073741825) (hc : -1073741825 ≤ c ∧ c ≤ 1073741825) (ht : SN.goS s r c = t) :
    Calls Tryd.prog 99 #[.agg (scA x s), .int .i64 r, .int .i64 c] w fun e w' => e = .returned (.agg (scA x t)) ∧ Below w.heap.size w w' := by
  have hgr := hs.g.2.1
  have hgc := hs.g.2.2.2.1
  have htop := SN.top_bot hs
  have hbot := hs.bot
  unfold SN.goS at ht
  obtain ⟨z, hz⟩ : ∃ z, SN.goR s r = z := ⟨_, rfl⟩
  rw [hz] at ht
  unfold SN.goR at hz
  have hzb : -1099511627776 ≤ z ∧ z ≤ 1099511627776 := by
    rw [← hz]
    split <;> omega
  have AT := hide (fun w' => rat_is x s t z c w' hx hs.g.1 (by omega) hs.g.2.2.1 (by omega) hzb (by omega) ht)
  cases hO : s.org with
  | false =>
    rw [hO, if_neg (by decide)] at hz
    subst hz
    clear ht
    go_enter Tryd.func99, Tryd.ntmps99
    go_upto_region 1 with (first | (refine wpList_box_scr rfl _ rfl rfl ?_; intro g w1 hB hb1 hg1) | (refine wpList_alloc_scr rfl rfl ?_; intro gR w2 csR hR hsR hb2 hgR))
    have HB2 := hide (hB.below hb2 hB.lt)
    have HW2 := hide (hb1.trans (hb2.mono hb1.size))
    have HR2 := hide hR
    have hb1s := hb1.size
    have hne : gR ≠ g := by have := hB.lt; omega
    have hgR' : w.heap.size ≤ gR := by omega
    clear hB hb1 hb2 hR
    have k16 : w2.cell? ⟨g, 16, none⟩ = some (.bool false) := HB2.out.c16.trans (by rw [hO])
    go_wp2_with (refine wpList_load_scr HB2.out rfl _ rfl rfl ?_)
    refine (AT.out _).mono ?_
    rintro e w7 ⟨rfl, hb7⟩
    have HR7 := hide (HR2.out.below hb7 HR2.out.lt)
    have HW7 := hide (HW2.out.trans (hb7.mono HW2.out.size))
    clear hb7 HB2 HR2 HW2
    go_wp2_with (refine wpList_store_scr HR7.out hsR rfl _ _ rfl rfl rfl hx ?_; intro w8 hB8 hk8 hs8)
    refine bodyPost_ret (results_scr rfl rfl hB8) rfl ⟨rfl, HW7.out.trans (hk8.toBelow HW7.out.size (fun k hk => by simp at hk; omega))⟩
  | true =>
    rw [hO, if_pos rfl] at hz
    clear ht
    by_cases hm : (s.bot : Int) < (s.top : Int) + r
    · obtain rfl : (s.bot : Int) = z := by omega
      clear hz
      go_enter Tryd.func99, Tryd.ntmps99
      go_upto_region 1 with (first | (refine wpList_box_scr rfl _ rfl rfl ?_; intro g w1 hB hb1 hg1) | (refine wpList_alloc_scr rfl rfl ?_; intro gR w2 csR hR hsR hb2 hgR))
      have HB2 := hide (hB.below hb2 hB.lt)
      have HW2 := hide (hb1.trans (hb2.mono hb1.size))
      have HR2 := hide hR
      have hb1s := hb1.size
      have hne : gR ≠ g := by have := hB.lt; omega
      have hgR' : w.heap.size ≤ gR := by omega
      clear hB hb1 hb2 hR
      have k16 : w2.cell? ⟨g, 16, none⟩ = some (.bool true) := HB2.out.c16.trans (by rw [hO])
      have k6 := HB2.out.c6
      have k7 := HB2.out.c7
      go_upto_region 2 with fail
      go_wp2_with (refine wpList_load_scr HB2.out rfl _ rfl rfl ?_)
      refine (AT.out _).mono ?_
      rintro e w7 ⟨rfl, hb7⟩
      have HR7 := hide (HR2.out.below hb7 HR2.out.lt)
      have HW7 := hide (HW2.out.trans (hb7.mono HW2.out.size))
      clear hb7 HB2 HR2 HW2
      go_wp2_with (refine wpList_store_scr HR7.out hsR rfl _ _ rfl rfl rfl hx ?_; intro w8 hB8 hk8 hs8)
      refine bodyPost_ret (results_scr rfl rfl hB8) rfl ⟨rfl, HW7.out.trans (hk8.toBelow HW7.out.size (fun k hk => by simp at hk; omega))⟩
    · obtain rfl : (s.top : Int) + r = z := by omega
      clear hz
      go_enter Tryd.func99, Tryd.ntmps99
      go_upto_region 1 with (first | (refine wpList_box_scr rfl _ rfl rfl ?_; intro g w1 hB hb1 hg1) | (refine wpList_alloc_scr rfl rfl ?_; intro gR w2 csR hR hsR hb2 hgR))
      have HB2 := hide (hB.below hb2 hB.lt)
      have HW2 := hide (hb1.trans (hb2.mono hb1.size))
      have HR2 := hide hR
      have hb1s := hb1.size
      have hne : gR ≠ g := by have := hB.lt; omega
      have hgR' : w.heap.size ≤ gR := by omega
      clear hB hb1 hb2 hR
      have k16 : w2.cell? ⟨g, 16, none⟩ = some (.bool true) := HB2.out.c16.trans (by rw [hO])
      have k6 := HB2.out.c6
      have k7 := HB2.out.c7
      go_upto_region 2 with fail
      go_wp2_with (refine wpList_load_scr HB2.out rfl _ rfl rfl ?_)
      refine (AT.out _).mono ?_
      rintro e w7 ⟨rfl, hb7⟩
      have HR7 := hide (HR2.out.below hb7 HR2.out.lt)
      have HW7 := hide (HW2.out.trans (hb7.mono HW2.out.size))
      clear hb7 HB2 HR2 HW2
      go_wp2_with (refine wpList_store_scr HR7.out hsR rfl _ _ rfl rfl rfl hx ?_; intro w8 hB8 hk8 hs8)
      refine bodyPost_ret (results_scr rfl rfl hB8) rfl ⟨rfl, HW7.out.trans (hk8.toBelow HW7.out.size (fun k hk => by simp at hk; omega))⟩
/-- one of an event's parameters -/
def oneL (l : List Int) (i : Nat) (d : Int) : Int := if l.getD i 0 < 1 then d else l.getD i 0
set_option maxHeartbeats 4000000 in
theorem rone_is (fn : Int) (tx : ByteArray) (A : Option Addr) (n c B : Nat) (l : List Int) (i : Nat) (d v : Int) (w : World) (hl : Seen w B A n (l.map (Value.int .i64))) (hB : B ≤ w.heap.size) (hn : n ≤ 100) (hnc : n ≤ c) (hi : i ≤ 100) (hv : oneL l i d = v) :
    Calls Tryd.prog 79 #[.agg #[.int .i64 4, .int .i32 0, .int .u8 0, .int .u8 0, .int .u8 fn, .slice A n c, .string tx], .int .i64 i, .int .i64 d] w fun e w' => e = .returned (.int .i64 v) ∧ Below w.heap.size w w' := by
  have hlen : l.length = n := by rw [← hl.1, List.length_map]
  have bb : Below w.heap.size w (w.alloc (.cells #[.int .i64 4, .int .i32 0, .int .u8 0, .int .u8 0, .int .u8 fn, .slice A n c, .string tx] 47)) := (Below.refl _ _).alloc (Nat.le_refl _) _
  unfold oneL at hv
  by_cases h : n ≤ i
  · have e1 : ((i : Int) ≥ (n : Int)) := by omega
    rw [List.getD_eq_getElem?_getD, List.getElem?_eq_none (by omega)] at hv
    simp at hv
    subst hv
    go_enter Tryd.func79, Tryd.ntmps79
    go_wp2_with fail
    go_ret
    exact ⟨rfl, bb⟩
  · have e1 : ¬ ((i : Int) ≥ (n : Int)) := by omega
    have hin : i < n := by omega
    obtain ⟨ad, u, rfl, hlt, hu, hcell⟩ := (hl.below (bb.mono hB)).at_ hin
    rw [List.getElem?_map] at hu
    obtain ⟨y, hy, rfl⟩ := Option.map_eq_some_iff.1 hu
    rw [List.getD_eq_getElem?_getD, hy, Option.getD_some] at hv
    clear hl hu hy hlen
    by_cases h1 : y < 1
    · rw [if_pos h1] at hv
      subst hv
      go_enter Tryd.func79, Tryd.ntmps79
      go_wp2_with fail
      go_ret
      exact ⟨rfl, bb⟩
    · rw [if_neg h1] at hv
      subst hv
      go_enter Tryd.func79, Tryd.ntmps79
      go_wp2_with fail
      go_ret
      exact ⟨rfl, bb⟩
theorem results_scr_b {w : World} {g : Nat} {x : Value} {s : SN.Sc} {fn : Func} {t k : Tmp} (h : fn.results = #[.cell t 32, .tmp k]) {tmps : Array Value} (ht : tmps.getD t undef = .pointer (some ⟨g, 0, none⟩)) (b : Value) (hk : tmps.getD k undef = b) (hb : SBox w g x s) : (results fn tmps).run Tryd.prog w = .ok (.tuple #[.agg (scA x s), b]) w := by
  obtain ⟨d, hu, hd⟩ := row_screen
  have hl := run_loadVar_mid (P := Tryd.prog) w g 0 32 (scA x s).toList d (Box.rangeAt hb) hu hd size_screen
  have ht' : tmps[t]?.getD undef = .pointer (some ⟨g, 0, none⟩) := by simpa using ht
  have hk' : tmps[k]?.getD undef = b := by simpa using hk
  simp [results, h, ht', hk', asAddr, hl]
set_option maxHeartbeats 16000000 in
theorem rmoves_up (x : Value) (s t : SN.Sc) (tx : ByteArray) (A : Option Addr) (n c B m : Nat) (l : List Int) (w : World) (hx : x.oneCell' = true) (hs : SN.RightS s) (hl : Seen w B A n (l.map (Value.int .i64))) (hB : B ≤ w.heap.size) (hn : n ≤ 100) (hnc : n ≤ c) (hm : oneL l 0 1 = m) (hm1 : m ≤ 1073741825) (ht : SN.upS s m = t) :
    Calls Tryd.prog 78 #[.agg (scA x s), .agg #[.int .i64 4, .int .i32 0, .int .u8 0, .int .u8 0, .int .u8 65, .slice A n c, .string tx]] w fun e w' => e = .returned (.tuple #[.agg (scA x t), .bool true]) ∧ Below w.heap.size w w' := by
  have hgr := hs.g.2.1
  have hgc := hs.g.2.2.2.1
  have hrow := hs.row
  have hcol := hs.col
  have htop := SN.top_bot hs
  have hbot := hs.bot
  have ON := hide (fun w' (hb : Below w.heap.size w w') => rone_is 65 tx A n c B l 0 1 m w' (hl.below (hb.mono hB)) (Nat.le_trans hB hb.size) hn hnc (by omega) hm)
  unfold SN.upS at ht
  obtain ⟨z, hz⟩ : ∃ z, SN.upR s m = z := ⟨_, rfl⟩
  rw [hz] at ht
  unfold SN.upR at hz
  have hzb : -1099511627776 ≤ z ∧ z ≤ 1099511627776 := by
    rw [← hz]
    split <;> omega
  have AT := hide (fun w' => rat_is x s t z s.col w' hx hs.g.1 (by omega) hs.g.2.2.1 (by omega) hzb (by omega) ht)
  clear ht hl hm hs
  by_cases hb1 : s.top ≤ s.row
  · by_cases hc1 : (s.row : Int) - m < s.top
    · skip
      by_cases hb2 : s.row ≤ s.bot
      · by_cases hc2 : (s.bot : Int) < (s.row : Int) + m
        · as_aux_lemma =>
          obtain rfl : (s.top : Int) = z := by
            rw [← hz]
            split <;> omega
          clear hz hzb
          go_enter Tryd.func78, Tryd.ntmps78
          go_upto_region 1 with (first | (refine wpList_box_scr rfl _ rfl rfl ?_; intro g w1 hB1 hb1 hg1) | (refine wpList_alloc_scr rfl rfl ?_; intro gR w2 csR hR hsR hb2 hgR))
          have hE1 := Box.new w1 47 #[.int .i64 4, .int .i32 0, .int .u8 0, .int .u8 0, .int .u8 65, .slice A n c, .string tx]
          have hbE := hb1.alloc hb1.size (.cells #[.int .i64 4, .int .i32 0, .int .u8 0, .int .u8 0, .int .u8 65, .slice A n c, .string tx] 47)
          have hgE : w1.heap.size < (w1.alloc (.cells #[.int .i64 4, .int .i32 0, .int .u8 0, .int .u8 0, .int .u8 65, .slice A n c, .string tx] 47)).heap.size := by simp
          have hgB : g < (w1.alloc (.cells #[.int .i64 4, .int .i32 0, .int .u8 0, .int .u8 0, .int .u8 65, .slice A n c, .string tx] 47)).heap.size := by have := hB1.lt; omega
          have HB2 := hide ((hB1.alloc (.cells #[.int .i64 4, .int .i32 0, .int .u8 0, .int .u8 0, .int .u8 65, .slice A n c, .string tx] 47)).below hb2 hgB)
          have HE2 := hide (hE1.below hb2 hgE)
          have HW2 := hide (hbE.trans (hb2.mono hbE.size))
          have HR2 := hide hR
          have hgR' : w.heap.size ≤ gR := by have := hbE.size; omega
          have hgEw : w.heap.size ≤ w1.heap.size := hb1.size
          generalize w1.heap.size = gE at HE2 hgEw ⊢
          clear hE1 hbE hgE hgB hB1 hb1 hb2 hR hgR
          have e0 : w2.cell? ⟨gE, 0, none⟩ = some (.int .i64 4) := HE2.out.cell 0
          have e1 : w2.cell? ⟨gE, 1, none⟩ = some (.int .i32 0) := HE2.out.cell 1
          have e2 : w2.cell? ⟨gE, 2, none⟩ = some (.int .u8 0) := HE2.out.cell 2
          have e3 : w2.cell? ⟨gE, 3, none⟩ = some (.int .u8 0) := HE2.out.cell 3
          have e4 : w2.cell? ⟨gE, 4, none⟩ = some (.int .u8 65) := HE2.out.cell 4
          have e5 : w2.cell? ⟨gE, 5, none⟩ = some (.slice A n c) := HE2.out.cell 5
          have e6 : w2.cell? ⟨gE, 6, none⟩ = some (.string tx) := HE2.out.cell 6
          go_wp2_with fail
          refine (ON.out _ HW2.out).mono ?_
          rintro e w3 ⟨rfl, b3⟩
          have HB3 := hide (HB2.out.below b3 HB2.out.lt)
          have HE3 := hide (HE2.out.below b3 HE2.out.lt)
          have HR3 := hide (HR2.out.below b3 HR2.out.lt)
          have HW3 := hide (HW2.out.trans (b3.mono HW2.out.size))
          clear e0 e1 e2 e3 e4 e5 e6 HB2 HE2 HR2 HW2 b3 ON
          go_upto_region 2 with fail
          have k3 := HB3.out.c3
          go_region
          have HB4 := hide (show SBox w3.drew g x s from Box.drew HB3.out)
          have HE4 := hide (Box.drew HE3.out)
          have HR4 := hide (Box.drew HR3.out)
          have HW4 := hide (HW3.out.drew)
          generalize w3.drew = w4 at HB4 HE4 HR4 HW4 ⊢
          clear k3 HB3 HE3 HR3 HW3
          have k3 := HB4.out.c3
          have k4 := HB4.out.c4
          have k6 := HB4.out.c6
          have k7 := HB4.out.c7
          have e4 : w4.cell? ⟨gE, 4, none⟩ = some (.int .u8 65) := HE4.out.cell 4
          go_simp
          go_step
          go_wp2_with (refine wpList_load_scr HB4.out rfl _ rfl rfl ?_)
          refine (AT.out _).mono ?_
          rintro e w7 ⟨rfl, hb7⟩
          have HR7 := hide (HR4.out.below hb7 HR4.out.lt)
          have HW7 := hide (HW4.out.trans (hb7.mono HW4.out.size))
          clear hb7 k3 k4 k6 k7 e4 HB4 HE4 HR4 HW4
          go_wp2_with (refine wpList_store_scr HR7.out hsR rfl _ _ rfl rfl rfl hx ?_; intro w8 hB8 hk8 hs8)
          refine bodyPost_ret (results_scr_b rfl rfl (.bool true) rfl hB8) rfl ⟨rfl, HW7.out.trans (hk8.toBelow HW7.out.size (fun k hk => by simp at hk; omega))⟩
        · as_aux_lemma =>
          obtain rfl : (s.top : Int) = z := by
            rw [← hz]
            split <;> omega
          clear hz hzb
          go_enter Tryd.func78, Tryd.ntmps78
          go_upto_region 1 with (first | (refine wpList_box_scr rfl _ rfl rfl ?_; intro g w1 hB1 hb1 hg1) | (refine wpList_alloc_scr rfl rfl ?_; intro gR w2 csR hR hsR hb2 hgR))
          have hE1 := Box.new w1 47 #[.int .i64 4, .int .i32 0, .int .u8 0, .int .u8 0, .int .u8 65, .slice A n c, .string tx]
          have hbE := hb1.alloc hb1.size (.cells #[.int .i64 4, .int .i32 0, .int .u8 0, .int .u8 0, .int .u8 65, .slice A n c, .string tx] 47)
          have hgE : w1.heap.size < (w1.alloc (.cells #[.int .i64 4, .int .i32 0, .int .u8 0, .int .u8 0, .int .u8 65, .slice A n c, .string tx] 47)).heap.size := by simp
          have hgB : g < (w1.alloc (.cells #[.int .i64 4, .int .i32 0, .int .u8 0, .int .u8 0, .int .u8 65, .slice A n c, .string tx] 47)).heap.size := by have := hB1.lt; omega
          have HB2 := hide ((hB1.alloc (.cells #[.int .i64 4, .int .i32 0, .int .u8 0, .int .u8 0, .int .u8 65, .slice A n c, .string tx] 47)).below hb2 hgB)
          have HE2 := hide (hE1.below hb2 hgE)
          have HW2 := hide (hbE.trans (hb2.mono hbE.size))
          have HR2 := hide hR
          have hgR' : w.heap.size ≤ gR := by have := hbE.size; omega
          have hgEw : w.heap.size ≤ w1.heap.size := hb1.size
          generalize w1.heap.size = gE at HE2 hgEw ⊢
          clear hE1 hbE hgE hgB hB1 hb1 hb2 hR hgR
          have e0 : w2.cell? ⟨gE, 0, none⟩ = some (.int .i64 4) := HE2.out.cell 0
          have e1 : w2.cell? ⟨gE, 1, none⟩ = some (.int .i32 0) := HE2.out.cell 1
          have e2 : w2.cell? ⟨gE, 2, none⟩ = some (.int .u8 0) := HE2.out.cell 2
          have e3 : w2.cell? ⟨gE, 3, none⟩ = some (.int .u8 0) := HE2.out.cell 3
          have e4 : w2.cell? ⟨gE, 4, none⟩ = some (.int .u8 65) := HE2.out.cell 4
          have e5 : w2.cell? ⟨gE, 5, none⟩ = some (.slice A n c) := HE2.out.cell 5
          have e6 : w2.cell? ⟨gE, 6, none⟩ = some (.string tx) := HE2.out.cell 6
          go_wp2_with fail
          refine (ON.out _ HW2.out).mono ?_
          rintro e w3 ⟨rfl, b3⟩
          have HB3 := hide (HB2.out.below b3 HB2.out.lt)
          have HE3 := hide (HE2.out.below b3 HE2.out.lt)
          have HR3 := hide (HR2.out.below b3 HR2.out.lt)
          have HW3 := hide (HW2.out.trans (b3.mono HW2.out.size))
          clear e0 e1 e2 e3 e4 e5 e6 HB2 HE2 HR2 HW2 b3 ON
          go_upto_region 2 with fail
          have k3 := HB3.out.c3
          go_region
          have HB4 := hide (show SBox w3.drew g x s from Box.drew HB3.out)
          have HE4 := hide (Box.drew HE3.out)
          have HR4 := hide (Box.drew HR3.out)
          have HW4 := hide (HW3.out.drew)
          generalize w3.drew = w4 at HB4 HE4 HR4 HW4 ⊢
          clear k3 HB3 HE3 HR3 HW3
          have k3 := HB4.out.c3
          have k4 := HB4.out.c4
          have k6 := HB4.out.c6
          have k7 := HB4.out.c7
          have e4 : w4.cell? ⟨gE, 4, none⟩ = some (.int .u8 65) := HE4.out.cell 4
          go_simp
          go_step
          go_wp2_with (refine wpList_load_scr HB4.out rfl _ rfl rfl ?_)
          refine (AT.out _).mono ?_
          rintro e w7 ⟨rfl, hb7⟩
          have HR7 := hide (HR4.out.below hb7 HR4.out.lt)
          have HW7 := hide (HW4.out.trans (hb7.mono HW4.out.size))
          clear hb7 k3 k4 k6 k7 e4 HB4 HE4 HR4 HW4
          go_wp2_with (refine wpList_store_scr HR7.out hsR rfl _ _ rfl rfl rfl hx ?_; intro w8 hB8 hk8 hs8)
          refine bodyPost_ret (results_scr_b rfl rfl (.bool true) rfl hB8) rfl ⟨rfl, HW7.out.trans (hk8.toBelow HW7.out.size (fun k hk => by simp at hk; omega))⟩
      · as_aux_lemma =>
        obtain rfl : (s.top : Int) = z := by
          rw [← hz]
          split <;> omega
        clear hz hzb
        go_enter Tryd.func78, Tryd.ntmps78
        go_upto_region 1 with (first | (refine wpList_box_scr rfl _ rfl rfl ?_; intro g w1 hB1 hb1 hg1) | (refine wpList_alloc_scr rfl rfl ?_; intro gR w2 csR hR hsR hb2 hgR))
        have hE1 := Box.new w1 47 #[.int .i64 4, .int .i32 0, .int .u8 0, .int .u8 0, .int .u8 65, .slice A n c, .string tx]
        have hbE := hb1.alloc hb1.size (.cells #[.int .i64 4, .int .i32 0, .int .u8 0, .int .u8 0, .int .u8 65, .slice A n c, .string tx] 47)
        have hgE : w1.heap.size < (w1.alloc (.cells #[.int .i64 4, .int .i32 0, .int .u8 0, .int .u8 0, .int .u8 65, .slice A n c, .string tx] 47)).heap.size := by simp
        have hgB : g < (w1.alloc (.cells #[.int .i64 4, .int .i32 0, .int .u8 0, .int .u8 0, .int .u8 65, .slice A n c, .string tx] 47)).heap.size := by have := hB1.lt; omega
        have HB2 := hide ((hB1.alloc (.cells #[.int .i64 4, .int .i32 0, .int .u8 0, .int .u8 0, .int .u8 65, .slice A n c, .string tx] 47)).below hb2 hgB)
        have HE2 := hide (hE1.below hb2 hgE)
        have HW2 := hide (hbE.trans (hb2.mono hbE.size))
        have HR2 := hide hR
        have hgR' : w.heap.size ≤ gR := by have := hbE.size; omega
        have hgEw : w.heap.size ≤ w1.heap.size := hb1.size
        generalize w1.heap.size = gE at HE2 hgEw ⊢
        clear hE1 hbE hgE hgB hB1 hb1 hb2 hR hgR
        have e0 : w2.cell? ⟨gE, 0, none⟩ = some (.int .i64 4) := HE2.out.cell 0
        have e1 : w2.cell? ⟨gE, 1, none⟩ = some (.int .i32 0) := HE2.out.cell 1
        have e2 : w2.cell? ⟨gE, 2, none⟩ = some (.int .u8 0) := HE2.out.cell 2
        have e3 : w2.cell? ⟨gE, 3, none⟩ = some (.int .u8 0) := HE2.out.cell 3
        have e4 : w2.cell? ⟨gE, 4, none⟩ = some (.int .u8 65) := HE2.out.cell 4
        have e5 : w2.cell? ⟨gE, 5, none⟩ = some (.slice A n c) := HE2.out.cell 5
        have e6 : w2.cell? ⟨gE, 6, none⟩ = some (.string tx) := HE2.out.cell 6
        go_wp2_with fail
        refine (ON.out _ HW2.out).mono ?_
        rintro e w3 ⟨rfl, b3⟩
        have HB3 := hide (HB2.out.below b3 HB2.out.lt)
        have HE3 := hide (HE2.out.below b3 HE2.out.lt)
        have HR3 := hide (HR2.out.below b3 HR2.out.lt)
        have HW3 := hide (HW2.out.trans (b3.mono HW2.out.size))
        clear e0 e1 e2 e3 e4 e5 e6 HB2 HE2 HR2 HW2 b3 ON
        go_upto_region 2 with fail
        have k3 := HB3.out.c3
        go_region
        have HB4 := hide (show SBox w3.drew g x s from Box.drew HB3.out)
        have HE4 := hide (Box.drew HE3.out)
        have HR4 := hide (Box.drew HR3.out)
        have HW4 := hide (HW3.out.drew)
        generalize w3.drew = w4 at HB4 HE4 HR4 HW4 ⊢
        clear k3 HB3 HE3 HR3 HW3
        have k3 := HB4.out.c3
        have k4 := HB4.out.c4
        have k6 := HB4.out.c6
        have k7 := HB4.out.c7
        have e4 : w4.cell? ⟨gE, 4, none⟩ = some (.int .u8 65) := HE4.out.cell 4
        go_simp
        go_step
        go_wp2_with (refine wpList_load_scr HB4.out rfl _ rfl rfl ?_)
        refine (AT.out _).mono ?_
        rintro e w7 ⟨rfl, hb7⟩
        have HR7 := hide (HR4.out.below hb7 HR4.out.lt)
        have HW7 := hide (HW4.out.trans (hb7.mono HW4.out.size))
        clear hb7 k3 k4 k6 k7 e4 HB4 HE4 HR4 HW4
        go_wp2_with (refine wpList_store_scr HR7.out hsR rfl _ _ rfl rfl rfl hx ?_; intro w8 hB8 hk8 hs8)
        refine bodyPost_ret (results_scr_b rfl rfl (.bool true) rfl hB8) rfl ⟨rfl, HW7.out.trans (hk8.toBelow HW7.out.size (fun k hk => by simp at hk; omega))⟩
    · skip
      by_cases hb2 : s.row ≤ s.bot
      · by_cases hc2 : (s.bot : Int) < (s.row : Int) + m
        · as_aux_lemma =>
          obtain rfl : (s.row : Int) - m = z := by
            rw [← hz]
            split <;> omega
          clear hz hzb
          go_enter Tryd.func78, Tryd.ntmps78
          go_upto_region 1 with (first | (refine wpList_box_scr rfl _ rfl rfl ?_; intro g w1 hB1 hb1 hg1) | (refine wpList_alloc_scr rfl rfl ?_; intro gR w2 csR hR hsR hb2 hgR))
          have hE1 := Box.new w1 47 #[.int .i64 4, .int .i32 0, .int .u8 0, .int .u8 0, .int .u8 65, .slice A n c, .string tx]
          have hbE := hb1.alloc hb1.size (.cells #[.int .i64 4, .int .i32 0, .int .u8 0, .int .u8 0, .int .u8 65, .slice A n c, .string tx] 47)
          have hgE : w1.heap.size < (w1.alloc (.cells #[.int .i64 4, .int .i32 0, .int .u8 0, .int .u8 0, .int .u8 65, .slice A n c, .string tx] 47)).heap.size := by simp
          have hgB : g < (w1.alloc (.cells #[.int .i64 4, .int .i32 0, .int .u8 0, .int .u8 0, .int .u8 65, .slice A n c, .string tx] 47)).heap.size := by have := hB1.lt; omega
          have HB2 := hide ((hB1.alloc (.cells #[.int .i64 4, .int .i32 0, .int .u8 0, .int .u8 0, .int .u8 65, .slice A n c, .string tx] 47)).below hb2 hgB)
          have HE2 := hide (hE1.below hb2 hgE)
          have HW2 := hide (hbE.trans (hb2.mono hbE.size))
          have HR2 := hide hR
          have hgR' : w.heap.size ≤ gR := by have := hbE.size; omega
          have hgEw : w.heap.size ≤ w1.heap.size := hb1.size
          generalize w1.heap.size = gE at HE2 hgEw ⊢
          clear hE1 hbE hgE hgB hB1 hb1 hb2 hR hgR
          have e0 : w2.cell? ⟨gE, 0, none⟩ = some (.int .i64 4) := HE2.out.cell 0
          have e1 : w2.cell? ⟨gE, 1, none⟩ = some (.int .i32 0) := HE2.out.cell 1
          have e2 : w2.cell? ⟨gE, 2, none⟩ = some (.int .u8 0) := HE2.out.cell 2
          have e3 : w2.cell? ⟨gE, 3, none⟩ = some (.int .u8 0) := HE2.out.cell 3
          have e4 : w2.cell? ⟨gE, 4, none⟩ = some (.int .u8 65) := HE2.out.cell 4
          have e5 : w2.cell? ⟨gE, 5, none⟩ = some (.slice A n c) := HE2.out.cell 5
          have e6 : w2.cell? ⟨gE, 6, none⟩ = some (.string tx) := HE2.out.cell 6
          go_wp2_with fail
          refine (ON.out _ HW2.out).mono ?_
          rintro e w3 ⟨rfl, b3⟩
          have HB3 := hide (HB2.out.below b3 HB2.out.lt)
          have HE3 := hide (HE2.out.below b3 HE2.out.lt)
          have HR3 := hide (HR2.out.below b3 HR2.out.lt)
          have HW3 := hide (HW2.out.trans (b3.mono HW2.out.size))
          clear e0 e1 e2 e3 e4 e5 e6 HB2 HE2 HR2 HW2 b3 ON
          go_upto_region 2 with fail
          have k3 := HB3.out.c3
          go_region
          have HB4 := hide (show SBox w3.drew g x s from Box.drew HB3.out)
          have HE4 := hide (Box.drew HE3.out)
          have HR4 := hide (Box.drew HR3.out)
          have HW4 := hide (HW3.out.drew)
          generalize w3.drew = w4 at HB4 HE4 HR4 HW4 ⊢
          clear k3 HB3 HE3 HR3 HW3
          have k3 := HB4.out.c3
          have k4 := HB4.out.c4
          have k6 := HB4.out.c6
          have k7 := HB4.out.c7
          have e4 : w4.cell? ⟨gE, 4, none⟩ = some (.int .u8 65) := HE4.out.cell 4
          go_simp
          go_step
          go_wp2_with (refine wpList_load_scr HB4.out rfl _ rfl rfl ?_)
          refine (AT.out _).mono ?_
          rintro e w7 ⟨rfl, hb7⟩
          have HR7 := hide (HR4.out.below hb7 HR4.out.lt)
          have HW7 := hide (HW4.out.trans (hb7.mono HW4.out.size))
          clear hb7 k3 k4 k6 k7 e4 HB4 HE4 HR4 HW4
          go_wp2_with (refine wpList_store_scr HR7.out hsR rfl _ _ rfl rfl rfl hx ?_; intro w8 hB8 hk8 hs8)
          refine bodyPost_ret (results_scr_b rfl rfl (.bool true) rfl hB8) rfl ⟨rfl, HW7.out.trans (hk8.toBelow HW7.out.size (fun k hk => by simp at hk; omega))⟩
        · as_aux_lemma =>
          obtain rfl : (s.row : Int) - m = z := by
            rw [← hz]
            split <;> omega
          clear hz hzb
          go_enter Tryd.func78, Tryd.ntmps78
          go_upto_region 1 with (first | (refine wpList_box_scr rfl _ rfl rfl ?_; intro g w1 hB1 hb1 hg1) | (refine wpList_alloc_scr rfl rfl ?_; intro gR w2 csR hR hsR hb2 hgR))
          have hE1 := Box.new w1 47 #[.int .i64 4, .int .i32 0, .int .u8 0, .int .u8 0, .int .u8 65, .slice A n c, .string tx]
          have hbE := hb1.alloc hb1.size (.cells #[.int .i64 4, .int .i32 0, .int .u8 0, .int .u8 0, .int .u8 65, .slice A n c, .string tx] 47)
          have hgE : w1.heap.size < (w1.alloc (.cells #[.int .i64 4, .int .i32 0, .int .u8 0, .int .u8 0, .int .u8 65, .slice A n c, .string tx] 47)).heap.size := by simp
          have hgB : g < (w1.alloc (.cells #[.int .i64 4, .int .i32 0, .int .u8 0, .int .u8 0, .int .u8 65, .slice A n c, .string tx] 47)).heap.size := by have := hB1.lt; omega
          have HB2 := hide ((hB1.alloc (.cells #[.int .i64 4, .int .i32 0, .int .u8 0, .int .u8 0, .int .u8 65, .slice A n c, .string tx] 47)).below hb2 hgB)
          have HE2 := hide (hE1.below hb2 hgE)
          have HW2 := hide (hbE.trans (hb2.mono hbE.size))
          have HR2 := hide hR
          have hgR' : w.heap.size ≤ gR := by have := hbE.size; omega
          have hgEw : w.heap.size ≤ w1.heap.size := hb1.size
          generalize w1.heap.size = gE at HE2 hgEw ⊢
          clear hE1 hbE hgE hgB hB1 hb1 hb2 hR hgR
          have e0 : w2.cell? ⟨gE, 0, none⟩ = some (.int .i64 4) := HE2.out.cell 0
          have e1 : w2.cell? ⟨gE, 1, none⟩ = some (.int .i32 0) := HE2.out.cell 1
          have e2 : w2.cell? ⟨gE, 2, none⟩ = some (.int .u8 0) := HE2.out.cell 2
          have e3 : w2.cell? ⟨gE, 3, none⟩ = some (.int .u8 0) := HE2.out.cell 3
          have e4 : w2.cell? ⟨gE, 4, none⟩ = some (.int .u8 65) := HE2.out.cell 4
          have e5 : w2.cell? ⟨gE, 5, none⟩ = some (.slice A n c) := HE2.out.cell 5
          have e6 : w2.cell? ⟨gE, 6, none⟩ = some (.string tx) := HE2.out.cell 6
          go_wp2_with fail
          refine (ON.out _ HW2.out).mono ?_
          rintro e w3 ⟨rfl, b3⟩
          have HB3 := hide (HB2.out.below b3 HB2.out.lt)
          have HE3 := hide (HE2.out.below b3 HE2.out.lt)
          have HR3 := hide (HR2.out.below b3 HR2.out.lt)
          have HW3 := hide (HW2.out.trans (b3.mono HW2.out.size))
          clear e0 e1 e2 e3 e4 e5 e6 HB2 HE2 HR2 HW2 b3 ON
          go_upto_region 2 with fail
          have k3 := HB3.out.c3
          go_region
          have HB4 := hide (show SBox w3.drew g x s from Box.drew HB3.out)
          have HE4 := hide (Box.drew HE3.out)
          have HR4 := hide (Box.drew HR3.out)
          have HW4 := hide (HW3.out.drew)
          generalize w3.drew = w4 at HB4 HE4 HR4 HW4 ⊢
          clear k3 HB3 HE3 HR3 HW3
          have k3 := HB4.out.c3
          have k4 := HB4.out.c4
          have k6 := HB4.out.c6
          have k7 := HB4.out.c7
          have e4 : w4.cell? ⟨gE, 4, none⟩ = some (.int .u8 65) := HE4.out.cell 4
          go_simp
          go_step
          go_wp2_with (refine wpList_load_scr HB4.out rfl _ rfl rfl ?_)
          refine (AT.out _).mono ?_
          rintro e w7 ⟨rfl, hb7⟩
          have HR7 := hide (HR4.out.below hb7 HR4.out.lt)
          have HW7 := hide (HW4.out.trans (hb7.mono HW4.out.size))
          clear hb7 k3 k4 k6 k7 e4 HB4 HE4 HR4 HW4
          go_wp2_with (refine wpList_store_scr HR7.out hsR rfl _ _ rfl rfl rfl hx ?_; intro w8 hB8 hk8 hs8)
          refine bodyPost_ret (results_scr_b rfl rfl (.bool true) rfl hB8) rfl ⟨rfl, HW7.out.trans (hk8.toBelow HW7.out.size (fun k hk => by simp at hk; omega))⟩
      · as_aux_lemma =>
        obtain rfl : (s.row : Int) - m = z := by
          rw [← hz]
          split <;> omega
        clear hz hzb
        go_enter Tryd.func78, Tryd.ntmps78
        go_upto_region 1 with (first | (refine wpList_box_scr rfl _ rfl rfl ?_; intro g w1 hB1 hb1 hg1) | (refine wpList_alloc_scr rfl rfl ?_; intro gR w2 csR hR hsR hb2 hgR))
        have hE1 := Box.new w1 47 #[.int .i64 4, .int .i32 0, .int .u8 0, .int .u8 0, .int .u8 65, .slice A n c, .string tx]
        have hbE := hb1.alloc hb1.size (.cells #[.int .i64 4, .int .i32 0, .int .u8 0, .int .u8 0, .int .u8 65, .slice A n c, .string tx] 47)
        have hgE : w1.heap.size < (w1.alloc (.cells #[.int .i64 4, .int .i32 0, .int .u8 0, .int .u8 0, .int .u8 65, .slice A n c, .string tx] 47)).heap.size := by simp
        have hgB : g < (w1.alloc (.cells #[.int .i64 4, .int .i32 0, .int .u8 0, .int .u8 0, .int .u8 65, .slice A n c, .string tx] 47)).heap.size := by have := hB1.lt; omega
        have HB2 := hide ((hB1.alloc (.cells #[.int .i64 4, .int .i32 0, .int .u8 0, .int .u8 0, .int .u8 65, .slice A n c, .string tx] 47)).below hb2 hgB)
        have HE2 := hide (hE1.below hb2 hgE)
        have HW2 := hide (hbE.trans (hb2.mono hbE.size))
        have HR2 := hide hR
        have hgR' : w.heap.size ≤ gR := by have := hbE.size; omega
        have hgEw : w.heap.size ≤ w1.heap.size := hb1.size
        generalize w1.heap.size = gE at HE2 hgEw ⊢
        clear hE1 hbE hgE hgB hB1 hb1 hb2 hR hgR
        have e0 : w2.cell? ⟨gE, 0, none⟩ = some (.int .i64 4) := HE2.out.cell 0
        have e1 : w2.cell? ⟨gE, 1, none⟩ = some (.int .i32 0) := HE2.out.cell 1
        have e2 : w2.cell? ⟨gE, 2, none⟩ = some (.int .u8 0) := HE2.out.cell 2
        have e3 : w2.cell? ⟨gE, 3, none⟩ = some (.int .u8 0) := HE2.out.cell 3
        have e4 : w2.cell? ⟨gE, 4, none⟩ = some (.int .u8 65) := HE2.out.cell 4
        have e5 : w2.cell? ⟨gE, 5, none⟩ = some (.slice A n c) := HE2.out.cell 5
        have e6 : w2.cell? ⟨gE, 6, none⟩ = some (.string tx) := HE2.out.cell 6
        go_wp2_with fail
        refine (ON.out _ HW2.out).mono ?_
        rintro e w3 ⟨rfl, b3⟩
        have HB3 := hide (HB2.out.below b3 HB2.out.lt)
        have HE3 := hide (HE2.out.below b3 HE2.out.lt)
        have HR3 := hide (HR2.out.below b3 HR2.out.lt)
        have HW3 := hide (HW2.out.trans (b3.mono HW2.out.size))
        clear e0 e1 e2 e3 e4 e5 e6 HB2 HE2 HR2 HW2 b3 ON
        go_upto_region 2 with fail
        have k3 := HB3.out.c3
        go_region
        have HB4 := hide (show SBox w3.drew g x s from Box.drew HB3.out)
        have HE4 := hide (Box.drew HE3.out)
        have HR4 := hide (Box.drew HR3.out)
        have HW4 := hide (HW3.out.drew)
        generalize w3.drew = w4 at HB4 HE4 HR4 HW4 ⊢
        clear k3 HB3 HE3 HR3 HW3
        have k3 := HB4.out.c3
        have k4 := HB4.out.c4
        have k6 := HB4.out.c6
        have k7 := HB4.out.c7
        have e4 : w4.cell? ⟨gE, 4, none⟩ = some (.int .u8 65) := HE4.out.cell 4
        go_simp
        go_step
        go_wp2_with (refine wpList_load_scr HB4.out rfl _ rfl rfl ?_)
        refine (AT.out _).mono ?_
        rintro e w7 ⟨rfl, hb7⟩
        have HR7 := hide (HR4.out.below hb7 HR4.out.lt)
        have HW7 := hide (HW4.out.trans (hb7.mono HW4.out.size))
        clear hb7 k3 k4 k6 k7 e4 HB4 HE4 HR4 HW4
        go_wp2_with (refine wpList_store_scr HR7.out hsR rfl _ _ rfl rfl rfl hx ?_; intro w8 hB8 hk8 hs8)
        refine bodyPost_ret (results_scr_b rfl rfl (.bool true) rfl hB8) rfl ⟨rfl, HW7.out.trans (hk8.toBelow HW7.out.size (fun k hk => by simp at hk; omega))⟩
  · skip
    by_cases hb2 : s.row ≤ s.bot
    · by_cases hc2 : (s.bot : Int) < (s.row : Int) + m
      · as_aux_lemma =>
        obtain rfl : (s.row : Int) - m = z := by
          rw [← hz]
          split <;> omega
        clear hz hzb
        go_enter Tryd.func78, Tryd.ntmps78
        go_upto_region 1 with (first | (refine wpList_box_scr rfl _ rfl rfl ?_; intro g w1 hB1 hb1 hg1) | (refine wpList_alloc_scr rfl rfl ?_; intro gR w2 csR hR hsR hb2 hgR))
        have hE1 := Box.new w1 47 #[.int .i64 4, .int .i32 0, .int .u8 0, .int .u8 0, .int .u8 65, .slice A n c, .string tx]
        have hbE := hb1.alloc hb1.size (.cells #[.int .i64 4, .int .i32 0, .int .u8 0, .int .u8 0, .int .u8 65, .slice A n c, .string tx] 47)
        have hgE : w1.heap.size < (w1.alloc (.cells #[.int .i64 4, .int .i32 0, .int .u8 0, .int .u8 0, .int .u8 65, .slice A n c, .string tx] 47)).heap.size := by simp
        have hgB : g < (w1.alloc (.cells #[.int .i64 4, .int .i32 0, .int .u8 0, .int .u8 0, .int .u8 65, .slice A n c, .string tx] 47)).heap.size := by have := hB1.lt; omega
        have HB2 := hide ((hB1.alloc (.cells #[.int .i64 4, .int .i32 0, .int .u8 0, .int .u8 0, .int .u8 65, .slice A n c, .string tx] 47)).below hb2 hgB)
        have HE2 := hide (hE1.below hb2 hgE)
        have HW2 := hide (hbE.trans (hb2.mono hbE.size))
        have HR2 := hide hR
        have hgR' : w.heap.size ≤ gR := by have := hbE.size; omega
        have hgEw : w.heap.size ≤ w1.heap.size := hb1.size
        generalize w1.heap.size = gE at HE2 hgEw ⊢
        clear hE1 hbE hgE hgB hB1 hb1 hb2 hR hgR
        have e0 : w2.cell? ⟨gE, 0, none⟩ = some (.int .i64 4) := HE2.out.cell 0
        have e1 : w2.cell? ⟨gE, 1, none⟩ = some (.int .i32 0) := HE2.out.cell 1
        have e2 : w2.cell? ⟨gE, 2, none⟩ = some (.int .u8 0) := HE2.out.cell 2
        have e3 : w2.cell? ⟨gE, 3, none⟩ = some (.int .u8 0) := HE2.out.cell 3
        have e4 : w2.cell? ⟨gE, 4, none⟩ = some (.int .u8 65) := HE2.out.cell 4
        have e5 : w2.cell? ⟨gE, 5, none⟩ = some (.slice A n c) := HE2.out.cell 5
        have e6 : w2.cell? ⟨gE, 6, none⟩ = some (.string tx) := HE2.out.cell 6
        go_wp2_with fail
        refine (ON.out _ HW2.out).mono ?_
        rintro e w3 ⟨rfl, b3⟩
        have HB3 := hide (HB2.out.below b3 HB2.out.lt)
        have HE3 := hide (HE2.out.below b3 HE2.out.lt)
        have HR3 := hide (HR2.out.below b3 HR2.out.lt)
        have HW3 := hide (HW2.out.trans (b3.mono HW2.out.size))
        clear e0 e1 e2 e3 e4 e5 e6 HB2 HE2 HR2 HW2 b3 ON
        go_upto_region 2 with fail
        have k3 := HB3.out.c3
        go_region
        have HB4 := hide (show SBox w3.drew g x s from Box.drew HB3.out)
        have HE4 := hide (Box.drew HE3.out)
        have HR4 := hide (Box.drew HR3.out)
        have HW4 := hide (HW3.out.drew)
        generalize w3.drew = w4 at HB4 HE4 HR4 HW4 ⊢
        clear k3 HB3 HE3 HR3 HW3
        have k3 := HB4.out.c3
        have k4 := HB4.out.c4
        have k6 := HB4.out.c6
        have k7 := HB4.out.c7
        have e4 : w4.cell? ⟨gE, 4, none⟩ = some (.int .u8 65) := HE4.out.cell 4
        go_simp
        go_step
        go_wp2_with (refine wpList_load_scr HB4.out rfl _ rfl rfl ?_)
        refine (AT.out _).mono ?_
        rintro e w7 ⟨rfl, hb7⟩
        have HR7 := hide (HR4.out.below hb7 HR4.out.lt)
        have HW7 := hide (HW4.out.trans (hb7.mono HW4.out.size))
        clear hb7 k3 k4 k6 k7 e4 HB4 HE4 HR4 HW4
        go_wp2_with (refine wpList_store_scr HR7.out hsR rfl _ _ rfl rfl rfl hx ?_; intro w8 hB8 hk8 hs8)
        refine bodyPost_ret (results_scr_b rfl rfl (.bool true) rfl hB8) rfl ⟨rfl, HW7.out.trans (hk8.toBelow HW7.out.size (fun k hk => by simp at hk; omega))⟩
      · as_aux_lemma =>
        obtain rfl : (s.row : Int) - m = z := by
          rw [← hz]
          split <;> omega
        clear hz hzb
        go_enter Tryd.func78, Tryd.ntmps78
        go_upto_region 1 with (first | (refine wpList_box_scr rfl _ rfl rfl ?_; intro g w1 hB1 hb1 hg1) | (refine wpList_alloc_scr rfl rfl ?_; intro gR w2 csR hR hsR hb2 hgR))
        have hE1 := Box.new w1 47 #[.int .i64 4, .int .i32 0, .int .u8 0, .int .u8 0, .int .u8 65, .slice A n c, .string tx]
        have hbE := hb1.alloc hb1.size (.cells #[.int .i64 4, .int .i32 0, .int .u8 0, .int .u8 0, .int .u8 65, .slice A n c, .string tx] 47)
        have hgE : w1.heap.size < (w1.alloc (.cells #[.int .i64 4, .int .i32 0, .int .u8 0, .int .u8 0, .int .u8 65, .slice A n c, .string tx] 47)).heap.size := by simp
        have hgB : g < (w1.alloc (.cells #[.int .i64 4, .int .i32 0, .int .u8 0, .int .u8 0, .int .u8 65, .slice A n c, .string tx] 47)).heap.size := by have := hB1.lt; omega
        have HB2 := hide ((hB1.alloc (.cells #[.int .i64 4, .int .i32 0, .int .u8 0, .int .u8 0, .int .u8 65, .slice A n c, .string tx] 47)).below hb2 hgB)
        have HE2 := hide (hE1.below hb2 hgE)
        have HW2 := hide (hbE.trans (hb2.mono hbE.size))
        have HR2 := hide hR
        have hgR' : w.heap.size ≤ gR := by have := hbE.size; omega
        have hgEw : w.heap.size ≤ w1.heap.size := hb1.size
        generalize w1.heap.size = gE at HE2 hgEw ⊢
        clear hE1 hbE hgE hgB hB1 hb1 hb2 hR hgR
        have e0 : w2.cell? ⟨gE, 0, none⟩ = some (.int .i64 4) := HE2.out.cell 0
        have e1 : w2.cell? ⟨gE, 1, none⟩ = some (.int .i32 0) := HE2.out.cell 1
        have e2 : w2.cell? ⟨gE, 2, none⟩ = some (.int .u8 0) := HE2.out.cell 2
        have e3 : w2.cell? ⟨gE, 3, none⟩ = some (.int .u8 0) := HE2.out.cell 3
        have e4 : w2.cell? ⟨gE, 4, none⟩ = some (.int .u8 65) := HE2.out.cell 4
        have e5 : w2.cell? ⟨gE, 5, none⟩ = some (.slice A n c) := HE2.out.cell 5
        have e6 : w2.cell? ⟨gE, 6, none⟩ = some (.string tx) := HE2.out.cell 6
        go_wp2_with fail
        refine (ON.out _ HW2.out).mono ?_
        rintro e w3 ⟨rfl, b3⟩
        have HB3 := hide (HB2.out.below b3 HB2.out.lt)
        have HE3 := hide (HE2.out.below b3 HE2.out.lt)
        have HR3 := hide (HR2.out.below b3 HR2.out.lt)
        have HW3 := hide (HW2.out.trans (b3.mono HW2.out.size))
        clear e0 e1 e2 e3 e4 e5 e6 HB2 HE2 HR2 HW2 b3 ON
        go_upto_region 2 with fail
        have k3 := HB3.out.c3
        go_region
        have HB4 := hide (show SBox w3.drew g x s from Box.drew HB3.out)
        have HE4 := hide (Box.drew HE3.out)
        have HR4 := hide (Box.drew HR3.out)
        have HW4 := hide (HW3.out.drew)
        generalize w3.drew = w4 at HB4 HE4 HR4 HW4 ⊢
        clear k3 HB3 HE3 HR3 HW3
        have k3 := HB4.out.c3
        have k4 := HB4.out.c4
        have k6 := HB4.out.c6
        have k7 := HB4.out.c7
        have e4 : w4.cell? ⟨gE, 4, none⟩ = some (.int .u8 65) := HE4.out.cell 4
        go_simp
        go_step
        go_wp2_with (refine wpList_load_scr HB4.out rfl _ rfl rfl ?_)
        refine (AT.out _).mono ?_
        rintro e w7 ⟨rfl, hb7⟩
        have HR7 := hide (HR4.out.below hb7 HR4.out.lt)
        have HW7 := hide (HW4.out.trans (hb7.mono HW4.out.size))
        clear hb7 k3 k4 k6 k7 e4 HB4 HE4 HR4 HW4
        go_wp2_with (refine wpList_store_scr HR7.out hsR rfl _ _ rfl rfl rfl hx ?_; intro w8 hB8 hk8 hs8)
        refine bodyPost_ret (results_scr_b rfl rfl (.bool true) rfl hB8) rfl ⟨rfl, HW7.out.trans (hk8.toBelow HW7.out.size (fun k hk => by simp at hk; omega))⟩
    · exact absurd htop (by omega)
set_option maxHeartbeats 16000000 in
theorem rmoves_down (x : Value) (s t : SN.Sc) (tx : ByteArray) (A : Option Addr) (n c B m : Nat) (l : List Int) (w : World) (hx : x.oneCell' = true) (hs : SN.RightS s) (hl : Seen w B A n (l.map (Value.int .i64))) (hB : B ≤ w.heap.size) (hn : n ≤ 100) (hnc : n ≤ c) (hm : oneL l 0 1 = m) (hm1 : m ≤ 1073741825) (ht : SN.downS s m = t) :
    Calls Tryd.prog 78 #[.agg (scA x s), .agg #[.int .i64 4, .int .i32 0, .int .u8 0, .int .u8 0, .int .u8 66, .slice A n c, .string tx]] w fun e w' => e = .returned (.tuple #[.agg (scA x t), .bool true]) ∧ Below w.heap.size w w' := by
  have hgr := hs.g.2.1
  have hgc := hs.g.2.2.2.1
  have hrow := hs.row
  have hcol := hs.col
  have htop := SN.top_bot hs
  have hbot := hs.bot
  have ON := hide (fun w' (hb : Below w.heap.size w w') => rone_is 66 tx A n c B l 0 1 m w' (hl.below (hb.mono hB)) (Nat.le_trans hB hb.size) hn hnc (by omega) hm)
  unfold SN.downS at ht
  obtain ⟨z, hz⟩ : ∃ z, SN.downR s m = z := ⟨_, rfl⟩
  rw [hz] at ht
  unfold SN.downR at hz
  have hzb : -1099511627776 ≤ z ∧ z ≤ 1099511627776 := by
    rw [← hz]
    split <;> omega
  have AT := hide (fun w' => rat_is x s t z s.col w' hx hs.g.1 (by omega) hs.g.2.2.1 (by omega) hzb (by omega) ht)
  clear ht hl hm hs
  by_cases hb1 : s.top ≤ s.row
  · by_cases hc1 : (s.row : Int) - m < s.top
    · skip
      by_cases hb2 : s.row ≤ s.bot
      · by_cases hc2 : (s.bot : Int) < (s.row : Int) + m
        · as_aux_lemma =>
          obtain rfl : (s.bot : Int) = z := by
            rw [← hz]
            split <;> omega
          clear hz hzb
          go_enter Tryd.func78, Tryd.ntmps78
          go_upto_region 1 with (first | (refine wpList_box_scr rfl _ rfl rfl ?_; intro g w1 hB1 hb1 hg1) | (refine wpList_alloc_scr rfl rfl ?_; intro gR w2 csR hR hsR hb2 hgR))
          have hE1 := Box.new w1 47 #[.int .i64 4, .int .i32 0, .int .u8 0, .int .u8 0, .int .u8 66, .slice A n c, .string tx]
          have hbE := hb1.alloc hb1.size (.cells #[.int .i64 4, .int .i32 0, .int .u8 0, .int .u8 0, .int .u8 66, .slice A n c, .string tx] 47)
          have hgE : w1.heap.size < (w1.alloc (.cells #[.int .i64 4, .int .i32 0, .int .u8 0, .int .u8 0, .int .u8 66, .slice A n c, .string tx] 47)).heap.size := by simp
          have hgB : g < (w1.alloc (.cells #[.int .i64 4, .int .i32 0, .int .u8 0, .int .u8 0, .int .u8 66, .slice A n c, .string tx] 47)).heap.size := by have := hB1.lt; omega
          have HB2 := hide ((hB1.alloc (.cells #[.int .i64 4, .int .i32 0, .int .u8 0, .int .u8 0, .int .u8 66, .slice A n c, .string tx] 47)).below hb2 hgB)
          have HE2 := hide (hE1.below hb2 hgE)
          have HW2 := hide (hbE.trans (hb2.mono hbE.size))
          have HR2 := hide hR
          have hgR' : w.heap.size ≤ gR := by have := hbE.size; omega
          have hgEw : w.heap.size ≤ w1.heap.size := hb1.size
          generalize w1.heap.size = gE at HE2 hgEw ⊢
          clear hE1 hbE hgE hgB hB1 hb1 hb2 hR hgR
          have e0 : w2.cell? ⟨gE, 0, none⟩ = some (.int .i64 4) := HE2.out.cell 0
          have e1 : w2.cell? ⟨gE, 1, none⟩ = some (.int .i32 0) := HE2.out.cell 1
          have e2 : w2.cell? ⟨gE, 2, none⟩ = some (.int .u8 0) := HE2.out.cell 2
          have e3 : w2.cell? ⟨gE, 3, none⟩ = some (.int .u8 0) := HE2.out.cell 3
          have e4 : w2.cell? ⟨gE, 4, none⟩ = some (.int .u8 66) := HE2.out.cell 4
          have e5 : w2.cell? ⟨gE, 5, none⟩ = some (.slice A n c) := HE2.out.cell 5
          have e6 : w2.cell? ⟨gE, 6, none⟩ = some (.string tx) := HE2.out.cell 6
          go_wp2_with fail
          refine (ON.out _ HW2.out).mono ?_
          rintro e w3 ⟨rfl, b3⟩
          have HB3 := hide (HB2.out.below b3 HB2.out.lt)
          have HE3 := hide (HE2.out.below b3 HE2.out.lt)
          have HR3 := hide (HR2.out.below b3 HR2.out.lt)
          have HW3 := hide (HW2.out.trans (b3.mono HW2.out.size))
          clear e0 e1 e2 e3 e4 e5 e6 HB2 HE2 HR2 HW2 b3 ON
          go_upto_region 2 with fail
          have k3 := HB3.out.c3
          go_region
          have HB4 := hide (show SBox w3.drew g x s from Box.drew HB3.out)
          have HE4 := hide (Box.drew HE3.out)
          have HR4 := hide (Box.drew HR3.out)
          have HW4 := hide (HW3.out.drew)
          generalize w3.drew = w4 at HB4 HE4 HR4 HW4 ⊢
          clear k3 HB3 HE3 HR3 HW3
          have k3 := HB4.out.c3
          have k4 := HB4.out.c4
          have k6 := HB4.out.c6
          have k7 := HB4.out.c7
          have e4 : w4.cell? ⟨gE, 4, none⟩ = some (.int .u8 66) := HE4.out.cell 4
          go_simp
          go_step
          go_wp2_with (refine wpList_load_scr HB4.out rfl _ rfl rfl ?_)
          refine (AT.out _).mono ?_
          rintro e w7 ⟨rfl, hb7⟩
          have HR7 := hide (HR4.out.below hb7 HR4.out.lt)
          have HW7 := hide (HW4.out.trans (hb7.mono HW4.out.size))
          clear hb7 k3 k4 k6 k7 e4 HB4 HE4 HR4 HW4
          go_wp2_with (refine wpList_store_scr HR7.out hsR rfl _ _ rfl rfl rfl hx ?_; intro w8 hB8 hk8 hs8)
          refine bodyPost_ret (results_scr_b rfl rfl (.bool true) rfl hB8) rfl ⟨rfl, HW7.out.trans (hk8.toBelow HW7.out.size (fun k hk => by simp at hk; omega))⟩
        · as_aux_lemma =>
          obtain rfl : (s.row : Int) + m = z := by
            rw [← hz]
            split <;> omega
          clear hz hzb
          go_enter Tryd.func78, Tryd.ntmps78
          go_upto_region 1 with (first | (refine wpList_box_scr rfl _ rfl rfl ?_; intro g w1 hB1 hb1 hg1) | (refine wpList_alloc_scr rfl rfl ?_; intro gR w2 csR hR hsR hb2 hgR))
          have hE1 := Box.new w1 47 #[.int .i64 4, .int .i32 0, .int .u8 0, .int .u8 0, .int .u8 66, .slice A n c, .string tx]
          have hbE := hb1.alloc hb1.size (.cells #[.int .i64 4, .int .i32 0, .int .u8 0, .int .u8 0, .int .u8 66, .slice A n c, .string tx] 47)
          have hgE : w1.heap.size < (w1.alloc (.cells #[.int .i64 4, .int .i32 0, .int .u8 0, .int .u8 0, .int .u8 66, .slice A n c, .string tx] 47)).heap.size := by simp
          have hgB : g < (w1.alloc (.cells #[.int .i64 4, .int .i32 0, .int .u8 0, .int .u8 0, .int .u8 66, .slice A n c, .string tx] 47)).heap.size := by have := hB1.lt; omega
          have HB2 := hide ((hB1.alloc (.cells #[.int .i64 4, .int .i32 0, .int .u8 0, .int .u8 0, .int .u8 66, .slice A n c, .string tx] 47)).below hb2 hgB)
          have HE2 := hide (hE1.below hb2 hgE)
          have HW2 := hide (hbE.trans (hb2.mono hbE.size))
          have HR2 := hide hR
          have hgR' : w.heap.size ≤ gR := by have := hbE.size; omega
          have hgEw : w.heap.size ≤ w1.heap.size := hb1.size
          generalize w1.heap.size = gE at HE2 hgEw ⊢
          clear hE1 hbE hgE hgB hB1 hb1 hb2 hR hgR
          have e0 : w2.cell? ⟨gE, 0, none⟩ = some (.int .i64 4) := HE2.out.cell 0
          have e1 : w2.cell? ⟨gE, 1, none⟩ = some (.int .i32 0) := HE2.out.cell 1
          have e2 : w2.cell? ⟨gE, 2, none⟩ = some (.int .u8 0) := HE2.out.cell 2
          have e3 : w2.cell? ⟨gE, 3, none⟩ = some (.int .u8 0) := HE2.out.cell 3
          have e4 : w2.cell? ⟨gE, 4, none⟩ = some (.int .u8 66) := HE2.out.cell 4
          have e5 : w2.cell? ⟨gE, 5, none⟩ = some (.slice A n c) := HE2.out.cell 5
          have e6 : w2.cell? ⟨gE, 6, none⟩ = some (.string tx) := HE2.out.cell 6
          go_wp2_with fail
          refine (ON.out _ HW2.out).mono ?_
          rintro e w3 ⟨rfl, b3⟩
          have HB3 := hide (HB2.out.below b3 HB2.out.lt)
          have HE3 := hide (HE2.out.below b3 HE2.out.lt)
          have HR3 := hide (HR2.out.below b3 HR2.out.lt)
          have HW3 := hide (HW2.out.trans (b3.mono HW2.out.size))
          clear e0 e1 e2 e3 e4 e5 e6 HB2 HE2 HR2 HW2 b3 ON
          go_upto_region 2 with fail
          have k3 := HB3.out.c3
          go_region
          have HB4 := hide (show SBox w3.drew g x s from Box.drew HB3.out)
          have HE4 := hide (Box.drew HE3.out)
          have HR4 := hide (Box.drew HR3.out)
          have HW4 := hide (HW3.out.drew)
          generalize w3.drew = w4 at HB4 HE4 HR4 HW4 ⊢
          clear k3 HB3 HE3 HR3 HW3
          have k3 := HB4.out.c3
          have k4 := HB4.out.c4
          have k6 := HB4.out.c6
          have k7 := HB4.out.c7
          have e4 : w4.cell? ⟨gE, 4, none⟩ = some (.int .u8 66) := HE4.out.cell 4
          go_simp
          go_step
          go_wp2_with (refine wpList_load_scr HB4.out rfl _ rfl rfl ?_)
          refine (AT.out _).mono ?_
          rintro e w7 ⟨rfl, hb7⟩
          have HR7 := hide (HR4.out.below hb7 HR4.out.lt)
          have HW7 := hide (HW4.out.trans (hb7.mono HW4.out.size))
          clear hb7 k3 k4 k6 k7 e4 HB4 HE4 HR4 HW4
          go_wp2_with (refine wpList_store_scr HR7.out hsR rfl _ _ rfl rfl rfl hx ?_; intro w8 hB8 hk8 hs8)
          refine bodyPost_ret (results_scr_b rfl rfl (.bool true) rfl hB8) rfl ⟨rfl, HW7.out.trans (hk8.toBelow HW7.out.size (fun k hk => by simp at hk; omega))⟩
      · as_aux_lemma =>
        obtain rfl : (s.row : Int) + m = z := by
          rw [← hz]
          split <;> omega
        clear hz hzb
        go_enter Tryd.func78, Tryd.ntmps78
        go_upto_region 1 with (first | (refine wpList_box_scr rfl _ rfl rfl ?_; intro g w1 hB1 hb1 hg1) | (refine wpList_alloc_scr rfl rfl ?_; intro gR w2 csR hR hsR hb2 hgR))
        have hE1 := Box.new w1 47 #[.int .i64 4, .int .i32 0, .int .u8 0, .int .u8 0, .int .u8 66, .slice A n c, .string tx]
        have hbE := hb1.alloc hb1.size (.cells #[.int .i64 4, .int .i32 0, .int .u8 0, .int .u8 0, .int .u8 66, .slice A n c, .string tx] 47)
        have hgE : w1.heap.size < (w1.alloc (.cells #[.int .i64 4, .int .i32 0, .int .u8 0, .int .u8 0, .int .u8 66, .slice A n c, .string tx] 47)).heap.size := by simp
        have hgB : g < (w1.alloc (.cells #[.int .i64 4, .int .i32 0, .int .u8 0, .int .u8 0, .int .u8 66, .slice A n c, .string tx] 47)).heap.size := by have := hB1.lt; omega
        have HB2 := hide ((hB1.alloc (.cells #[.int .i64 4, .int .i32 0, .int .u8 0, .int .u8 0, .int .u8 66, .slice A n c, .string tx] 47)).below hb2 hgB)
        have HE2 := hide (hE1.below hb2 hgE)
        have HW2 := hide (hbE.trans (hb2.mono hbE.size))
        have HR2 := hide hR
        have hgR' : w.heap.size ≤ gR := by have := hbE.size; omega
        have hgEw : w.heap.size ≤ w1.heap.size := hb1.size
        generalize w1.heap.size = gE at HE2 hgEw ⊢
        clear hE1 hbE hgE hgB hB1 hb1 hb2 hR hgR
        have e0 : w2.cell? ⟨gE, 0, none⟩ = some (.int .i64 4) := HE2.out.cell 0
        have e1 : w2.cell? ⟨gE, 1, none⟩ = some (.int .i32 0) := HE2.out.cell 1
        have e2 : w2.cell? ⟨gE, 2, none⟩ = some (.int .u8 0) := HE2.out.cell 2
        have e3 : w2.cell? ⟨gE, 3, none⟩ = some (.int .u8 0) := HE2.out.cell 3
        have e4 : w2.cell? ⟨gE, 4, none⟩ = some (.int .u8 66) := HE2.out.cell 4
        have e5 : w2.cell? ⟨gE, 5, none⟩ = some (.slice A n c) := HE2.out.cell 5
        have e6 : w2.cell? ⟨gE, 6, none⟩ = some (.string tx) := HE2.out.cell 6
        go_wp2_with fail
        refine (ON.out _ HW2.out).mono ?_
        rintro e w3 ⟨rfl, b3⟩
        have HB3 := hide (HB2.out.below b3 HB2.out.lt)
        have HE3 := hide (HE2.out.below b3 HE2.out.lt)
        have HR3 := hide (HR2.out.below b3 HR2.out.lt)
        have HW3 := hide (HW2.out.trans (b3.mono HW2.out.size))
        clear e0 e1 e2 e3 e4 e5 e6 HB2 HE2 HR2 HW2 b3 ON
        go_upto_region 2 with fail
        have k3 := HB3.out.c3
        go_region
        have HB4 := hide (show SBox w3.drew g x s from Box.drew HB3.out)
        have HE4 := hide (Box.drew HE3.out)
        have HR4 := hide (Box.drew HR3.out)
        have HW4 := hide (HW3.out.drew)
        generalize w3.drew = w4 at HB4 HE4 HR4 HW4 ⊢
        clear k3 HB3 HE3 HR3 HW3
        have k3 := HB4.out.c3
        have k4 := HB4.out.c4
        have k6 := HB4.out.c6
        have k7 := HB4.out.c7
        have e4 : w4.cell? ⟨gE, 4, none⟩ = some (.int .u8 66) := HE4.out.cell 4
        go_simp
        go_step
        go_wp2_with (refine wpList_load_scr HB4.out rfl _ rfl rfl ?_)
        refine (AT.out _).mono ?_
        rintro e w7 ⟨rfl, hb7⟩
        have HR7 := hide (HR4.out.below hb7 HR4.out.lt)
        have HW7 := hide (HW4.out.trans (hb7.mono HW4.out.size))
        clear hb7 k3 k4 k6 k7 e4 HB4 HE4 HR4 HW4
        go_wp2_with (refine wpList_store_scr HR7.out hsR rfl _ _ rfl rfl rfl hx ?_; intro w8 hB8 hk8 hs8)
        refine bodyPost_ret (results_scr_b rfl rfl (.bool true) rfl hB8) rfl ⟨rfl, HW7.out.trans (hk8.toBelow HW7.out.size (fun k hk => by simp at hk; omega))⟩
    · skip
      by_cases hb2 : s.row ≤ s.bot
      · by_cases hc2 : (s.bot : Int) < (s.row : Int) + m
        · as_aux_lemma =>
          obtain rfl : (s.bot : Int) = z := by
            rw [← hz]
            split <;> omega
          clear hz hzb
          go_enter Tryd.func78, Tryd.ntmps78
          go_upto_region 1 with (first | (refine wpList_box_scr rfl _ rfl rfl ?_; intro g w1 hB1 hb1 hg1) | (refine wpList_alloc_scr rfl rfl ?_; intro gR w2 csR hR hsR hb2 hgR))
          have hE1 := Box.new w1 47 #[.int .i64 4, .int .i32 0, .int .u8 0, .int .u8 0, .int .u8 66, .slice A n c, .string tx]
          have hbE := hb1.alloc hb1.size (.cells #[.int .i64 4, .int .i32 0, .int .u8 0, .int .u8 0, .int .u8 66, .slice A n c, .string tx] 47)
          have hgE : w1.heap.size < (w1.alloc (.cells #[.int .i64 4, .int .i32 0, .int .u8 0, .int .u8 0, .int .u8 66, .slice A n c, .string tx] 47)).heap.size := by simp
          have hgB : g < (w1.alloc (.cells #[.int .i64 4, .int .i32 0, .int .u8 0, .int .u8 0, .int .u8 66, .slice A n c, .string tx] 47)).heap.size := by have := hB1.lt; omega
          have HB2 := hide ((hB1.alloc (.cells #[.int .i64 4, .int .i32 0, .int .u8 0, .int .u8 0, .int .u8 66, .slice A n c, .string tx] 47)).below hb2 hgB)
          have HE2 := hide (hE1.below hb2 hgE)
          have HW2 := hide (hbE.trans (hb2.mono hbE.size))
          have HR2 := hide hR
          have hgR' : w.heap.size ≤ gR := by have := hbE.size; omega
          have hgEw : w.heap.size ≤ w1.heap.size := hb1.size
          generalize w1.heap.size = gE at HE2 hgEw ⊢
          clear hE1 hbE hgE hgB hB1 hb1 hb2 hR hgR
          have e0 : w2.cell? ⟨gE, 0, none⟩ = some (.int .i64 4) := HE2.out.cell 0
          have e1 : w2.cell? ⟨gE, 1, none⟩ = some (.int .i32 0) := HE2.out.cell 1
          have e2 : w2.cell? ⟨gE, 2, none⟩ = some (.int .u8 0) := HE2.out.cell 2
          have e3 : w2.cell? ⟨gE, 3, none⟩ = some (.int .u8 0) := HE2.out.cell 3
          have e4 : w2.cell? ⟨gE, 4, none⟩ = some (.int .u8 66) := HE2.out.cell 4
          have e5 : w2.cell? ⟨gE, 5, none⟩ = some (.slice A n c) := HE2.out.cell 5
          have e6 : w2.cell? ⟨gE, 6, none⟩ = some (.string tx) := HE2.out.cell 6
          go_wp2_with fail
          refine (ON.out _ HW2.out).mono ?_
          rintro e w3 ⟨rfl, b3⟩
          have HB3 := hide (HB2.out.below b3 HB2.out.lt)
          have HE3 := hide (HE2.out.below b3 HE2.out.lt)
          have HR3 := hide (HR2.out.below b3 HR2.out.lt)
          have HW3 := hide (HW2.out.trans (b3.mono HW2.out.size))
          clear e0 e1 e2 e3 e4 e5 e6 HB2 HE2 HR2 HW2 b3 ON
          go_upto_region 2 with fail
          have k3 := HB3.out.c3
          go_region
          have HB4 := hide (show SBox w3.drew g x s from Box.drew HB3.out)
          have HE4 := hide (Box.drew HE3.out)
          have HR4 := hide (Box.drew HR3.out)
          have HW4 := hide (HW3.out.drew)
          generalize w3.drew = w4 at HB4 HE4 HR4 HW4 ⊢
          clear k3 HB3 HE3 HR3 HW3
          have k3 := HB4.out.c3
          have k4 := HB4.out.c4
          have k6 := HB4.out.c6
          have k7 := HB4.out.c7
          have e4 : w4.cell? ⟨gE, 4, none⟩ = some (.int .u8 66) := HE4.out.cell 4
          go_simp
          go_step
          go_wp2_with (refine wpList_load_scr HB4.out rfl _ rfl rfl ?_)
          refine (AT.out _).mono ?_
          rintro e w7 ⟨rfl, hb7⟩
          have HR7 := hide (HR4.out.below hb7 HR4.out.lt)
          have HW7 := hide (HW4.out.trans (hb7.mono HW4.out.size))
          clear hb7 k3 k4 k6 k7 e4 HB4 HE4 HR4 HW4
          go_wp2_with (refine wpList_store_scr HR7.out hsR rfl _ _ rfl rfl rfl hx ?_; intro w8 hB8 hk8 hs8)
          refine bodyPost_ret (results_scr_b rfl rfl (.bool true) rfl hB8) rfl ⟨rfl, HW7.out.trans (hk8.toBelow HW7.out.size (fun k hk => by simp at hk; omega))⟩
        · as_aux_lemma =>
          obtain rfl : (s.row : Int) + m = z := by
            rw [← hz]
            split <;> omega
          clear hz hzb
          go_enter Tryd.func78, Tryd.ntmps78
          go_upto_region 1 with (first | (refine wpList_box_scr rfl _ rfl rfl ?_; intro g w1 hB1 hb1 hg1) | (refine wpList_alloc_scr rfl rfl ?_; intro gR w2 csR hR hsR hb2 hgR))
          have hE1 := Box.new w1 47 #[.int .i64 4, .int .i32 0, .int .u8 0, .int .u8 0, .int .u8 66, .slice A n c, .string tx]
          have hbE := hb1.alloc hb1.size (.cells #[.int .i64 4, .int .i32 0, .int .u8 0, .int .u8 0, .int .u8 66, .slice A n c, .string tx] 47)
          have hgE : w1.heap.size < (w1.alloc (.cells #[.int .i64 4, .int .i32 0, .int .u8 0, .int .u8 0, .int .u8 66, .slice A n c, .string tx] 47)).heap.size := by simp
          have hgB : g < (w1.alloc (.cells #[.int .i64 4, .int .i32 0, .int .u8 0, .int .u8 0, .int .u8 66, .slice A n c, .string tx] 47)).heap.size := by have := hB1.lt; omega
          have HB2 := hide ((hB1.alloc (.cells #[.int .i64 4, .int .i32 0, .int .u8 0, .int .u8 0, .int .u8 66, .slice A n c, .string tx] 47)).below hb2 hgB)
          have HE2 := hide (hE1.below hb2 hgE)
          have HW2 := hide (hbE.trans (hb2.mono hbE.size))
          have HR2 := hide hR
          have hgR' : w.heap.size ≤ gR := by have := hbE.size; omega
          have hgEw : w.heap.size ≤ w1.heap.size := hb1.size
          generalize w1.heap.size = gE at HE2 hgEw ⊢
          clear hE1 hbE hgE hgB hB1 hb1 hb2 hR hgR
          have e0 : w2.cell? ⟨gE, 0, none⟩ = some (.int .i64 4) := HE2.out.cell 0
          have e1 : w2.cell? ⟨gE, 1, none⟩ = some (.int .i32 0) := HE2.out.cell 1
          have e2 : w2.cell? ⟨gE, 2, none⟩ = some (.int .u8 0) := HE2.out.cell 2
          have e3 : w2.cell? ⟨gE, 3, none⟩ = some (.int .u8 0) := HE2.out.cell 3
          have e4 : w2.cell? ⟨gE, 4, none⟩ = some (.int .u8 66) := HE2.out.cell 4
          have e5 : w2.cell? ⟨gE, 5, none⟩ = some (.slice A n c) := HE2.out.cell 5
          have e6 : w2.cell? ⟨gE, 6, none⟩ = some (.string tx) := HE2.out.cell 6
          go_wp2_with fail
          refine (ON.out _ HW2.out).mono ?_
          rintro e w3 ⟨rfl, b3⟩
          have HB3 := hide (HB2.out.below b3 HB2.out.lt)
          have HE3 := hide (HE2.out.below b3 HE2.out.lt)
          have HR3 := hide (HR2.out.below b3 HR2.out.lt)
          have HW3 := hide (HW2.out.trans (b3.mono HW2.out.size))
          clear e0 e1 e2 e3 e4 e5 e6 HB2 HE2 HR2 HW2 b3 ON
          go_upto_region 2 with fail
          have k3 := HB3.out.c3
          go_region
          have HB4 := hide (show SBox w3.drew g x s from Box.drew HB3.out)
          have HE4 := hide (Box.drew HE3.out)
          have HR4 := hide (Box.drew HR3.out)
          have HW4 := hide (HW3.out.drew)
          generalize w3.drew = w4 at HB4 HE4 HR4 HW4 ⊢
          clear k3 HB3 HE3 HR3 HW3
          have k3 := HB4.out.c3
          have k4 := HB4.out.c4
          have k6 := HB4.out.c6
          have k7 := HB4.out.c7
          have e4 : w4.cell? ⟨gE, 4, none⟩ = some (.int .u8 66) := HE4.out.cell 4
          go_simp
          go_step
          go_wp2_with (refine wpList_load_scr HB4.out rfl _ rfl rfl ?_)
          refine (AT.out _).mono ?_
          rintro e w7 ⟨rfl, hb7⟩
          have HR7 := hide (HR4.out.below hb7 HR4.out.lt)
          have HW7 := hide (HW4.out.trans (hb7.mono HW4.out.size))
          clear hb7 k3 k4 k6 k7 e4 HB4 HE4 HR4 HW4
          go_wp2_with (refine wpList_store_scr HR7.out hsR rfl _ _ rfl rfl rfl hx ?_; intro w8 hB8 hk8 hs8)
          refine bodyPost_ret (results_scr_b rfl rfl (.bool true) rfl hB8) rfl ⟨rfl, HW7.out.trans (hk8.toBelow HW7.out.size (fun k hk => by simp at hk; omega))⟩
      · as_aux_lemma =>
        obtain rfl : (s.row : Int) + m = z := by
          rw [← hz]
          split <;> omega
        clear hz hzb
        go_enter Tryd.func78, Tryd.ntmps78
        go_upto_region 1 with (first | (refine wpList_box_scr rfl _ rfl rfl ?_; intro g w1 hB1 hb1 hg1) | (refine wpList_alloc_scr rfl rfl ?_; intro gR w2 csR hR hsR hb2 hgR))
        have hE1 := Box.new w1 47 #[.int .i64 4, .int .i32 0, .int .u8 0, .int .u8 0, .int .u8 66, .slice A n c, .string tx]
        have hbE := hb1.alloc hb1.size (.cells #[.int .i64 4, .int .i32 0, .int .u8 0, .int .u8 0, .int .u8 66, .slice A n c, .string tx] 47)
        have hgE : w1.heap.size < (w1.alloc (.cells #[.int .i64 4, .int .i32 0, .int .u8 0, .int .u8 0, .int .u8 66, .slice A n c, .string tx] 47)).heap.size := by simp
        have hgB : g < (w1.alloc (.cells #[.int .i64 4, .int .i32 0, .int .u8 0, .int .u8 0, .int .u8 66, .slice A n c, .string tx] 47)).heap.size := by have := hB1.lt; omega
        have HB2 := hide ((hB1.alloc (.cells #[.int .i64 4, .int .i32 0, .int .u8 0, .int .u8 0, .int .u8 66, .slice A n c, .string tx] 47)).below hb2 hgB)
        have HE2 := hide (hE1.below hb2 hgE)
        have HW2 := hide (hbE.trans (hb2.mono hbE.size))
        have HR2 := hide hR
        have hgR' : w.heap.size ≤ gR := by have := hbE.size; omega
        have hgEw : w.heap.size ≤ w1.heap.size := hb1.size
        generalize w1.heap.size = gE at HE2 hgEw ⊢
        clear hE1 hbE hgE hgB hB1 hb1 hb2 hR hgR
        have e0 : w2.cell? ⟨gE, 0, none⟩ = some (.int .i64 4) := HE2.out.cell 0
        have e1 : w2.cell? ⟨gE, 1, none⟩ = some (.int .i32 0) := HE2.out.cell 1
        have e2 : w2.cell? ⟨gE, 2, none⟩ = some (.int .u8 0) := HE2.out.cell 2
        have e3 : w2.cell? ⟨gE, 3, none⟩ = some (.int .u8 0) := HE2.out.cell 3
        have e4 : w2.cell? ⟨gE, 4, none⟩ = some (.int .u8 66) := HE2.out.cell 4
        have e5 : w2.cell? ⟨gE, 5, none⟩ = some (.slice A n c) := HE2.out.cell 5
        have e6 : w2.cell? ⟨gE, 6, none⟩ = some (.string tx) := HE2.out.cell 6
        go_wp2_with fail
        refine (ON.out _ HW2.out).mono ?_
        rintro e w3 ⟨rfl, b3⟩
        have HB3 := hide (HB2.out.below b3 HB2.out.lt)
        have HE3 := hide (HE2.out.below b3 HE2.out.lt)
        have HR3 := hide (HR2.out.below b3 HR2.out.lt)
        have HW3 := hide (HW2.out.trans (b3.mono HW2.out.size))
        clear e0 e1 e2 e3 e4 e5 e6 HB2 HE2 HR2 HW2 b3 ON
        go_upto_region 2 with fail
        have k3 := HB3.out.c3
        go_region
        have HB4 := hide (show SBox w3.drew g x s from Box.drew HB3.out)
        have HE4 := hide (Box.drew HE3.out)
        have HR4 := hide (Box.drew HR3.out)
        have HW4 := hide (HW3.out.drew)
        generalize w3.drew = w4 at HB4 HE4 HR4 HW4 ⊢
        clear k3 HB3 HE3 HR3 HW3
        have k3 := HB4.out.c3
        have k4 := HB4.out.c4
        have k6 := HB4.out.c6
        have k7 := HB4.out.c7
        have e4 : w4.cell? ⟨gE, 4, none⟩ = some (.int .u8 66) := HE4.out.cell 4
        go_simp
        go_step
        go_wp2_with (refine wpList_load_scr HB4.out rfl _ rfl rfl ?_)
        refine (AT.out _).mono ?_
        rintro e w7 ⟨rfl, hb7⟩
        have HR7 := hide (HR4.out.below hb7 HR4.out.lt)
        have HW7 := hide (HW4.out.trans (hb7.mono HW4.out.size))
        clear hb7 k3 k4 k6 k7 e4 HB4 HE4 HR4 HW4
        go_wp2_with (refine wpList_store_scr HR7.out hsR rfl _ _ rfl rfl rfl hx ?_; intro w8 hB8 hk8 hs8)
        refine bodyPost_ret (results_scr_b rfl rfl (.bool true) rfl hB8) rfl ⟨rfl, HW7.out.trans (hk8.toBelow HW7.out.size (fun k hk => by simp at hk; omega))⟩
  · skip
    by_cases hb2 : s.row ≤ s.bot
    · by_cases hc2 : (s.bot : Int) < (s.row : Int) + m
      · as_aux_lemma =>
        obtain rfl : (s.bot : Int) = z := by
          rw [← hz]
          split <;> omega
        clear hz hzb
        go_enter Tryd.func78, Tryd.ntmps78
        go_upto_region 1 with (first | (refine wpList_box_scr rfl _ rfl rfl ?_; intro g w1 hB1 hb1 hg1) | (refine wpList_alloc_scr rfl rfl ?_; intro gR w2 csR hR hsR hb2 hgR))
        have hE1 := Box.new w1 47 #[.int .i64 4, .int .i32 0, .int .u8 0, .int .u8 0, .int .u8 66, .slice A n c, .string tx]
        have hbE := hb1.alloc hb1.size (.cells #[.int .i64 4, .int .i32 0, .int .u8 0, .int .u8 0, .int .u8 66, .slice A n c, .string tx] 47)
        have hgE : w1.heap.size < (w1.alloc (.cells #[.int .i64 4, .int .i32 0, .int .u8 0, .int .u8 0, .int .u8 66, .slice A n c, .string tx] 47)).heap.size := by simp
        have hgB : g < (w1.alloc (.cells #[.int .i64 4, .int .i32 0, .int .u8 0, .int .u8 0, .int .u8 66, .slice A n c, .string tx] 47)).heap.size := by have := hB1.lt; omega
        have HB2 := hide ((hB1.alloc (.cells #[.int .i64 4, .int .i32 0, .int .u8 0, .int .u8 0, .int .u8 66, .slice A n c, .string tx] 47)).below hb2 hgB)
        have HE2 := hide (hE1.below hb2 hgE)
        have HW2 := hide (hbE.trans (hb2.mono hbE.size))
        have HR2 := hide hR
        have hgR' : w.heap.size ≤ gR := by have := hbE.size; omega
        have hgEw : w.heap.size ≤ w1.heap.size := hb1.size
        generalize w1.heap.size = gE at HE2 hgEw ⊢
        clear hE1 hbE hgE hgB hB1 hb1 hb2 hR hgR
        have e0 : w2.cell? ⟨gE, 0, none⟩ = some (.int .i64 4) := HE2.out.cell 0
        have e1 : w2.cell? ⟨gE, 1, none⟩ = some (.int .i32 0) := HE2.out.cell 1
        have e2 : w2.cell? ⟨gE, 2, none⟩ = some (.int .u8 0) := HE2.out.cell 2
        have e3 : w2.cell? ⟨gE, 3, none⟩ = some (.int .u8 0) := HE2.out.cell 3
        have e4 : w2.cell? ⟨gE, 4, none⟩ = some (.int .u8 66) := HE2.out.cell 4
        have e5 : w2.cell? ⟨gE, 5, none⟩ = some (.slice A n c) := HE2.out.cell 5
        have e6 : w2.cell? ⟨gE, 6, none⟩ = some (.string tx) := HE2.out.cell 6
        go_wp2_with fail
        refine (ON.out _ HW2.out).mono ?_
        rintro e w3 ⟨rfl, b3⟩
        have HB3 := hide (HB2.out.below b3 HB2.out.lt)
        have HE3 := hide (HE2.out.below b3 HE2.out.lt)
        have HR3 := hide (HR2.out.below b3 HR2.out.lt)
        have HW3 := hide (HW2.out.trans (b3.mono HW2.out.size))
        clear e0 e1 e2 e3 e4 e5 e6 HB2 HE2 HR2 HW2 b3 ON
        go_upto_region 2 with fail
        have k3 := HB3.out.c3
        go_region
        have HB4 := hide (show SBox w3.drew g x s from Box.drew HB3.out)
        have HE4 := hide (Box.drew HE3.out)
        have HR4 := hide (Box.drew HR3.out)
        have HW4 := hide (HW3.out.drew)
        generalize w3.drew = w4 at HB4 HE4 HR4 HW4 ⊢
        clear k3 HB3 HE3 HR3 HW3
        have k3 := HB4.out.c3
        have k4 := HB4.out.c4
        have k6 := HB4.out.c6
        have k7 := HB4.out.c7
        have e4 : w4.cell? ⟨gE, 4, none⟩ = some (.int .u8 66) := HE4.out.cell 4
        go_simp
        go_step
        go_wp2_with (refine wpList_load_scr HB4.out rfl _ rfl rfl ?_)
        refine (AT.out _).mono ?_
        rintro e w7 ⟨rfl, hb7⟩
        have HR7 := hide (HR4.out.below hb7 HR4.out.lt)
        have HW7 := hide (HW4.out.trans (hb7.mono HW4.out.size))
        clear hb7 k3 k4 k6 k7 e4 HB4 HE4 HR4 HW4
        go_wp2_with (refine wpList_store_scr HR7.out hsR rfl _ _ rfl rfl rfl hx ?_; intro w8 hB8 hk8 hs8)
        refine bodyPost_ret (results_scr_b rfl rfl (.bool true) rfl hB8) rfl ⟨rfl, HW7.out.trans (hk8.toBelow HW7.out.size (fun k hk => by simp at hk; omega))⟩
      · as_aux_lemma =>
        obtain rfl : (s.row : Int) + m = z := by
          rw [← hz]
          split <;> omega
        clear hz hzb
        go_enter Tryd.func78, Tryd.ntmps78
        go_upto_region 1 with (first | (refine wpList_box_scr rfl _ rfl rfl ?_; intro g w1 hB1 hb1 hg1) | (refine wpList_alloc_scr rfl rfl ?_; intro gR w2 csR hR hsR hb2 hgR))
        have hE1 := Box.new w1 47 #[.int .i64 4, .int .i32 0, .int .u8 0, .int .u8 0, .int .u8 66, .slice A n c, .string tx]
        have hbE := hb1.alloc hb1.size (.cells #[.int .i64 4, .int .i32 0, .int .u8 0, .int .u8 0, .int .u8 66, .slice A n c, .string tx] 47)
        have hgE : w1.heap.size < (w1.alloc (.cells #[.int .i64 4, .int .i32 0, .int .u8 0, .int .u8 0, .int .u8 66, .slice A n c, .string tx] 47)).heap.size := by simp
        have hgB : g < (w1.alloc (.cells #[.int .i64 4, .int .i32 0, .int .u8 0, .int .u8 0, .int .u8 66, .slice A n c, .string tx] 47)).heap.size := by have := hB1.lt; omega
        have HB2 := hide ((hB1.alloc (.cells #[.int .i64 4, .int .i32 0, .int .u8 0, .int .u8 0, .int .u8 66, .slice A n c, .string tx] 47)).below hb2 hgB)
        have HE2 := hide (hE1.below hb2 hgE)
        have HW2 := hide (hbE.trans (hb2.mono hbE.size))
        have HR2 := hide hR
        have hgR' : w.heap.size ≤ gR := by have := hbE.size; omega
        have hgEw : w.heap.size ≤ w1.heap.size := hb1.size
        generalize w1.heap.size = gE at HE2 hgEw ⊢
        clear hE1 hbE hgE hgB hB1 hb1 hb2 hR hgR
        have e0 : w2.cell? ⟨gE, 0, none⟩ = some (.int .i64 4) := HE2.out.cell 0
        have e1 : w2.cell? ⟨gE, 1, none⟩ = some (.int .i32 0) := HE2.out.cell 1
        have e2 : w2.cell? ⟨gE, 2, none⟩ = some (.int .u8 0) := HE2.out.cell 2
        have e3 : w2.cell? ⟨gE, 3, none⟩ = some (.int .u8 0) := HE2.out.cell 3
        have e4 : w2.cell? ⟨gE, 4, none⟩ = some (.int .u8 66) := HE2.out.cell 4
        have e5 : w2.cell? ⟨gE, 5, none⟩ = some (.slice A n c) := HE2.out.cell 5
        have e6 : w2.cell? ⟨gE, 6, none⟩ = some (.string tx) := HE2.out.cell 6
        go_wp2_with fail
        refine (ON.out _ HW2.out).mono ?_
        rintro e w3 ⟨rfl, b3⟩
        have HB3 := hide (HB2.out.below b3 HB2.out.lt)
        have HE3 := hide (HE2.out.below b3 HE2.out.lt)
        have HR3 := hide (HR2.out.below b3 HR2.out.lt)
        have HW3 := hide (HW2.out.trans (b3.mono HW2.out.size))
        clear e0 e1 e2 e3 e4 e5 e6 HB2 HE2 HR2 HW2 b3 ON
        go_upto_region 2 with fail
        have k3 := HB3.out.c3
        go_region
        have HB4 := hide (show SBox w3.drew g x s from Box.drew HB3.out)
        have HE4 := hide (Box.drew HE3.out)
        have HR4 := hide (Box.drew HR3.out)
        have HW4 := hide (HW3.out.drew)
        generalize w3.drew = w4 at HB4 HE4 HR4 HW4 ⊢
        clear k3 HB3 HE3 HR3 HW3
        have k3 := HB4.out.c3
        have k4 := HB4.out.c4
        have k6 := HB4.out.c6
        have k7 := HB4.out.c7
        have e4 : w4.cell? ⟨gE, 4, none⟩ = some (.int .u8 66) := HE4.out.cell 4
        go_simp
        go_step
        go_wp2_with (refine wpList_load_scr HB4.out rfl _ rfl rfl ?_)
        refine (AT.out _).mono ?_
        rintro e w7 ⟨rfl, hb7⟩
        have HR7 := hide (HR4.out.below hb7 HR4.out.lt)
        have HW7 := hide (HW4.out.trans (hb7.mono HW4.out.size))
        clear hb7 k3 k4 k6 k7 e4 HB4 HE4 HR4 HW4
        go_wp2_with (refine wpList_store_scr HR7.out hsR rfl _ _ rfl rfl rfl hx ?_; intro w8 hB8 hk8 hs8)
        refine bodyPost_ret (results_scr_b rfl rfl (.bool true) rfl hB8) rfl ⟨rfl, HW7.out.trans (hk8.toBelow HW7.out.size (fun k hk => by simp at hk; omega))⟩
    · exact absurd htop (by omega)
end Go.Proofs.YtbhnipepbckalaaDoor
