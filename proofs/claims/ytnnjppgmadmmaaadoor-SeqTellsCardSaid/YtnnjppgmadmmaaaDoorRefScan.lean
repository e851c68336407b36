/- The document's own scanner in memory; its Parse of one control byte, of one printed byte. The document's own escape, at a sequence that is no CSI and no string: its event. The document's own text, at an OSC's bytes up to BEL: its event. The document's own high, at one rune's bytes of 128 and more: its event. The document's own csi, at a CSI's bytes: its event. The document's own Parse, at the bytes of one event that may be: this event, and nothing else. -/
import Derived.Test.YtnnjppgmadmmaaaDoorRefSmall
import Derived.Test.YtnnjppgmadmmaaaDoorSeqBox
import Derived.Deep.DeepCutAuto
import Derived.Deep.CutBlock
import Derived.Test.YtnnjppgmadmmaaaDoorStrConv
import Derived.Test.YtnnjppgmadmmaaaDoorStepBox
import Derived.Deep.RegionHeld3
import Derived.Deep.RegionHeldLaw
import Derived.Test.YtnnjppgmadmmaaaDoorRefDecode
import Derived.Test.YtnnjppgmadmmaaaDoorUtfLemmas
import Derived.Test.YtnnjppgmadmmaaaDoorInReg
import Derived.Test.YtnnjppgmadmmaaaDoorSeqRef
set_option maxRecDepth 100000
namespace Go.Proofs.YtnnjppgmadmmaaaDoor
open Go.RowKit
set_option linter.unusedVariables false
/-- one event was made: it lies alone in a row of its own -/
def Made1 (B : Nat) (w : World) (e : PA.Ev) (v : Value) : Prop := ∃ u, w.ownsRow B 24 7 v 1 (ecells e u) ∧ ParIn w (e, u)
/-- the scanner, at the end, with one event made -/
def Done1 (B g : Nat) (A : Option Addr) (n c : Nat) (e : PA.Ev) (w w' : World) : Prop := ∃ v, Made1 B w' e v ∧ Box w' g 61 #[.slice A n c, .int .i64 n, v] ∧ Below B w w' ∧ w.heap.size < w'.heap.size
theorem own_has {w : World} {base n : Nat} {e : TypeId} {v : Value} {size : Nat} {xs : List Value} (h : w.ownsRow base e size v (n + 1) xs) : ∃ b, v.ownBlock = some b ∧ base ≤ b ∧ b < w.heap.size := by
  have hlt := h.lt
  rcases h.2 with ⟨rfl, h0⟩ | ⟨g, cap, cur, rfl, _, hh, _⟩
  · omega
  · exact ⟨g, rfl, hlt g rfl⟩
theorem own_ge' {w : World} {base n c size : Nat} {e : TypeId} {A : Option Addr} {xs : List Value} (h : w.ownsRow base e size (.slice A n c) n xs) : ∀ ad, A = some ad → base ≤ ad.block := by
  rintro ad rfl
  rcases h.2 with ⟨hv, _⟩ | ⟨g, cap, cur, hv, hb, _⟩
  · cases hv
  · injection hv with h1 _ _
    injection h1 with h1
    subst h1
    exact hb
/-- where an event's parameters lie is no cell of block g -/
def NotIn (g : Nat) (e : PA.Ev) (u : Value) : Prop := 0 < e.params.length → ∀ ad n c, u = .slice (some ad) n c → ad.block ≠ g
theorem NotIn.nil (g : Nat) (e : PA.Ev) : NotIn g e (.slice none 0 0) := fun _ ad n c h => by cases h
theorem parIn_set {w : World} {e : PA.Ev} {u : Value} {g o : Nat} (h : ParIn w (e, u)) (hc : NotIn g e u) (x : Value) : ParIn (w.setCell ⟨g, o, none⟩ x) (e, u) := by
  obtain ⟨Ap, cp, h1, h2, h3⟩ := h
  refine ⟨Ap, cp, h1, ⟨h2.1, fun j y hu => ?_⟩, h3⟩
  obtain ⟨ad, ha, hl, hcell⟩ := h2.2 j y hu
  have hj : j < (i64s e.params).length := (List.getElem?_eq_some_iff.1 hu).1
  have hne := hc (by simp [i64s] at hj; omega) ad _ _ (by simp only [] at h1; rw [h1, ha])
  refine ⟨ad, ha, by simpa [World.setCell] using hl, Eq.trans (World.cell?_of_block (w := w) ?_) hcell⟩
  exact Below.heap_setCell w ⟨g, o, none⟩ x _ (by rw [addBlock]; exact hne)
theorem parIn_none {w : World} {e : PA.Ev} (h : e.params = []) : ParIn w (e, .slice none 0 0) := ⟨none, 0, by simp [h], by rw [h]; exact Seen.nil_ _ _ _, by simp [h]⟩
theorem grown_undraw {w w' : World} {q : Nat} {r : Option Nat} (h : (w.drewN q).grownBy w' r) : w.grownBy w' r := ⟨h.os, h.tape, h.output, h.size, h.block⟩
theorem moved_undraw {w : World} {q : Nat} {v v' : Value} (h : Moved (w.drewN q) v v') : Moved w v v' := h
/-- the append's new row is stored, the place moved to the end -/
theorem done1_make {B g n c k : Nat} {A : Option Addr} {e : PA.Ev} {u v vz z : Value} {w0 w3 : World} (hown : w3.ownsRow B 24 7 v 1 (ecells e u)) (bx : Box w3 g 61 #[.slice A n c, .int .i64 k, z]) (hz : vz.ownBlock = none) (hg : w0.grownBy w3 vz.ownBlock) (hm : Moved w0 vz v)
    (hB : B ≤ g) (hBw : B ≤ w0.heap.size) (hp : ParIn w3 (e, u)) (hc : NotIn g e u) {k' : Int} (hk' : k' = n) : Done1 B g A n c e w0 ((w3.setCell ⟨g, 2, none⟩ v).setCell ⟨g, 1, none⟩ (.int .i64 k')) := by
  subst hk'
  have hne : v.ownBlock ≠ some g := own_ne_box hown bx (by decide)
  obtain ⟨b, hb, _, hbl⟩ := own_has (n := 0) hown
  refine ⟨v, ⟨u, own_store (own_store hown (p := ⟨g, 2, none⟩) hne v) (p := ⟨g, 1, none⟩) hne _, parIn_set (parIn_set hp hc _) hc _⟩, by simpa using (bx.set 2 v).set 1 (.int .i64 n), ((below_of_grown hg hBw (fun q hq => by rw [hz] at hq; cases hq)).setCell (p := ⟨g, 2, none⟩) hB _).setCell (p := ⟨g, 1, none⟩) hB _, ?_⟩
  simp only [World.setCell, Array.size_modify]
  rcases hm with hm | ⟨q, hq, hq2⟩
  · rw [hz, hb] at hm; cases hm
  · rw [hb] at hq; cases hq; omega
theorem Done1.since {B g n c : Nat} {A : Option Addr} {e : PA.Ev} {w0 w1 w2 : World} (h : Done1 B g A n c e w1 w2) (b : Below B w0 w1) : Done1 B g A n c e w0 w2 := by
  obtain ⟨v, h1, h2, h3, h4⟩ := h
  exact ⟨v, h1, h2, b.trans h3, Nat.lt_of_le_of_lt b.size h4⟩
set_option maxHeartbeats 4000000 in
theorem parse_exec (A : Option Addr) (c : Nat) (b : Int) (w : World) (hA : Seen w w.heap.size A 1 (u8s [b])) (h0 : 0 ≤ b) (h1 : b < 32) (h24 : b ≠ 24) (h26 : b ≠ 26) (h27 : b ≠ 27) :
    Calls Tryd.prog 17 #[.slice A 1 c] w fun e w' => ∃ v, e = .returned v ∧ Made1 w.heap.size w' ⟨2, 0, 0, 0, b, [], []⟩ v ∧ Below w.heap.size w w' := by
  obtain ⟨i0, hi, hz0, hz1, hz2⟩ := info_parts info_ev
  have HA1 := hide (hA.alloc (Nat.le_refl _) (.cells #[.slice A 1 c, .int .i64 0, .slice none 0 0] 61))
  have HB := hide ((Below.refl w.heap.size w).alloc (Nat.le_refl _) (.cells #[.slice A 1 c, .int .i64 0, .slice none 0 0] 61))
  have BX := hide (Box.new w 61 #[.slice A 1 c, .int .i64 0, .slice none 0 0])
  clear hA
  have d24 : (b == 24) = false := by simpa using h24
  have d26 : (b == 26) = false := by simpa using h26
  have e24 : (b != 24) = true := by simpa using h24
  have e26 : (b != 26) = true := by simpa using h26
  have d27 : (b == 27) = false := by simpa using h27
  clear h24 h26 h27
  have hs0 : (w.alloc (.cells #[.slice A 1 c, .int .i64 0, .slice none 0 0] 61)).heap.size = w.heap.size + 1 := by simp
  go_enter Tryd.func17, Tryd.ntmps17
  go_upto_block 0 with fail
  generalize hw0 : w.alloc (.cells #[.slice A 1 c, .int .i64 0, .slice none 0 0] 61) = w0 at HA1 HB BX hs0 ⊢
  obtain ⟨g, hg⟩ : ∃ g, w.heap.size = g := ⟨_, rfl⟩
  have HG := hide hg
  rw [hg] at BX ⊢
  have hle : w.heap.size ≤ w0.heap.size := by omega
  clear hw0 hg hs0
  go_wp2_with fail
  go_loopw [] (fun wr => wr = w0 ∨ Hid (Done1 w.heap.size g A 1 c ⟨2, 0, 0, 0, b, [], []⟩ w0 wr)) (fun wr => w0.heap.size + 1 - wr.heap.size)
  case atStart => exact .inl rfl
  case round =>
    rcases hrel with rfl | HO
    · obtain ⟨k0, k1, k2, f0, f1, f2⟩ := BX.out.three
      obtain ⟨ad, u, rfl, _, hu, hc⟩ := HA1.out.at_ (k := 0) (by omega)
      simp [u8s] at hu
      subst hu
      rw [show ad.add 0 = ad from by simp [Addr.add]] at hc
      obtain ⟨vz, hvz⟩ : ∃ v, Value.slice none 0 0 = v := ⟨_, rfl⟩
      rw [hvz] at k2
      have HZ := hide (show (∀ w', World.ownsRow w' w.heap.size 24 7 vz 0 []) ∧ vz.ownBlock = none from ⟨fun w' => by rw [← hvz]; exact World.ownsRow_nil _ _ _ _, by rw [← hvz]; rfl⟩)
      clear hvz
      have HAA := HA1
      clear HA1
      go_wp2_with fail
      go_quiet (fail)
      go_wp2_with fail
      go_quiet (fail)
      go_wp2_with (at_builtin; go_must (refine wpList_appS rfl (.tmp 55) (.tmp 58) 36 rfl w.heap.size 24 i0 _ 7 56 Tryd.underlying36 hi hz0 hz1 hz2 zev_size (by omega) vz 0 [] rfl (HZ.out.1 _) _ _ _ rfl rfl rfl (by intro u hu; simp at hu; (repeat' (first | (rcases hu with rfl | hu) | subst hu)) <;> rfl) (by omega) (by omega) (by first | omega | (simp; omega)) ?_); intro v' w3 hown3 hg3 hm3; simp only [Nat.zero_add, List.nil_append] at hown3; obtain ⟨A3, c3, rfl, _⟩ := own_form' hown3; have bx3 := Box.grown (show Box (wr.drewN _) g _ _ from BX.out) hg3 (by rw [HZ.out.2]; simp); obtain ⟨j0, j1, j2, l0, l1, l2⟩ := bx3.three)
      have R := hide (done1_make (u := .slice none 0 0) (e := ⟨2, 0, 0, 0, b, [], []⟩) hown3 bx3 HZ.out.2 (grown_undraw hg3) (moved_undraw hm3) (Nat.le_of_eq HG.out) hle (parIn_none rfl) (NotIn.nil _ _) (k' := 1) rfl)
      have hlt := R.out
      obtain ⟨_, _, _, _, hlt⟩ := hlt
      refine ⟨.inr R, ?_⟩
      omega
    · obtain ⟨v, hmade, hbox, hbel, hsz⟩ := HO.out
      obtain ⟨k0, k1, k2, f0, f1, f2⟩ := hbox.three
      have HW := hide hmade
      have HL := hide (HB.out.trans hbel)
      clear hmade hbox hbel
      go_wp2_with fail
      go_quiet (fail)
      go_wp2_with fail
      go_ret
      obtain ⟨u, h1, h2⟩ := HW.out
      exact ⟨v, rfl, ⟨u, h1, h2⟩, below_drewN HL.out _⟩
set_option maxHeartbeats 4000000 in
theorem parse_low (A : Option Addr) (c : Nat) (b : Int) (w : World) (hA : Seen w w.heap.size A 1 (u8s [b])) (h0 : 32 ≤ b) (h1 : b < 127) :
    Calls Tryd.prog 17 #[.slice A 1 c] w fun e w' => ∃ v, e = .returned v ∧ Made1 w.heap.size w' ⟨1, b, 0, 0, 0, [], []⟩ v ∧ Below w.heap.size w w' := by
  obtain ⟨i0, hi, hz0, hz1, hz2⟩ := info_parts info_ev
  have HA1 := hide (hA.alloc (Nat.le_refl _) (.cells #[.slice A 1 c, .int .i64 0, .slice none 0 0] 61))
  have HB := hide ((Below.refl w.heap.size w).alloc (Nat.le_refl _) (.cells #[.slice A 1 c, .int .i64 0, .slice none 0 0] 61))
  have BX := hide (Box.new w 61 #[.slice A 1 c, .int .i64 0, .slice none 0 0])
  clear hA
  have d127 : (b == 127) = false := by simp; omega
  have d27 : (b == 27) = false := by simp; omega
  have hw32 : IntKind.i32.wrap b = b := by simp [IntKind.wrap, IntKind.bits, IntKind.signed]; omega
  have hs0 : (w.alloc (.cells #[.slice A 1 c, .int .i64 0, .slice none 0 0] 61)).heap.size = w.heap.size + 1 := by simp
  go_enter Tryd.func17, Tryd.ntmps17
  go_upto_block 0 with fail
  generalize hw0 : w.alloc (.cells #[.slice A 1 c, .int .i64 0, .slice none 0 0] 61) = w0 at HA1 HB BX hs0 ⊢
  obtain ⟨g, hg⟩ : ∃ g, w.heap.size = g := ⟨_, rfl⟩
  have HG := hide hg
  rw [hg] at BX ⊢
  have hle : w.heap.size ≤ w0.heap.size := by omega
  clear hw0 hg hs0
  go_wp2_with fail
  go_loopw [] (fun wr => wr = w0 ∨ Hid (Done1 w.heap.size g A 1 c ⟨1, b, 0, 0, 0, [], []⟩ w0 wr)) (fun wr => w0.heap.size + 1 - wr.heap.size)
  case atStart => exact .inl rfl
  case round =>
    rcases hrel with rfl | HO
    · obtain ⟨k0, k1, k2, f0, f1, f2⟩ := BX.out.three
      obtain ⟨ad, u, rfl, _, hu, hc⟩ := HA1.out.at_ (k := 0) (by omega)
      simp [u8s] at hu
      subst hu
      rw [show ad.add 0 = ad from by simp [Addr.add]] at hc
      obtain ⟨vz, hvz⟩ : ∃ v, Value.slice none 0 0 = v := ⟨_, rfl⟩
      rw [hvz] at k2
      have HZ := hide (show (∀ w', World.ownsRow w' w.heap.size 24 7 vz 0 []) ∧ vz.ownBlock = none from ⟨fun w' => by rw [← hvz]; exact World.ownsRow_nil _ _ _ _, by rw [← hvz]; rfl⟩)
      clear hvz
      have HAA := HA1
      clear HA1
      go_wp2_with fail
      go_quiet (fail)
      go_wp2_with fail
      go_quiet (fail)
      go_wp2_with (at_builtin; go_must (refine wpList_appS rfl (.tmp 86) (.tmp 90) 36 rfl w.heap.size 24 i0 _ 7 56 Tryd.underlying36 hi hz0 hz1 hz2 zev_size (by omega) vz 0 [] rfl (HZ.out.1 _) _ _ _ rfl rfl rfl (by intro u hu; simp at hu; (repeat' (first | (rcases hu with rfl | hu) | subst hu)) <;> rfl) (by omega) (by omega) (by first | omega | (simp; omega)) ?_); intro v' w3 hown3 hg3 hm3; simp only [Nat.zero_add, List.nil_append] at hown3; obtain ⟨A3, c3, rfl, _⟩ := own_form' hown3; have bx3 := Box.grown (show Box (wr.drewN _) g _ _ from BX.out) hg3 (by rw [HZ.out.2]; simp); obtain ⟨j0, j1, j2, l0, l1, l2⟩ := bx3.three)
      have R := hide (done1_make (u := .slice none 0 0) (e := ⟨1, b, 0, 0, 0, [], []⟩) hown3 bx3 HZ.out.2 (grown_undraw hg3) (moved_undraw hm3) (Nat.le_of_eq HG.out) hle (parIn_none rfl) (NotIn.nil _ _) (k' := 1) rfl)
      have hlt := R.out
      obtain ⟨_, _, _, _, hlt⟩ := hlt
      refine ⟨.inr R, ?_⟩
      omega
    · obtain ⟨v, hmade, hbox, hbel, hsz⟩ := HO.out
      obtain ⟨k0, k1, k2, f0, f1, f2⟩ := hbox.three
      have HW := hide hmade
      have HL := hide (HB.out.trans hbel)
      clear hmade hbox hbel
      go_wp2_with fail
      go_quiet (fail)
      go_wp2_with fail
      go_ret
      obtain ⟨u, h1, h2⟩ := HW.out
      exact ⟨v, rfl, ⟨u, h1, h2⟩, below_drewN HL.out _⟩
set_option maxHeartbeats 4000000 in
theorem parse_esc (A : Option Addr) (n c : Nat) (l : List Int) (e : PA.Ev) (w : World) (hA : Seen w w.heap.size A n (u8s l)) (hl : l[0]? = some 27)
    (HE : ∀ g w', w.heap.size ≤ g → w.heap.size ≤ w'.heap.size → Seen w' w.heap.size A n (u8s l) → Box w' g 61 #[.slice A n c, .int .i64 1, .slice none 0 0] → Calls Tryd.prog 36 #[.pointer (some ⟨g, 0, none⟩)] w' fun en w2 => en = .returned (.tuple #[]) ∧ Done1 w.heap.size g A n c e w' w2) :
    Calls Tryd.prog 17 #[.slice A n c] w fun e' w' => ∃ v, e' = .returned v ∧ Made1 w.heap.size w' e v ∧ Below w.heap.size w w' := by
  have hlen : l.length = n := by simpa [u8s] using hA.1
  have hn0 : 0 < n := by have := (List.getElem?_eq_some_iff.1 hl).1; omega
  have HA1 := hide (hA.alloc (Nat.le_refl _) (.cells #[.slice A n c, .int .i64 0, .slice none 0 0] 61))
  have HB := hide ((Below.refl w.heap.size w).alloc (Nat.le_refl _) (.cells #[.slice A n c, .int .i64 0, .slice none 0 0] 61))
  have BX := hide (Box.new w 61 #[.slice A n c, .int .i64 0, .slice none 0 0])
  have HL := hide hl
  have HEE := hide HE
  clear hA hl HE hlen
  have hs0 : (w.alloc (.cells #[.slice A n c, .int .i64 0, .slice none 0 0] 61)).heap.size = w.heap.size + 1 := by simp
  go_enter Tryd.func17, Tryd.ntmps17
  go_upto_block 0 with fail
  generalize hw0 : w.alloc (.cells #[.slice A n c, .int .i64 0, .slice none 0 0] 61) = w0 at HA1 HB BX hs0 ⊢
  obtain ⟨g, hg⟩ : ∃ g, w.heap.size = g := ⟨_, rfl⟩
  have HG := hide hg
  rw [hg] at BX ⊢
  have hle : w.heap.size ≤ w0.heap.size := by omega
  clear hw0 hg hs0
  go_wp2_with fail
  go_loopw [] (fun wr => wr = w0 ∨ Hid (Done1 w.heap.size g A n c e w0 wr)) (fun wr => w0.heap.size + 1 - wr.heap.size)
  case atStart => exact .inl rfl
  case round =>
    rcases hrel with rfl | HO
    · obtain ⟨k0, k1, k2, f0, f1, f2⟩ := BX.out.three
      obtain ⟨ad, u, rfl, _, hu, hc⟩ := HA1.out.at_ (k := 0) hn0
      rw [u8s, List.getElem?_map, HL.out] at hu
      obtain rfl := Option.some.inj hu
      rw [show ad.add 0 = ad from by simp [Addr.add]] at hc
      have hn0' : (0 : Int) < (n : Int) := by omega
      go_wp2_with fail
      go_quiet (fail)
      go_wp2_with fail
      go_quiet (fail)
      go_wp2_with fail
      refine (HEE.out g _ (Nat.le_of_eq HG.out) ?_ ?_ ?_).mono ?_
      · simpa [World.setCell] using hle
      · exact HA1.out.below ((below_drewN (Below.refl w.heap.size wr) _).setCell (p := ⟨g, 1, none⟩) (Nat.le_of_eq HG.out) _)
      · simpa using (show Box (wr.drewN _) g _ _ from BX.out).set 1 (.int .i64 1)
      · rintro en w2 ⟨rfl, hD⟩
        have R := hide (hD.since ((below_drewN (Below.refl w.heap.size wr) _).setCell (p := ⟨g, 1, none⟩) (Nat.le_of_eq HG.out) _))
        clear hD
        go_wp2_with fail
        obtain ⟨_, _, _, _, hlt⟩ := R.out
        refine ⟨.inr R, ?_⟩
        omega
    · obtain ⟨v, hmade, hbox, hbel, hsz⟩ := HO.out
      obtain ⟨k0, k1, k2, f0, f1, f2⟩ := hbox.three
      have HW := hide hmade
      have HL := hide (HB.out.trans hbel)
      clear hmade hbox hbel
      go_wp2_with fail
      go_quiet (fail)
      go_wp2_with fail
      go_ret
      obtain ⟨u, h1, h2⟩ := HW.out
      exact ⟨v, rfl, ⟨u, h1, h2⟩, below_drewN HL.out _⟩
set_option maxHeartbeats 4000000 in
theorem parse_high (A : Option Addr) (n c : Nat) (l : List Int) (b : Int) (e : PA.Ev) (w : World) (hA : Seen w w.heap.size A n (u8s l)) (hl : l[0]? = some b) (h128 : 128 ≤ b)
    (HE : ∀ g w', w.heap.size ≤ g → w.heap.size ≤ w'.heap.size → Seen w' w.heap.size A n (u8s l) → Box w' g 61 #[.slice A n c, .int .i64 0, .slice none 0 0] → Calls Tryd.prog 37 #[.pointer (some ⟨g, 0, none⟩)] w' fun en w2 => en = .returned (.tuple #[]) ∧ Done1 w.heap.size g A n c e w' w2) :
    Calls Tryd.prog 17 #[.slice A n c] w fun e' w' => ∃ v, e' = .returned v ∧ Made1 w.heap.size w' e v ∧ Below w.heap.size w w' := by
  have hlen : l.length = n := by simpa [u8s] using hA.1
  have hn0 : 0 < n := by have := (List.getElem?_eq_some_iff.1 hl).1; omega
  have HA1 := hide (hA.alloc (Nat.le_refl _) (.cells #[.slice A n c, .int .i64 0, .slice none 0 0] 61))
  have HB := hide ((Below.refl w.heap.size w).alloc (Nat.le_refl _) (.cells #[.slice A n c, .int .i64 0, .slice none 0 0] 61))
  have BX := hide (Box.new w 61 #[.slice A n c, .int .i64 0, .slice none 0 0])
  have HL := hide hl
  have HEE := hide HE
  have d27 : (b == 27) = false := by simp; omega
  have d127 : (b == 127) = false := by simp; omega
  clear hA hl HE hlen
  have hs0 : (w.alloc (.cells #[.slice A n c, .int .i64 0, .slice none 0 0] 61)).heap.size = w.heap.size + 1 := by simp
  go_enter Tryd.func17, Tryd.ntmps17
  go_upto_block 0 with fail
  generalize hw0 : w.alloc (.cells #[.slice A n c, .int .i64 0, .slice none 0 0] 61) = w0 at HA1 HB BX hs0 ⊢
  obtain ⟨g, hg⟩ : ∃ g, w.heap.size = g := ⟨_, rfl⟩
  have HG := hide hg
  rw [hg] at BX ⊢
  have hle : w.heap.size ≤ w0.heap.size := by omega
  clear hw0 hg hs0
  go_wp2_with fail
  go_loopw [] (fun wr => wr = w0 ∨ Hid (Done1 w.heap.size g A n c e w0 wr)) (fun wr => w0.heap.size + 1 - wr.heap.size)
  case atStart => exact .inl rfl
  case round =>
    rcases hrel with rfl | HO
    · obtain ⟨k0, k1, k2, f0, f1, f2⟩ := BX.out.three
      obtain ⟨ad, u, rfl, _, hu, hc⟩ := HA1.out.at_ (k := 0) hn0
      rw [u8s, List.getElem?_map, HL.out] at hu
      obtain rfl := Option.some.inj hu
      rw [show ad.add 0 = ad from by simp [Addr.add]] at hc
      have hn0' : (0 : Int) < (n : Int) := by omega
      go_wp2_with fail
      go_quiet (fail)
      go_wp2_with fail
      go_quiet (fail)
      go_wp2_with fail
      refine (HEE.out g _ (Nat.le_of_eq HG.out) ?_ ?_ ?_).mono ?_
      · simpa using hle
      · exact HA1.out.below (below_drewN (Below.refl w.heap.size wr) _)
      · exact BX.out
      · rintro en w2 ⟨rfl, hD⟩
        have R := hide (hD.since (below_drewN (Below.refl w.heap.size wr) _))
        clear hD
        go_wp2_with fail
        obtain ⟨_, _, _, _, hlt⟩ := R.out
        refine ⟨.inr R, ?_⟩
        omega
    · obtain ⟨v, hmade, hbox, hbel, hsz⟩ := HO.out
      obtain ⟨k0, k1, k2, f0, f1, f2⟩ := hbox.three
      have HW := hide hmade
      have HL := hide (HB.out.trans hbel)
      clear hmade hbox hbel
      go_wp2_with fail
      go_quiet (fail)
      go_wp2_with fail
      go_ret
      obtain ⟨u, h1, h2⟩ := HW.out
      exact ⟨v, rfl, ⟨u, h1, h2⟩, below_drewN HL.out _⟩
end Go.Proofs.YtnnjppgmadmmaaaDoor
set_option maxRecDepth 100000
namespace Go.Proofs.YtnnjppgmadmmaaaDoor
open Go.RowKit
set_option linter.unusedVariables false
theorem done1_put {B g n c : Nat} {A : Option Addr} {e : PA.Ev} {u v vz z : Value} {w0 w3 : World} {k : Int} (hown : w3.ownsRow B 24 7 v 1 (ecells e u)) (bx : Box w3 g 61 #[.slice A n c, .int .i64 k, z]) (hk : k = n) (hz : vz.ownBlock = none) (hg : w0.grownBy w3 vz.ownBlock) (hm : Moved w0 vz v)
    (hB : B ≤ g) (hBw : B ≤ w0.heap.size) (hp : ParIn w3 (e, u)) (hc : NotIn g e u) : Done1 B g A n c e w0 (w3.setCell ⟨g, 2, none⟩ v) := by
  subst hk
  have hne : v.ownBlock ≠ some g := own_ne_box hown bx (by decide)
  obtain ⟨b, hb, _, hbl⟩ := own_has (n := 0) hown
  refine ⟨v, ⟨u, own_store hown (p := ⟨g, 2, none⟩) hne v, parIn_set hp hc _⟩, by simpa using bx.set 2 v, (below_of_grown hg hBw (fun q hq => by rw [hz] at hq; cases hq)).setCell (p := ⟨g, 2, none⟩) hB _, ?_⟩
  simp only [World.setCell, Array.size_modify]
  rcases hm with hm | ⟨q, hq, hq2⟩
  · rw [hz, hb] at hm; cases hm
  · rw [hb] at hq; cases hq; omega
/-- the scanner one place on -/
theorem next_at (g : Nat) (A : Option Addr) (n c k : Nat) (l : List Int) (vo : Value) (x : Int) (w : World) (B : Nat) (hB : B ≤ g) (hbox : Box w g 61 #[.slice A n c, .int .i64 k, vo]) (hb : Seen w B A n (u8s l)) (hk : l[k]? = some x) (h32 : 32 ≤ x) (h127 : x < 127) (hn : n ≤ 274877906944) :
    Calls Tryd.prog 46 #[.pointer (some ⟨g, 0, none⟩)] w fun e w' => e = .returned (.tuple #[.int .u8 x, .bool true]) ∧ Box w' g 61 #[.slice A n c, .int .i64 ((k : Int) + 1), vo] ∧ Below B w w' ∧ w'.heap.size = w.heap.size ∧ Kept [some g] w w' := by
  refine (next_plain g _ A n c k l vo x w B hbox hb hk h32 h127 hn).mono ?_
  rintro e w' ⟨rfl, m, rfl⟩
  exact ⟨rfl, by simpa using (show Box (w.drewN m) g _ _ from hbox).set 1 (.int .i64 ((k : Int) + 1)), (below_drewN (Below.refl B w) m).setCell (p := ⟨g, 1, none⟩) hB _, by simp [World.setCell], ((Kept.refl _ w).drewN m).setCell (p := ⟨g, 1, none⟩) (From.mem (by simp)) _⟩
set_option maxHeartbeats 4000000 in
theorem esc_two (B g n c : Nat) (A : Option Addr) (f : Int) (w : World) (hB : B ≤ g) (hBw : B ≤ w.heap.size) (hA : Seen w B A n (u8s [27, f])) (hb : Box w g 61 #[.slice A n c, .int .i64 1, .slice none 0 0]) (h48 : 48 ≤ f) (h126 : f ≤ 126) (hno : ¬ PA.opens f) :
    Calls Tryd.prog 36 #[.pointer (some ⟨g, 0, none⟩)] w fun en w2 => en = .returned (.tuple #[]) ∧ Done1 B g A n c ⟨3, 0, 0, 0, f, [], []⟩ w w2 := by
  obtain ⟨i0, hi, hz0, hz1, hz2⟩ := info_parts info_ev
  have hn : n = 2 := by have := hA.1; simp [u8s] at this; omega
  subst hn
  have NX := hide (next_at g A 2 c 1 [27, f] (.slice none 0 0) f w B hB (by simpa using hb) hA rfl (by omega) (by omega) (by omega))
  obtain ⟨vz, hvz⟩ : ∃ v, Value.slice none 0 0 = v := ⟨_, rfl⟩
  rw [hvz] at NX
  have HZ := hide (show (∀ w', World.ownsRow w' B 24 7 vz 0 []) ∧ vz.ownBlock = none from ⟨fun w' => by rw [← hvz]; exact World.ownsRow_nil _ _ _ _, by rw [← hvz]; rfl⟩)
  have hop : f ≠ 91 ∧ f ≠ 93 ∧ f ≠ 80 ∧ f ≠ 88 ∧ f ≠ 94 ∧ f ≠ 95 := by unfold PA.opens at hno; omega
  obtain ⟨p1, p2, p3, p4, p5, p6⟩ := hop
  have d1 : (f == 91) = false := by simpa using p1
  have d2 : (f == 93) = false := by simpa using p2
  have d3 : (f == 80) = false := by simpa using p3
  have d4 : (f == 88) = false := by simpa using p4
  have d5 : (f == 94) = false := by simpa using p5
  have d6 : (f == 95) = false := by simpa using p6
  clear hvz hA hb hno p1 p2 p3 p4 p5 p6
  go_enter Tryd.func36, Tryd.ntmps36
  go_wp2_with fail
  refine NX.out.mono ?_
  rintro e w1 ⟨rfl, bx, bb, hs, _⟩
  obtain ⟨k0, k1, k2, f0, f1, f2⟩ := bx.three
  have BX := hide bx
  have BB := hide bb
  have hle : B ≤ w1.heap.size := by omega
  clear bx bb hs
  go_wp2_with fail
  go_loopw [2, 4, 5] (fun x im mn wr => x = .int .u8 f ∧ im = .int .u8 0 ∧ mn = .int .i64 0 ∧ wr = w1) (fun _ _ _ _ => 0)
  case atStart => exact ⟨rfl, rfl, rfl, rfl⟩
  case round =>
    obtain ⟨rfl, rfl, rfl, rfl⟩ := hrel
    go_wp2_with (at_builtin; go_must (refine wpList_appS rfl (.tmp 47) (.tmp 51) 36 rfl B 24 i0 _ 7 56 Tryd.underlying36 hi hz0 hz1 hz2 zev_size (by omega) vz 0 [] rfl (HZ.out.1 _) _ _ _ rfl rfl rfl (by intro u hu; simp at hu; (repeat' (first | (rcases hu with rfl | hu) | subst hu)) <;> rfl) (by omega) (by omega) (by first | omega | (simp; omega)) ?_); intro v' w3 hown3 hg3 hm3; simp only [Nat.zero_add, List.nil_append] at hown3; obtain ⟨A3, c3, rfl, _⟩ := own_form' hown3; have bx3 := Box.grown BX.out hg3 (by rw [HZ.out.2]; simp); obtain ⟨j0, j1, j2, l0, l1, l2⟩ := bx3.three)
    have R := hide (done1_put (e := ⟨3, 0, 0, 0, f, [], []⟩) (u := .slice none 0 0) (n := 2) hown3 bx3 (by omega) HZ.out.2 hg3 hm3 hB hle (parIn_none rfl) (NotIn.nil _ _))
    have R2 := hide (R.out.since BB.out)
    go_end0
    exact ⟨rfl, R2.out⟩
set_option maxHeartbeats 4000000 in
theorem esc_three (B g n c : Nat) (A : Option Addr) (i f : Int) (w : World) (hB : B ≤ g) (hBw : B ≤ w.heap.size) (hA : Seen w B A n (u8s [27, i, f])) (hb : Box w g 61 #[.slice A n c, .int .i64 1, .slice none 0 0]) (hi0 : 32 ≤ i) (hi1 : i ≤ 47) (h48 : 48 ≤ f) (h126 : f ≤ 126) :
    Calls Tryd.prog 36 #[.pointer (some ⟨g, 0, none⟩)] w fun en w2 => en = .returned (.tuple #[]) ∧ Done1 B g A n c ⟨3, 0, 0, i, f, [], []⟩ w w2 := by
  obtain ⟨i0, hi, hz0, hz1, hz2⟩ := info_parts info_ev
  have hn : n = 3 := by have := hA.1; simp [u8s] at this; omega
  subst hn
  have NX := hide (next_at g A 3 c 1 [27, i, f] (.slice none 0 0) i w B hB (by simpa using hb) hA rfl (by omega) (by omega) (by omega))
  have NY := hide (fun (w1 : World) (b1 : Below B w w1) (vo : Value) (hb1 : Box w1 g 61 #[.slice A 3 c, .int .i64 (((1 : Nat) : Int) + 1), vo]) => next_at g A 3 c 2 [27, i, f] vo f w1 B hB (by simpa using hb1) (hA.below b1) rfl (by omega) (by omega) (by omega))
  obtain ⟨vz, hvz⟩ : ∃ v, Value.slice none 0 0 = v := ⟨_, rfl⟩
  rw [hvz] at NX
  have HZ := hide (show (∀ w', World.ownsRow w' B 24 7 vz 0 []) ∧ vz.ownBlock = none from ⟨fun w' => by rw [← hvz]; exact World.ownsRow_nil _ _ _ _, by rw [← hvz]; rfl⟩)
  have d1 : (i == 91) = false := by simp; omega
  have d2 : (i == 93) = false := by simp; omega
  have d3 : (i == 80) = false := by simp; omega
  have d4 : (i == 88) = false := by simp; omega
  have d5 : (i == 94) = false := by simp; omega
  have d6 : (i == 95) = false := by simp; omega
  clear hvz hA hb
  go_enter Tryd.func36, Tryd.ntmps36
  go_wp2_with fail
  refine NX.out.mono ?_
  rintro e w1 ⟨rfl, bx, bb, hs, _⟩
  obtain ⟨k0, k1, k2, f0, f1, f2⟩ := bx.three
  have BX := hide bx
  have BB := hide bb
  have hle : B ≤ w1.heap.size := by omega
  clear bx bb hs
  go_wp2_with fail
  go_loopw [2, 3, 4, 5] (fun x ok im mn wr => (x = .int .u8 i ∧ ok = .bool true ∧ im = .int .u8 0 ∧ mn = .int .i64 0 ∧ wr = w1) ∨ (x = .int .u8 f ∧ ok = .bool true ∧ im = .int .u8 i ∧ mn = .int .i64 1 ∧ Hid (Box wr g 61 #[.slice A 3 c, .int .i64 (((2 : Nat) : Int) + 1), vz] ∧ Below B w1 wr))) (fun _ _ _ mn _ => 1 - (intOf mn).toNat)
  case atStart => exact .inl ⟨rfl, rfl, rfl, rfl, rfl⟩
  case round =>
    rcases hrel with ⟨rfl, rfl, rfl, rfl, rfl⟩ | ⟨rfl, rfl, rfl, rfl, HH⟩
    · go_wp2_with fail
      refine (NY.out wr BB.out vz BX.out).mono ?_
      rintro e w2 ⟨rfl, bx2, bb2, _, _⟩
      have R := hide (And.intro bx2 bb2)
      clear bx2 bb2
      go_wp2_with fail
      go_roundw
      case rel => exact .inr ⟨rfl, rfl, rfl, rfl, R⟩
      case measure => simp [intOf]
    have BX2 := hide HH.out.1
    have BB2 := hide (BB.out.trans HH.out.2)
    obtain ⟨k0, k1, k2, f0, f1, f2⟩ := BX2.out.three
    have hle2 : B ≤ wr.heap.size := by have := HH.out.2.size; omega
    clear HH
    go_wp2_with (at_builtin; go_must (refine wpList_appS rfl (.tmp 47) (.tmp 51) 36 rfl B 24 i0 _ 7 56 Tryd.underlying36 hi hz0 hz1 hz2 zev_size (by omega) vz 0 [] rfl (HZ.out.1 _) _ _ _ rfl rfl rfl (by intro u hu; simp at hu; (repeat' (first | (rcases hu with rfl | hu) | subst hu)) <;> rfl) (by omega) (by omega) (by first | omega | (simp; omega)) ?_); intro v' w3 hown3 hg3 hm3; simp only [Nat.zero_add, List.nil_append] at hown3; obtain ⟨A3, c3, rfl, _⟩ := own_form' hown3; have bx3 := Box.grown BX2.out hg3 (by rw [HZ.out.2]; simp); obtain ⟨j0, j1, j2, l0, l1, l2⟩ := bx3.three)
    have R := hide (done1_put (e := ⟨3, 0, 0, i, f, [], []⟩) (u := .slice none 0 0) (n := 3) hown3 bx3 (by omega) HZ.out.2 hg3 hm3 hB hle2 (parIn_none rfl) (NotIn.nil _ _))
    have R2 := hide (R.out.since BB2.out)
    go_end0
    exact ⟨rfl, R2.out⟩
set_option maxHeartbeats 4000000 in
theorem esc_csi (B g n c : Nat) (A : Option Addr) (l : List Int) (ev : PA.Ev) (w : World) (hB : B ≤ g) (hA : Seen w B A n (u8s l)) (hb : Box w g 61 #[.slice A n c, .int .i64 1, .slice none 0 0]) (hl : l[1]? = some 91) (hn : n ≤ 274877906944)
    (HC : ∀ w1, Seen w1 B A n (u8s l) → Box w1 g 61 #[.slice A n c, .int .i64 2, .slice none 0 0] → w1.heap.size = w.heap.size → Calls Tryd.prog 47 #[.pointer (some ⟨g, 0, none⟩)] w1 fun en w2 => en = .returned (.tuple #[]) ∧ Done1 B g A n c ev w1 w2) :
    Calls Tryd.prog 36 #[.pointer (some ⟨g, 0, none⟩)] w fun en w2 => en = .returned (.tuple #[]) ∧ Done1 B g A n c ev w w2 := by
  have NX := hide (next_at g A n c 1 l (.slice none 0 0) 91 w B hB (by simpa using hb) hA hl (by omega) (by omega) hn)
  have HA := hide hA
  have HCC := hide HC
  clear hA hb hl HC
  go_enter Tryd.func36, Tryd.ntmps36
  go_wp2_with fail
  refine NX.out.mono ?_
  rintro e w1 ⟨rfl, bx, bb, hs, _⟩
  have CC := hide (HCC.out w1 (HA.out.below bb) (by simpa using bx) hs)
  have BB := hide bb
  clear bx bb hs NX HA HCC
  go_wp2_with fail
  refine CC.out.mono ?_
  rintro e w2 ⟨rfl, hD⟩
  have R := hide (hD.since BB.out)
  clear hD
  go_wp2_with fail
  refine bodyPost_ret (results_none rfl _ _ _) rfl ?_
  exact ⟨rfl, R.out⟩
set_option maxHeartbeats 4000000 in
theorem esc_osc (B g n c : Nat) (A : Option Addr) (l : List Int) (ev : PA.Ev) (w : World) (hB : B ≤ g) (hA : Seen w B A n (u8s l)) (hb : Box w g 61 #[.slice A n c, .int .i64 1, .slice none 0 0]) (hl : l[1]? = some 93) (hn : n ≤ 274877906944)
    (HC : ∀ w1, Seen w1 B A n (u8s l) → Box w1 g 61 #[.slice A n c, .int .i64 2, .slice none 0 0] → w1.heap.size = w.heap.size → Calls Tryd.prog 48 #[.pointer (some ⟨g, 0, none⟩), .bool true] w1 fun en w2 => en = .returned (.tuple #[]) ∧ Done1 B g A n c ev w1 w2) :
    Calls Tryd.prog 36 #[.pointer (some ⟨g, 0, none⟩)] w fun en w2 => en = .returned (.tuple #[]) ∧ Done1 B g A n c ev w w2 := by
  have NX := hide (next_at g A n c 1 l (.slice none 0 0) 93 w B hB (by simpa using hb) hA hl (by omega) (by omega) hn)
  have HA := hide hA
  have HCC := hide HC
  clear hA hb hl HC
  go_enter Tryd.func36, Tryd.ntmps36
  go_wp2_with fail
  refine NX.out.mono ?_
  rintro e w1 ⟨rfl, bx, bb, hs, _⟩
  have CC := hide (HCC.out w1 (HA.out.below bb) (by simpa using bx) hs)
  have BB := hide bb
  clear bx bb hs NX HA HCC
  go_wp2_with fail
  refine CC.out.mono ?_
  rintro e w2 ⟨rfl, hD⟩
  have R := hide (hD.since BB.out)
  clear hD
  go_wp2_with fail
  refine bodyPost_ret (results_none rfl _ _ _) rfl ?_
  exact ⟨rfl, R.out⟩
end Go.Proofs.YtnnjppgmadmmaaaDoor
set_option maxRecDepth 100000
namespace Go.Proofs.YtnnjppgmadmmaaaDoor
open Go.RowKit
set_option linter.unusedVariables false
/-- k bytes of the text were taken -/
def TextAt (B g n c : Nat) (A : Option Addr) (t : List Int) (vz : Value) (w0 : World) (k : Nat) (b : Value) (w : World) : Prop :=
  w.ownsRow B 5 1 b k (u8s (t.take k)) ∧ Box w g 61 #[.slice A n c, .int .i64 ((2 : Int) + k), vz] ∧ Below B w0 w
theorem TextAt.on {B g n c : Nat} {A : Option Addr} {t : List Int} {vz : Value} {w0 w : World} {k : Nat} {b : Value} (h : TextAt B g n c A t vz w0 k b w) (hB : B ≤ g) (q1 q2 : Nat) (x : Int) :
    (((w.drewN q1).setCell ⟨g, 1, none⟩ (.int .i64 x)).drewN q2).ownsRow B 5 1 b k (u8s (t.take k)) ∧ Box (((w.drewN q1).setCell ⟨g, 1, none⟩ (.int .i64 x)).drewN q2) g 61 #[.slice A n c, .int .i64 x, vz] ∧ Below B w0 (((w.drewN q1).setCell ⟨g, 1, none⟩ (.int .i64 x)).drewN q2) := by
  obtain ⟨h1, h2, h3⟩ := h
  have hne := own_ne_box h1 h2 (by decide)
  refine ⟨own_store (show (w.drewN q1).ownsRow _ _ _ _ _ _ from h1) (p := ⟨g, 1, none⟩) hne _, (show Box ((w.drewN q1).setCell ⟨g, 1, none⟩ (.int .i64 x)) g _ _ from by simpa using (show Box (w.drewN q1) g _ _ from h2).set 1 (.int .i64 x)), below_drewN ((below_drewN h3 _).setCell (p := ⟨g, 1, none⟩) hB _) _⟩
set_option maxHeartbeats 8000000 in
theorem text_any (B g n c : Nat) (A : Option Addr) (t : List Int) (w : World) (hB : B ≤ g) (hBw : B ≤ w.heap.size) (hA : Seen w B A n (u8s (27 :: 93 :: t ++ [7]))) (hb : Box w g 61 #[.slice A n c, .int .i64 2, .slice none 0 0]) (ht : ∀ x ∈ t, 32 ≤ x ∧ x < 256) (hl : t.length ≤ 4096) :
    Calls Tryd.prog 48 #[.pointer (some ⟨g, 0, none⟩), .bool true] w fun en w2 => en = .returned (.tuple #[]) ∧ Done1 B g A n c ⟨5, 0, 0, 0, 0, [], t⟩ w w2 := by
  obtain ⟨i0, hi, hz0, hz1, hz2⟩ := info_parts info_ev
  obtain ⟨i1, hj, hy0, hy1, hy2⟩ := info_parts info_u8
  have hlen : n = t.length + 3 := by have := hA.1; simp [u8s] at this; omega
  obtain ⟨m, hm⟩ : ∃ m, t.length = m := ⟨_, rfl⟩
  rw [hm] at hlen hl
  obtain ⟨vz, hvz⟩ : ∃ v, Value.slice none 0 0 = v := ⟨_, rfl⟩
  have HZ := hide (show (∀ w', World.ownsRow w' B 24 7 vz 0 []) ∧ vz.ownBlock = none from ⟨fun w' => by rw [← hvz]; exact World.ownsRow_nil _ _ _ _, by rw [← hvz]; rfl⟩)
  rw [hvz] at hb
  have T0 := hide (show TextAt B g n c A t vz w 0 (.slice none 0 0) w from ⟨World.ownsRow_nil _ _ _ _, by simpa using hb, Below.refl _ _⟩)
  have HA := hide hA
  have HT := hide ht
  have HM := hide hm
  subst hlen
  clear hvz hA hb ht hm
  go_enter Tryd.func48, Tryd.ntmps48
  go_wp2_with fail
  go_loopw [4, 5] (fun b kn wr => ∃ k : Nat, k ≤ m ∧ kn = .int .i64 k ∧ Hid (TextAt B g (m + 3) c A t vz w k b wr)) (fun _ kn _ => m - (intOf kn).toNat)
  case atStart => exact ⟨0, Nat.zero_le _, rfl, T0⟩
  case round =>
    obtain ⟨k, hkm, rfl, HK⟩ := hrel
    obtain ⟨ho, hbx, hbl⟩ := HK.out
    obtain ⟨k0, k1, k2, f0, f1, f2⟩ := hbx.three
    obtain ⟨Ab, cb, rfl, _⟩ := own_form ho
    obtain ⟨ad, u, rfl, _, hu, hc⟩ := (HA.out.below hbl).at_ (k := 2 + k) (by omega)
    have hi0 : (0 : Int) ≤ 2 + (k : Int) := by omega
    have hi1 : 2 + (k : Int) < ((m + 3 : Nat) : Int) := by omega
    have hix : (2 + (k : Int)).toNat = 2 + k := by omega
    have HO := hide ho
    have BX := hide hbx
    have BL := hide hbl
    have hle : B ≤ wr.heap.size := by have := hbl.size; omega
    by_cases hlt : k < m
    · obtain ⟨x, hx⟩ : ∃ x, t[k]? = some x := ⟨_, List.getElem?_eq_getElem (by rw [HM.out]; exact hlt)⟩
      have hxb := HT.out x (List.mem_of_getElem? hx)
      have hu : u = .int .u8 x := by
        rw [u8s, List.getElem?_map] at hu
        have : (27 :: 93 :: t ++ [7])[2 + k]? = some x := by
          rw [show 2 + k = k + 1 + 1 from by omega]
          simp only [List.cons_append, List.getElem?_cons_succ]
          rw [List.getElem?_append_left (by rw [HM.out]; exact hlt)]
          exact hx
        rw [this] at hu
        exact (Option.some.inj hu).symm
      subst hu
      have HS := hide (show u8s (t.take (k + 1)) = u8s (t.take k) ++ [.int .u8 x] by rw [List.take_add_one, hx]; simp [u8s])
      have d24 : (x == 24) = false := by simp; omega
      have d26 : (x == 26) = false := by simp; omega
      have d27 : (x == 27) = false := by simp; omega
      have d7 : (x == 7) = false := by simp; omega
      obtain ⟨hx0, hx1⟩ := hxb
      have ON := hide (fun q1 q2 => HK.out.on hB q1 q2 (2 + (k : Int) + 1))
      clear ho hbx hbl hx HK
      go_wp2_with fail
      go_quiet (fail)
      go_wp2_with fail
      go_quiet (fail)
      go_wp2_with fail
      go_quiet (fail)
      go_wp2_with fail
      go_quiet (fail)
      go_wp2_with (at_builtin; go_must (refine wpList_app1 rfl (.tmp 127) (.tmp 129) 26 rfl B 5 i1 _ 1 Tryd.underlying26 hj hy0 hy1 hy2 rfl (.slice Ab k cb) k (u8s (t.take k)) rfl (ON.out _ _).1 (.int .u8 x) _ _ rfl (by simp [World.setCell]) rfl (by omega) (by omega) (by simp [World.setCell]; omega) ?_); intro v' w3 hown3 hg3 hm3)
      have R := hide (And.intro hown3 (And.intro (Box.grown (ON.out _ _).2.1 hg3 (own_ne_box (ON.out 0 0).1 (ON.out 0 0).2.1 (by decide)).symm) ((ON.out _ _).2.2.trans (below_of_grown hg3 (by simp [World.setCell]; omega) (fun q hq => ((ON.out 0 0).1.lt q hq).1)))))
      clear hown3 hg3 hm3
      have R2 := hide (show TextAt B g (m + 3) c (some ad) t vz w (k + 1) v' w3 from ⟨by rw [HS.out]; exact R.out.1, by have := R.out.2.1; rw [show (2 : Int) + ((k + 1 : Nat) : Int) = 2 + (k : Int) + 1 from by omega]; exact this, R.out.2.2⟩)
      go_roundw
      case rel => exact ⟨k + 1, by omega, by go_num, R2⟩
      case measure => simp [intOf]; omega
    · obtain rfl : k = m := by omega
      have hu : u = .int .u8 7 := by
        rw [u8s, List.getElem?_map] at hu
        have : (27 :: 93 :: t ++ [7])[2 + k]? = some 7 := by
          rw [show 2 + k = k + 1 + 1 from by omega]
          simp only [List.cons_append, List.getElem?_cons_succ]
          rw [← HM.out]
          exact List.getElem?_concat_length
        rw [this] at hu
        exact (Option.some.inj hu).symm
      subst hu
      have HS := hide (show u8s (t.take k) = u8s t by rw [List.take_of_length_le (by rw [HM.out]; omega)])
      have ON := hide (fun q1 q2 => HK.out.on hB q1 q2 (2 + (k : Int) + 1))
      clear ho hbx hbl HK
      go_wp2_with fail
      go_quiet (fail)
      go_wp2_with fail
      go_quiet (fail)
      go_wp2_with fail
      go_quiet (fail)
      go_wp2_with fail
      go_quiet (fail)
      go_wp2_with fail
      generalize hw1 : (((wr.drewN _).setCell ⟨g, 1, none⟩ (.int .i64 (2 + (k : Int) + 1))).drewN _) = w1
      have hon : w1.ownsRow B 5 1 (.slice Ab k cb) k (u8s (t.take k)) ∧ Box w1 g 61 #[.slice (some ad) (k + 3) c, .int .i64 (2 + (k : Int) + 1), vz] ∧ Below B w w1 := by rw [← hw1]; exact ON.out _ _
      rw [HS.out] at hon
      obtain ⟨ho, hbx, hbl⟩ := hon
      have hs1 := hbl.size
      have hsn := Seen.of_own ho
      have cv0 := conv_seen (w := w1.drew) (c := cb) hsn.drew
      have cv1 := fun o => conv_seen (w := (w1.alloc o).drew) (c := cb) (hsn.alloc (Nat.le_refl _) o).drew
      have cv2 := conv_seen (w := w1) (c := cb) hsn
      obtain ⟨st, hst⟩ : ∃ s, strOfNums t = s := ⟨_, rfl⟩
      rw [hst] at cv0 cv1 cv2
      have HST := hide hst
      have BX1 := hide hbx
      have BL1 := hide hbl
      obtain ⟨q0, q1, q2, g0, g1, g2⟩ := hbx.three
      have qa : ∀ o, (w1.alloc o).cell? ⟨g, 2, none⟩ = some vz := fun o => (World.cell?_alloc_lt w1 o _ hbx.lt).trans q2
      have HEC := hide (show ecells ⟨5, 0, 0, 0, 0, [], t⟩ (.slice none 0 0) = [.int .i64 5, .int .i32 0, .int .u8 0, .int .u8 0, .int .u8 0, .slice none 0 0, .string st] from by rw [← HST.out]; rfl)
      clear ho hbx hbl hsn hst hw1 ON HO BX BL k0 k1 k2 f0 f1 f2 hc hu HA T0 hi0 hi1 hix hle
      go_region_law (refine (step_appB (by rfl) (.tmp 112) (.tmp 116) 36 (by rfl) B 24 i0 _ 7 56 Tryd.underlying36 hi hz0 hz1 hz2 zev_size (by omega) vz 0 [] (by rfl) (HZ.out.1 _) #[.int .i64 5, .int .i32 0, .int .u8 0, .int .u8 0, .int .u8 0, .slice none 0 0, .string st] 24 w1.heap.size (by rfl) (Box.new w1 24 #[.int .i64 5, .int .i32 0, .int .u8 0, .int .u8 0, .int .u8 0, .slice none 0 0, .string st]).drew rfl (by simp [Value.oneCell']) (by omega) (by omega) (by simp; omega) ?_); intro v' w3 hown3 hg3 hm3; simp only [Nat.zero_add, List.nil_append] at hown3; obtain ⟨A3, c3, rfl, _⟩ := own_form' hown3; have bx3 := Box.grown ((BX1.out.alloc _).drew) hg3 (by rw [HZ.out.2]; simp); obtain ⟨j0, j1, j2, l0, l1, l2⟩ := bx3.three)
      all_goals
        have R := hide ((done1_put (e := ⟨5, 0, 0, 0, 0, [], t⟩) (u := .slice none 0 0) (n := k + 3) (by rw [HEC.out]; exact hown3) bx3 (by omega) HZ.out.2 hg3 hm3 hB (by simp; omega) (parIn_none rfl) (NotIn.nil _ _)).since (BL1.out.trans (((Below.refl B w1).alloc (by omega) _).drew)))
        clear hown3 hg3 hm3 bx3
        go_wp2_with fail
        refine bodyPost_ret (results_none rfl _ _ _) rfl ?_
        exact ⟨rfl, R.out⟩
end Go.Proofs.YtnnjppgmadmmaaaDoor
set_option maxRecDepth 100000
namespace Go.Proofs.YtnnjppgmadmmaaaDoor
open Go.RowKit
set_option linter.unusedVariables false
def DecOne (r : Int) (w : World) (e : Ending) (w' : World) : Prop := ∃ (A : Option Addr) (c : Nat) (left : Int), e = .returned (.tuple #[.slice A 1 c, .int .i64 left]) ∧ left ≤ 0 ∧ w'.ownsRow w.heap.size 21 1 (.slice A 1 c) 1 [.int .i32 r] ∧ Below w.heap.size w w'
/-- the event is made, the place not yet moved -/
def MidH (B g n c : Nat) (A : Option Addr) (e : PA.Ev) (w w' : World) : Prop := ∃ v, Made1 B w' e v ∧ Box w' g 61 #[.slice A n c, .int .i64 0, v] ∧ Below B w w' ∧ w.heap.size < w'.heap.size
theorem midH_put {B g n c : Nat} {A : Option Addr} {e : PA.Ev} {u v vz z : Value} {w0 w3 : World} (hown : w3.ownsRow B 24 7 v 1 (ecells e u)) (bx : Box w3 g 61 #[.slice A n c, .int .i64 0, z]) (hz : vz.ownBlock = none) (hg : w0.grownBy w3 vz.ownBlock) (hm : Moved w0 vz v)
    (hB : B ≤ g) (hBw : B ≤ w0.heap.size) (hp : ParIn w3 (e, u)) (hc : NotIn g e u) : MidH B g n c A e w0 (w3.setCell ⟨g, 2, none⟩ v) := by
  have hne : v.ownBlock ≠ some g := own_ne_box hown bx (by decide)
  obtain ⟨b, hb, _, hbl⟩ := own_has (n := 0) hown
  refine ⟨v, ⟨u, own_store hown (p := ⟨g, 2, none⟩) hne v, parIn_set hp hc _⟩, by simpa using bx.set 2 v, (below_of_grown hg hBw (fun q hq => by rw [hz] at hq; cases hq)).setCell (p := ⟨g, 2, none⟩) hB _, ?_⟩
  simp only [World.setCell, Array.size_modify]
  rcases hm with hm | ⟨q, hq, hq2⟩
  · rw [hz, hb] at hm; cases hm
  · rw [hb] at hq; cases hq; omega
theorem MidH.done {B g n c : Nat} {A : Option Addr} {e : PA.Ev} {w w' : World} (h : MidH B g n c A e w w') (hB : B ≤ g) (hc : ∀ u, ParIn w' (e, u) → NotIn g e u) : Done1 B g A n c e w (w'.setCell ⟨g, 1, none⟩ (.int .i64 n)) := by
  obtain ⟨v, ⟨u, h1, h2⟩, h3, h4, h5⟩ := h
  have hne : v.ownBlock ≠ some g := own_ne_box h1 h3 (by decide)
  exact ⟨v, ⟨u, own_store h1 (p := ⟨g, 1, none⟩) hne _, parIn_set h2 (hc u h2) _⟩, by simpa using h3.set 1 (.int .i64 n), h4.setCell (p := ⟨g, 1, none⟩) hB _, by simpa [World.setCell] using h5⟩
set_option maxHeartbeats 8000000 in
theorem high_any (B g n c : Nat) (A : Option Addr) (l : List Int) (r : Int) (w : World) (hB : B ≤ g) (hBw : B ≤ w.heap.size) (hA : Seen w B A n (u8s l)) (hb : Box w g 61 #[.slice A n c, .int .i64 0, .slice none 0 0]) (h128 : ∀ x ∈ l, 128 ≤ x ∧ x < 256) (hd : U.dec U.z l = (U.z, [r])) (hn : n ≤ 274877906944) (hn0 : 0 < n) (hnc : n ≤ c) :
    Calls Tryd.prog 37 #[.pointer (some ⟨g, 0, none⟩)] w fun en w2 => en = .returned (.tuple #[]) ∧ Done1 B g A n c ⟨1, r, 0, 0, 0, [], []⟩ w w2 := by
  obtain ⟨i0, hi, hz0, hz1, hz2⟩ := info_parts info_ev
  obtain ⟨ad0, _, hA0, _⟩ := hA.at_ hn0
  subst hA0
  have DEC := hide (fun (w' : World) (ix : Below w.heap.size w w') => (show Calls Tryd.prog 49 #[.slice (some ad0) n c] w' (DecOne r w') from by
    refine (refDecode_any (some ad0) n c l w' (((hA.below (ix.mono hBw)).more (by have := ix.size; omega))) (fun x hx => by have := h128 x hx; omega) hn).mono ?_
    rintro e w2 ⟨v, left, rfl, h1, h2, h3⟩
    rw [hd] at h1 h2
    obtain ⟨A, c, rfl, _⟩ := own_form h2
    refine ⟨A, c, left, rfl, ?_, h2, h3⟩
    have : ¬ 0 < left := fun h => by have := h1.1 h; simp [U.z] at this
    omega))
  obtain ⟨vz, hvz⟩ : ∃ v, Value.slice none 0 0 = v := ⟨_, rfl⟩
  have HZ := hide (show (∀ w', World.ownsRow w' B 24 7 vz 0 []) ∧ vz.ownBlock = none from ⟨fun w' => by rw [← hvz]; exact World.ownsRow_nil _ _ _ _, by rw [← hvz]; rfl⟩)
  rw [hvz] at hb
  have HA := hide hA
  have H128 := hide h128
  have BX := hide hb
  obtain ⟨k0, k1, k2, f0, f1, f2⟩ := hb.three
  clear hvz hA h128 hd hb
  go_enter Tryd.func37, Tryd.ntmps37
  go_wp2_with fail
  go_loopw [2] (fun x wr => ∃ k : Nat, k ≤ n ∧ x = .int .i64 k ∧ wr = w) (fun x _ => n - (intOf x).toNat)
  case atStart => exact ⟨0, Nat.zero_le _, rfl, rfl⟩
  case round =>
    obtain ⟨k, hk, rfl, rfl⟩ := hrel
    by_cases hlt : k < n
    · obtain ⟨ad, u, hA1, _, hu, hc⟩ := HA.out.at_ hlt
      cases hA1
      rw [u8s, List.getElem?_map] at hu
      obtain ⟨x, hx, rfl⟩ := Option.map_eq_some_iff.1 hu
      obtain ⟨x0, x1⟩ := H128.out x (List.mem_of_getElem? hx)
      clear hu hx
      go_wp2_with fail
      go_roundw
      case rel => exact ⟨k + 1, by omega, by go_num, by trivial⟩
      case measure => simp [intOf]; omega
    · obtain rfl : k = n := by omega
      go_wp2_with fail
      have R0 : ∀ w', InReg wr w' → w'.cell? ⟨g, 0, none⟩ = some (.slice (some ad0) k c) := fun w' h => (h.cell BX.out.lt).trans k0
      have R1 : ∀ w', InReg wr w' → w'.cell? ⟨g, 1, none⟩ = some (.int .i64 0) := fun w' h => (h.cell BX.out.lt).trans k1
      have hd0 : InReg wr wr.drew := (InReg.refl _).drew
      have hX := Lib.hid hd0
      have hkc : (k : Int) ≤ (c : Int) := by omega
      go_region_held_law (fun w' => InReg wr w') (first | with_reducible exact hd0 | with_reducible exact hX.out)
        (first
          | (go_at_call 49; refine (DEC.out _ hd0).mono ?_; rintro e w2 ⟨A2, c2, left, rfl, hl0, hown, bb⟩; have hX := Lib.hid (InReg.call hd0 bb)))
      have BX2 := hide (hX.out.box BX.out)
      have BB2 := hide (show Below B wr w2 from Below.mono hX.out hBw)
      have hle2 : B ≤ w2.heap.size := by have := hX.out.size; omega
      obtain ⟨ad2, u2, hA2, _, hu2, hc2⟩ := (Seen.of_own hown).at_ (k := 0) (by omega)
      subst hA2
      simp only [List.getElem?_cons_zero, Option.some.injEq] at hu2
      subst hu2
      rw [show ad2.add 0 = ad2 from by simp [Addr.add]] at hc2
      obtain ⟨j0, j1, j2, l0, l1, l2⟩ := BX2.out.three
      have hng : ¬ 0 < left := by omega
      have hgt : decide (0 < left) = false := by simpa using hng
      clear k0 k1 k2 f0 f1 f2 R0 R1 hd0 hX hown bb DEC BX HA H128
      go_wp2_with fail
      go_loopw [46] (fun i wx => (i = .int .i64 0 ∧ wx = w2) ∨ (i = .int .i64 1 ∧ Hid (MidH B g k c (some ad0) ⟨1, r, 0, 0, 0, [], []⟩ w2 wx))) (fun i _ => 1 - (intOf i).toNat)
      case atStart => exact .inl ⟨rfl, rfl⟩
      case round =>
        rcases hrel with ⟨rfl, rfl⟩ | ⟨rfl, HM⟩
        · go_wp2_with (at_builtin; go_must (refine wpList_appS rfl (.tmp 54) (.tmp 57) 36 rfl B 24 i0 _ 7 56 Tryd.underlying36 hi hz0 hz1 hz2 zev_size (by omega) vz 0 [] rfl (HZ.out.1 _) _ _ _ rfl rfl rfl (by intro u hu; simp at hu; (repeat' (first | (rcases hu with rfl | hu) | subst hu)) <;> rfl) (by omega) (by omega) (by first | omega | (simp; omega)) ?_); intro v' w3 hown3 hg3 hm3; simp only [Nat.zero_add, List.nil_append] at hown3; obtain ⟨A3, c3, rfl, _⟩ := own_form' hown3; have bx3 := Box.grown BX2.out hg3 (by rw [HZ.out.2]; simp); obtain ⟨y0, y1, y2, m0, m1, m2⟩ := bx3.three)
          have R := hide (midH_put (e := ⟨1, r, 0, 0, 0, [], []⟩) (u := .slice none 0 0) hown3 bx3 HZ.out.2 hg3 hm3 hB hle2 (parIn_none rfl) (NotIn.nil _ _))
          clear hown3 hg3 hm3 bx3
          go_roundw
          case rel => exact .inr ⟨rfl, R⟩
          case measure => simp [intOf]
        · have R := hide (((HM.out.done hB (fun u hu h0 => absurd h0 (by simp))).since BB2.out))
          obtain ⟨v, _, hbx, _, _⟩ := HM.out
          obtain ⟨y0, y1, y2, m0, m1, m2⟩ := hbx.three
          clear hbx j0 j1 j2 l0 l1 l2
          go_wp2_with fail
          go_end0
          exact ⟨rfl, R.out⟩
end Go.Proofs.YtnnjppgmadmmaaaDoor
set_option maxRecDepth 100000
namespace Go.Proofs.YtnnjppgmadmmaaaDoor.PA
/-- bounds of what is kept of a CSI -/
def RcOk (k : Nat) (s : RC) : Prop := 1 ≤ s.params.length ∧ s.params.length ≤ k + 1 ∧ (∀ x ∈ s.params, -1 ≤ x ∧ x ≤ 65535) ∧ s.many ≤ k
theorem rcOk0 : RcOk 0 rc0 := ⟨by simp [rc0], by simp [rc0], by simp [rc0], by simp [rc0]⟩
theorem rcOk_step {k : Nat} {s : RC} {x : Int} (h : RcOk k s) (h0 : 32 ≤ x) (h1 : x < 64) : RcOk (k + 1) (rcStep s x) := by
  obtain ⟨a, b, c, d⟩ := h
  unfold rcStep
  by_cases c1 : x < 48
  · rw [if_pos c1]; exact ⟨a, by simp only []; omega, c, by simp only []; omega⟩
  rw [if_neg (show ¬ x < 48 by omega)]
  by_cases c2 : 0 < s.many ∨ x = 58
  · rw [if_pos c2]; exact ⟨a, by simp only []; omega, c, by simp only []; omega⟩
  rw [if_neg c2]
  by_cases c3 : 60 ≤ x
  · rw [if_pos c3]; exact ⟨a, by simp only []; omega, c, by simp only []; omega⟩
  rw [if_neg c3]
  by_cases c4 : x = 59
  · rw [if_pos c4]
    refine ⟨by simp, by simp; omega, fun y hy => ?_, by simp only []; omega⟩
    rcases List.mem_append.1 hy with hy | hy
    · exact c y hy
    · rw [List.mem_singleton.1 hy]; omega
  rw [if_neg c4]
  refine ⟨by simpa using a, by simp; omega, fun y hy => ?_, by simp only []; omega⟩
  rcases List.mem_or_eq_of_mem_set hy with hy | hy
  · exact c y hy
  · subst hy
    have hlt : s.params.length - 1 < s.params.length := by omega
    have hm := c _ (List.getElem_mem hlt)
    rw [show s.params.getD (s.params.length - 1) 0 = s.params[s.params.length - 1] from by rw [List.getD_eq_getElem?_getD, List.getElem?_eq_getElem hlt]; rfl]
    have := up_bd (n := x - 48) hm.2 (by omega) (by omega)
    omega
theorem rc_take {l : List Int} {k : Nat} {x : Int} {s : RC} (h : rcAll rc0 (l.take k) = s) (hx : l[k]? = some x) : rcAll rc0 (l.take (k + 1)) = rcStep s x := by
  rw [List.take_add_one, hx, rcAll_app, h]
  rfl
end Go.Proofs.YtnnjppgmadmmaaaDoor.PA
namespace Go.Proofs.YtnnjppgmadmmaaaDoor
open Go.RowKit
set_option linter.unusedVariables false
/-- what the loop keeps in memory -/
structure CsiMem (B g gE n c : Nat) (A : Option Addr) (vz : Value) (w0 : World) (k : Nat) (pv it : Int) (prs : List Int) (ps : Value) (w : World) : Prop where
  own : w.ownsRow B 3 1 ps prs.length (i64s prs)
  ev : Box w gE 24 #[.int .i64 4, .int .i32 0, .int .u8 pv, .int .u8 it, .int .u8 0, .slice none 0 0, .string ⟨#[]⟩]
  sc : Box w g 61 #[.slice A n c, .int .i64 ((2 + k : Nat) : Int), vz]
  bl : Below B w0 w
section
variable {B g gE n c : Nat} {A : Option Addr} {vz : Value} {w0 w w' : World} {k : Nat} {pv it : Int} {prs : List Int} {ps : Value}
theorem box_ne {t t' : TypeId} {cs cs' : Array Value} {a b : Nat} (h : Box w a t cs) (h' : Box w b t' cs') (hne : t ≠ t') : a ≠ b := fun e => by
  subst e
  unfold Box at h h'
  rw [h] at h'
  injection h' with h'
  injection h' with _ h' _
  exact hne h'
theorem CsiMem.next (h : CsiMem B g gE n c A vz w0 k pv it prs ps w) (hb : Box w' g 61 #[.slice A n c, .int .i64 (((2 + k : Nat) : Int) + 1), vz]) (kk : Kept [some g] w w') (bb : Below B w w') : CsiMem B g gE n c A vz w0 (k + 1) pv it prs ps w' := by
  have hne := own_ne_box h.own h.sc (by decide)
  have hge := box_ne h.ev h.sc (by decide)
  exact ⟨own_kept h.own kk (fun b hb hm => by simp at hm; exact hne (by rw [hb, hm])), h.ev.kept kk (by simpa using hge), by rw [show ((2 + (k + 1) : Nat) : Int) = ((2 + k : Nat) : Int) + 1 from by omega]; exact hb, h.bl.trans bb⟩
theorem CsiMem.inter (h : CsiMem B g gE n c A vz w0 k pv it prs ps w) (hE : B ≤ gE) (x : Int) : CsiMem B g gE n c A vz w0 k pv x prs ps (w.setCell ⟨gE, 3, none⟩ (.int .u8 x)) :=
  ⟨own_store h.own (p := ⟨gE, 3, none⟩) (own_ne_box h.own h.ev (by decide)) _, by simpa using h.ev.set 3 (.int .u8 x), h.sc.far (p := ⟨gE, 3, none⟩) (box_ne h.ev h.sc (by decide)).symm _, h.bl.setCell (p := ⟨gE, 3, none⟩) hE _⟩
theorem CsiMem.priv (h : CsiMem B g gE n c A vz w0 k pv it prs ps w) (hE : B ≤ gE) (x : Int) : CsiMem B g gE n c A vz w0 k x it prs ps (w.setCell ⟨gE, 2, none⟩ (.int .u8 x)) :=
  ⟨own_store h.own (p := ⟨gE, 2, none⟩) (own_ne_box h.own h.ev (by decide)) _, by simpa using h.ev.set 2 (.int .u8 x), h.sc.far (p := ⟨gE, 2, none⟩) (box_ne h.ev h.sc (by decide)).symm _, h.bl.setCell (p := ⟨gE, 2, none⟩) hE _⟩
theorem CsiMem.row (h : CsiMem B g gE n c A vz w0 k pv it prs ps w) (kk : Kept [] w w') (hB : B ≤ w.heap.size) {prs' : List Int} {ps' : Value} (ho : w'.ownsRow w.heap.size 3 1 ps' prs'.length (i64s prs')) : CsiMem B g gE n c A vz w0 k pv it prs' ps' w' :=
  ⟨own_base' ho hB, h.ev.kept kk (by simp), h.sc.kept kk (by simp), h.bl.trans (kk.toBelow hB (by simp))⟩
end
theorem own_some {w : World} {base q : Nat} {e : TypeId} {v : Value} {xs : List Value} (h : w.ownsRow base e 1 v (q + 1) xs) : ∃ b c, v = .slice (some ⟨b, 0, none⟩) (q + 1) c ∧ base ≤ b := by
  rcases h.2 with ⟨_, h0⟩ | ⟨g, cap, cur, hv, hb, _⟩
  · omega
  · exact ⟨g, cap, hv, hb⟩
/-- are there parameters? -/
def Has (b : Bool) (pp : List Int) : Prop := b = true ↔ pp ≠ []
theorem has_many {pp : List Int} {q : Nat} (h : (PA.orNone pp).length = q + 1) (hq : 0 < q) : Has true pp := by
  refine ⟨fun _ e => ?_, fun _ => rfl⟩
  subst e
  simp [PA.orNone] at h
  omega
theorem has_not {pp : List Int} {y : Int} (h : (PA.orNone pp).length = 1) (hy : (PA.orNone pp)[0]? = some y) (hp : pp ≠ [-1]) (e : y = -1) : Has false pp := by
  refine ⟨fun h => (by cases h), fun hn => ?_⟩
  exfalso
  unfold PA.orNone at h hy
  rw [if_neg hn] at h hy
  rcases pp with _ | ⟨z, _ | ⟨z', l⟩⟩
  · simp at h
  · simp at hy
    subst hy
    exact hp (by rw [e])
  · simp at h
theorem has_one {pp : List Int} {y : Int} (hy : (PA.orNone pp)[0]? = some y) (e : y ≠ -1) : Has true pp := by
  refine ⟨fun _ h => ?_, fun _ => rfl⟩
  subst h
  simp [PA.orNone] at hy
  exact e hy.symm
/-- the event, whole, ahead of its append -/
def CsiEnd (B g gE n c : Nat) (A : Option Addr) (vz : Value) (w0 : World) (k : Nat) (e : PA.Ev) (w : World) : Prop :=
  ∃ u, Box w gE 24 #[.int .i64 4, .int .i32 0, .int .u8 e.priv, .int .u8 e.inter, .int .u8 e.final, u, .string ⟨#[]⟩] ∧ Box w g 61 #[.slice A n c, .int .i64 ((2 + k : Nat) : Int), vz] ∧ ParIn w (e, u) ∧ NotIn g e u ∧ Below B w0 w ∧ (∃ A c, u = .slice A e.params.length c)
/-- the loop's relation -/
def CsiRel (B g gE n c : Nat) (A : Option Addr) (vz : Value) (w0 : World) (body : List Int) (rt mn fs ps : Value) (wr : World) : Prop :=
  ∃ (k : Nat) (s : PA.RC), k ≤ body.length ∧ rt = .bool s.right ∧ mn = .int .i64 s.many ∧ fs = .bool s.first ∧ PA.rcAll PA.rc0 (body.take k) = s ∧ PA.RcOk k s ∧ CsiMem B g gE n c A vz w0 k s.priv s.inter s.params ps wr
set_option maxHeartbeats 16000000 in
theorem csi_any' (B g n c : Nat) (A : Option Addr) (body : List Int) (f p i : Int) (pp : List Int) (w : World) (hB : B ≤ g) (hBw : B ≤ w.heap.size) (hA : Seen w B A n (u8s (27 :: 91 :: body ++ [f]))) (hb : Box w g 61 #[.slice A n c, .int .i64 2, .slice none 0 0]) (hbd : ∀ x ∈ body, 32 ≤ x ∧ x < 64) (h64 : 64 ≤ f) (h126 : f ≤ 126) (hl : body.length ≤ 1000000)
    (hrc : ∃ s : PA.RC, PA.rcAll PA.rc0 body = s ∧ s.priv = p ∧ s.inter = i ∧ s.many < 2 ∧ s.right = true ∧ s.params = PA.orNone pp) (hpp : pp.length ≤ 16) (hp1 : pp ≠ [-1]) :
    Calls Tryd.prog 47 #[.pointer (some ⟨g, 0, none⟩)] w fun en w2 => en = .returned (.tuple #[]) ∧ Done1 B g A n c ⟨4, 0, p, i, f, pp, []⟩ w w2 := by
  obtain ⟨i0, hi, hz0, hz1, hz2⟩ := info_parts info_ev
  obtain ⟨i1, hj, hy0, hy1, hy2⟩ := info_parts info_i64
  have hlen : n = body.length + 3 := by have := hA.1; simp [u8s] at this; omega
  obtain ⟨m, hm⟩ : ∃ m, body.length = m := ⟨_, rfl⟩
  rw [hm] at hlen hl
  subst hlen
  obtain ⟨vz, hvz⟩ : ∃ v, Value.slice none 0 0 = v := ⟨_, rfl⟩
  have HZ := hide (show (∀ w', World.ownsRow w' B 24 7 vz 0 []) ∧ vz.ownBlock = none from ⟨fun w' => by rw [← hvz]; exact World.ownsRow_nil _ _ _ _, by rw [← hvz]; rfl⟩)
  rw [hvz] at hb
  have HA := hide hA
  have HBD := hide hbd
  have HM := hide hm
  have HRC := hide hrc
  have HPP := hide (And.intro hpp hp1)
  have HBX := hide hb
  clear hvz hA hb hbd hm hrc hpp hp1
  go_enter Tryd.func47, Tryd.ntmps47
  go_upto_block 0 with fail
  have M0 : CsiMem B g w.heap.size (m + 3) c A vz w 0 0 0 [-1] (.slice (some ⟨w.heap.size + 1, 0, none⟩) 1 1) ((w.alloc (.cells #[.int .i64 4, .int .i32 0, .int .u8 0, .int .u8 0, .int .u8 0, .slice none 0 0, .string ⟨#[]⟩] 24)).alloc (.cells #[.int .i64 (-1)] 3)) := by
    refine ⟨?_, (Box.new w _ _).alloc _, (HBX.out.alloc _).alloc _, ((Below.refl B w).alloc hBw _).alloc (by simp; omega) _⟩
    exact ⟨by simp [i64s], .inr ⟨w.heap.size + 1, 1, #[.int .i64 (-1)], rfl, by omega, by have := heap_alloc_new (w.alloc (.cells #[.int .i64 4, .int .i32 0, .int .u8 0, .int .u8 0, .int .u8 0, .slice none 0 0, .string ⟨#[]⟩] 24)) (.cells #[.int .i64 (-1)] 3); simpa using this, by simp, by simp [maxLen], by simp, by simp [i64s]⟩⟩
  generalize ((w.alloc (.cells #[.int .i64 4, .int .i32 0, .int .u8 0, .int .u8 0, .int .u8 0, .slice none 0 0, .string ⟨#[]⟩] 24)).alloc (.cells #[.int .i64 (-1)] 3)) = w1 at M0 ⊢
  generalize w.heap.size + 1 = gR at M0 ⊢
  obtain ⟨gE, hgE⟩ : ∃ gE, w.heap.size = gE := ⟨_, rfl⟩
  rw [hgE] at M0
  rw [hgE]
  have hE : B ≤ gE := by omega
  have HM0 := hide M0
  clear M0 hgE HBX
  go_wp2_with fail
  go_loopw [3, 4, 5, 6] (fun rt mn fs ps wr => Hid (CsiRel B g gE (m + 3) c A vz w body rt mn fs ps wr)) (fun _ _ _ _ wr => match wr.cell? ⟨g, 1, none⟩ with | some (.int _ z) => m + 3 - z.toNat | _ => 0)
  case atStart => exact hide ⟨0, PA.rc0, Nat.zero_le _, rfl, rfl, rfl, rfl, PA.rcOk0, HM0.out⟩
  case round =>
    obtain ⟨k, s, hkm, rfl, rfl, rfl, hs, hok, hmem⟩ := hrel.out
    rw [HM.out] at hkm
    obtain ⟨pv, it, mny, rgt, fst, prs⟩ := s
    simp only [] at hmem
    obtain ⟨q, hq⟩ : ∃ q, prs.length = q + 1 := ⟨prs.length - 1, by have := hok.1; simp only [] at this; omega⟩
    have hq2 : q ≤ k := by have := hok.2.1; simp only [] at this; omega
    have hmn : mny ≤ k := hok.2.2.2
    have hcur : wr.cell? ⟨g, 1, none⟩ = some (.int .i64 ((2 + k : Nat) : Int)) := hmem.sc.cell 1
    have hle : B ≤ wr.heap.size := by have := hmem.bl.size; omega
    have HS := hide hs
    have HOK := hide hok
    have HQ := hide hq
    have MEM := hide hmem
    have ho := hmem.own
    rw [hq] at ho
    obtain ⟨Ap, cp, rfl, _⟩ := own_form ho
    clear hs hok hmem hq ho
    by_cases hlt : k < m
    · obtain ⟨x, hx⟩ : ∃ x, body[k]? = some x := ⟨_, List.getElem?_eq_getElem (by rw [HM.out]; exact hlt)⟩
      obtain ⟨x0, x1⟩ := HBD.out x (List.mem_of_getElem? hx)
      have hxl : (27 :: 91 :: body ++ [f])[2 + k]? = some x := by
        rw [show 2 + k = k + 1 + 1 from by omega]
        simp only [List.cons_append, List.getElem?_cons_succ]
        rw [List.getElem?_append_left (by rw [HM.out]; exact hlt)]
        exact hx
      have NX := hide (next_at g A (m + 3) c (2 + k) _ vz x wr B hB MEM.out.sc (HA.out.below MEM.out.bl) hxl (by omega) (by omega) (by omega))
      have HST := hide (PA.rc_take HS.out hx)
      have HOK2 := hide (PA.rcOk_step HOK.out x0 x1)
      -- how a round ends
      have END := hide (fun (s' : PA.RC) (hs' : PA.rcStep ⟨pv, it, mny, rgt, fst, prs⟩ x = s') (ps' : Value) (w' : World) (hm' : CsiMem B g gE (m + 3) c A vz w (k + 1) s'.priv s'.inter s'.params ps' w') => (show CsiRel B g gE (m + 3) c A vz w body (.bool s'.right) (.int .i64 s'.many) (.bool s'.first) ps' w' ∧ w'.cell? ⟨g, 1, none⟩ = some (.int .i64 ((2 + (k + 1) : Nat) : Int)) from
        ⟨⟨k + 1, s', by rw [HM.out]; omega, rfl, rfl, rfl, by rw [HST.out, hs'], by rw [← hs']; exact HOK2.out, hm'⟩, hm'.sc.cell 1⟩))
      clear hx hxl HST HOK2
      by_cases c1 : x < 48
      · go_wp2_with fail
        refine NX.out.mono ?_
        rintro e w2 ⟨rfl, bx, bb, hsz, kk⟩
        have M2 := hide (MEM.out.next bx kk bb)
        obtain ⟨z0, z1, z2, z3, z4, z5, z6⟩ := M2.out.ev.seven
        have fz := M2.out.ev.frozen
        have R := hide (END.out _ (by unfold PA.rcStep; rw [if_pos c1]) _ _ (M2.out.inter hE x))
        clear bx bb hsz kk
        go_wp2_with fail
        refine ⟨hide (by simpa using R.out.1), ?_⟩
        rw [R.out.2, hcur]
        show m + 3 - ((2 + (k + 1) : Nat) : Int).toNat < m + 3 - ((2 + k : Nat) : Int).toNat
        omega
      by_cases c2 : 0 < mny
      · go_wp2_with fail
        refine NX.out.mono ?_
        rintro e w2 ⟨rfl, bx, bb, hsz, kk⟩
        have M2 := hide (MEM.out.next bx kk bb)
        obtain ⟨z0, z1, z2, z3, z4, z5, z6⟩ := M2.out.ev.seven
        have fz := M2.out.ev.frozen
        have R := hide (END.out _ (by unfold PA.rcStep; rw [if_neg (show ¬ x < 48 by omega), if_pos (.inl c2)]) _ _ M2.out)
        have c2' : (0 : Int) < (mny : Int) := by omega
        clear bx bb hsz kk
        go_wp2_with fail
        refine ⟨hide (by simpa using R.out.1), ?_⟩
        rw [R.out.2, hcur]
        show m + 3 - ((2 + (k + 1) : Nat) : Int).toNat < m + 3 - ((2 + k : Nat) : Int).toNat
        omega
      obtain rfl : mny = 0 := by omega
      by_cases c3 : x = 58
      · go_wp2_with fail
        refine NX.out.mono ?_
        rintro e w2 ⟨rfl, bx, bb, hsz, kk⟩
        have M2 := hide (MEM.out.next bx kk bb)
        obtain ⟨z0, z1, z2, z3, z4, z5, z6⟩ := M2.out.ev.seven
        have fz := M2.out.ev.frozen
        have R := hide (END.out _ (by unfold PA.rcStep; rw [if_neg (show ¬ x < 48 by omega), if_pos (.inr c3)]) _ _ M2.out)
        have d58 : (x == 58) = true := by simpa using c3
        clear bx bb hsz kk c3
        go_wp2_with fail
        refine ⟨hide (by simpa using R.out.1), ?_⟩
        rw [R.out.2, hcur]
        show m + 3 - ((2 + (k + 1) : Nat) : Int).toNat < m + 3 - ((2 + k : Nat) : Int).toNat
        omega
      have d58 : (x == 58) = false := by simpa using c3
      by_cases c4 : 60 ≤ x
      · go_wp2_with fail
        refine NX.out.mono ?_
        rintro e w2 ⟨rfl, bx, bb, hsz, kk⟩
        have M2 := hide (MEM.out.next bx kk bb)
        obtain ⟨z0, z1, z2, z3, z4, z5, z6⟩ := M2.out.ev.seven
        have fz := M2.out.ev.frozen
        have R := hide (END.out _ (by unfold PA.rcStep; rw [if_neg (show ¬ x < 48 by omega), if_neg (by simp; omega), if_pos c4]) _ _ (M2.out.priv hE x))
        clear bx bb hsz kk c3
        rcases rgt with _ | _
        all_goals
          go_wp2_with fail
          refine ⟨hide (by simpa using R.out.1), ?_⟩
          rw [R.out.2, hcur]
          show m + 3 - ((2 + (k + 1) : Nat) : Int).toNat < m + 3 - ((2 + k : Nat) : Int).toNat
          omega
      by_cases c5 : x = 59
      · have d59 : (x == 59) = true := by simpa using c5
        go_wp2_with fail
        refine NX.out.mono ?_
        rintro e w2 ⟨rfl, bx, bb, hsz, kk⟩
        have M2 := hide (MEM.out.next bx kk bb)
        obtain ⟨z0, z1, z2, z3, z4, z5, z6⟩ := M2.out.ev.seven
        have fz := M2.out.ev.frozen
        have ho2 := M2.out.own
        rw [HQ.out] at ho2
        have HO2 := hide ho2
        have hle2 : B ≤ w2.heap.size := by omega
        have ES := hide (show PA.rcStep ⟨pv, it, 0, rgt, fst, prs⟩ x = ⟨pv, it, 0, rgt, false, prs ++ [-1]⟩ from by unfold PA.rcStep; rw [if_neg (show ¬ x < 48 by omega), if_neg (by simp; omega), if_neg (show ¬ 60 ≤ x by omega), if_pos c5])
        clear bx bb hsz kk c3 c5 ho2
        go_wp2_with (first
          | (at_builtin; refine wpList_appN rfl (.tmp 100) (.tmp 101) 22 rfl w2.heap.size 3 i1 _ 8 Tryd.underlying22 hj hy0 hy1 hy2 rfl (.slice (some ⟨w2.heap.size, 0, none⟩) 0 0) 0 [] rfl (own_lit0 _ rfl (Nat.le_refl _)) w2.heap.size Ap (q + 1) cp (i64s prs) rfl ((Seen.of_own HO2.out).alloc (Nat.le_refl _) _) (by simp [i64s, Value.oneCell']) (by omega) (by omega) (by simp) ?_; intro v3 w3 hown3 hg3 hm3; have hs3 := hg3.size; simp only [World.size_alloc] at hs3)
          | (at_builtin; refine wpList_app1 rfl (.tmp 102) (.tmp 103) 22 rfl w2.heap.size 3 i1 _ 8 Tryd.underlying22 hj hy0 hy1 hy2 rfl v3 (0 + (q + 1)) _ rfl hown3 _ _ _ rfl rfl rfl (by omega) (by omega) (by omega) ?_; intro v4 w4 hown4 hg4 hm4))
        have K4 : Kept [] w2 w4 := (((Kept.refl [] w2).alloc _).grown hg3 (fun b hb => .inr (by simp [Value.ownBlock] at hb; omega))).grown hg4 (fun b hb => .inr (hown3.lt b hb).1)
        have R := hide (END.out _ ES.out v4 w4 (M2.out.row K4 hle2 (by rw [List.length_append, HQ.out]; simpa [i64s] using hown4)))
        clear hown3 hg3 hm3 hown4 hg4 hm4 K4
        refine ⟨hide (by simpa using R.out.1), ?_⟩
        rw [R.out.2, hcur]
        show m + 3 - ((2 + (k + 1) : Nat) : Int).toNat < m + 3 - ((2 + k : Nat) : Int).toNat
        omega
      have d59 : (x == 59) = false := by simpa using c5
      obtain ⟨y, hy⟩ : ∃ y, prs[q]? = some y := ⟨_, List.getElem?_eq_getElem (by rw [HQ.out]; omega)⟩
      have hyb := HOK.out.2.2.1 y (List.mem_of_getElem? hy)
      have ES := hide (show PA.rcStep ⟨pv, it, 0, rgt, fst, prs⟩ x = ⟨pv, it, 0, rgt, false, prs.set q (PA.up y (x - 48))⟩ from by
        unfold PA.rcStep
        rw [if_neg (show ¬ x < 48 by omega), if_neg (by simp; omega), if_neg (show ¬ 60 ≤ x by omega), if_neg c5]
        simp only [HQ.out, Nat.add_sub_cancel]
        rw [List.getD_eq_getElem?_getD, hy]
        rfl)
      have HY := hide hy
      obtain ⟨y0, y1⟩ := hyb
      clear hy c5
      go_wp2_with fail
      refine NX.out.mono ?_
      rintro e w2 ⟨rfl, bx, bb, hsz, kk⟩
      have M2 := hide (MEM.out.next bx kk bb)
      obtain ⟨z0, z1, z2, z3, z4, z5, z6⟩ := M2.out.ev.seven
      have fz := M2.out.ev.frozen
      have ho2 := M2.out.own
      rw [HQ.out] at ho2
      have HO2 := hide ho2
      have hle2 : B ≤ w2.heap.size := by omega
      clear bx bb hsz kk c3 ho2
      go_wp2_with (at_builtin; refine wpList_appN rfl (.tmp 22) (.tmp 23) 22 rfl w2.heap.size 3 i1 _ 8 Tryd.underlying22 hj hy0 hy1 hy2 rfl (.slice (some ⟨w2.heap.size, 0, none⟩) 0 0) 0 [] rfl (own_lit0 _ rfl (Nat.le_refl _)) w2.heap.size Ap (q + 1) cp (i64s prs) rfl ((Seen.of_own HO2.out).alloc (Nat.le_refl _) _) (by simp [i64s, Value.oneCell']) (by omega) (by omega) (by simp) ?_; intro v3 w3 hown3 hg3 hm3; simp only [Nat.zero_add, List.nil_append] at hown3; obtain ⟨b3, c3', rfl, hb3⟩ := own_some hown3; have hcl : w3.cell? ⟨b3, q, none⟩ = some (.int .i64 y) := (by rw [hown3.cellAt q (by omega), i64s, List.getElem?_map, HY.out]; rfl); have hfr := hown3.frozenAt q)
      have hu : min (max y 0 * 10 + (x - 48)) 65535 = PA.up y (x - 48) := by
        unfold PA.up
        by_cases hn : y < 0
        · rw [if_pos hn]; split <;> omega
        · rw [if_neg hn]; split <;> omega
      rw [hu]
      have K4 : Kept [] w2 (w3.setCell ⟨b3, q, none⟩ (.int .i64 (PA.up y (x - 48)))) := (((Kept.refl [] w2).alloc _).grown hg3 (fun b hb => .inr (by simp [Value.ownBlock] at hb; omega))).setCell (p := ⟨b3, q, none⟩) (fun b hb => .inr (by cases hb; omega)) _
      have R := hide (END.out _ ES.out _ _ (M2.out.row K4 hle2 (by rw [List.length_set, HQ.out]; simpa [i64s, List.map_set] using (hown3.stored q (.int .i64 (PA.up y (x - 48)))).1)))
      clear hown3 hg3 hm3 K4 hu
      refine ⟨hide (by simpa using R.out.1), ?_⟩
      rw [R.out.2, hcur]
      show m + 3 - ((2 + (k + 1) : Nat) : Int).toNat < m + 3 - ((2 + k : Nat) : Int).toNat
      omega
    · obtain rfl : k = m := by omega
      have hxl : (27 :: 91 :: body ++ [f])[2 + k]? = some f := by
        rw [show 2 + k = k + 1 + 1 from by omega]
        simp only [List.cons_append, List.getElem?_cons_succ]
        rw [← HM.out]
        exact List.getElem?_concat_length
      have NX := hide (next_at g A (k + 3) c (2 + k) _ vz f wr B hB MEM.out.sc (HA.out.below MEM.out.bl) hxl (by omega) (by omega) (by omega))
      -- what the loop has kept is the event's
      have hs := HS.out
      rw [List.take_of_length_le (by rw [HM.out]; omega)] at hs
      obtain ⟨s', hs', e1, e2, e3, e4, e5⟩ := HRC.out
      rw [hs] at hs'
      subst hs'
      simp only [] at e1 e2 e3 e4 e5
      subst e1 e2 e4 e5
      have hmn2 : (mny : Int) < 2 := by omega
      clear hxl hs
      go_wp2_with fail
      refine NX.out.mono ?_
      rintro e w2 ⟨rfl, bx, bb, hsz, kk⟩
      have M2 := hide (MEM.out.next bx kk bb)
      obtain ⟨z0, z1, z2, z3, z4, z5, z6⟩ := M2.out.ev.seven
      have fz := M2.out.ev.frozen
      clear bx bb hsz kk
      obtain ⟨b3, c3, hv3, hb3⟩ := own_some (by have := M2.out.own; rw [HQ.out] at this; exact this)
      cases hv3
      have HO := hide (show w2.ownsRow B 3 1 (.slice (some ⟨b3, 0, none⟩) (q + 1) cp) (q + 1) (i64s (PA.orNone pp)) from by have := M2.out.own; rw [HQ.out] at this; exact this)
      have hbE : b3 ≠ gE := fun e => own_ne_box HO.out M2.out.ev (by decide) (by rw [e]; rfl)
      have hbg : b3 ≠ g := fun e => own_ne_box HO.out M2.out.sc (by decide) (by rw [e]; rfl)
      have hgE : gE ≠ g := box_ne M2.out.ev M2.out.sc (by decide)
      obtain ⟨y, hy⟩ : ∃ y, (PA.orNone pp)[0]? = some y := ⟨_, List.getElem?_eq_getElem (by rw [HQ.out]; omega)⟩
      have hcl : w2.cell? ⟨b3, 0, none⟩ = some (.int .i64 y) := (by rw [HO.out.cellAt 0 (by omega), i64s, List.getElem?_map, hy]; rfl)
      have HY := hide hy
      clear hy
      go_upto_region 10 with fail
      have B3 := hide (show Box (w2.setCell ⟨gE, 4, none⟩ (.int .u8 f)) gE 24 #[.int .i64 4, .int .i32 0, .int .u8 pv, .int .u8 it, .int .u8 f, .slice none 0 0, .string ⟨#[]⟩] from by simpa using M2.out.ev.set 4 (.int .u8 f))
      have S3 := hide (M2.out.sc.far (p := ⟨gE, 4, none⟩) hgE.symm (.int .u8 f))
      have O3 := hide (own_store HO.out (p := ⟨gE, 4, none⟩) (fun e => hbE (by injection e)) (.int .u8 f))
      have L3 := hide (M2.out.bl.setCell (p := ⟨gE, 4, none⟩) hE (.int .u8 f))
      have hcl3 : (w2.setCell ⟨gE, 4, none⟩ (.int .u8 f)).cell? ⟨b3, 0, none⟩ = some (.int .i64 y) := by rw [O3.out.cellAt 0 (by omega), i64s, List.getElem?_map, HY.out]; rfl
      generalize w2.setCell ⟨gE, 4, none⟩ (.int .u8 f) = w3 at B3 S3 O3 L3 hcl3 ⊢
      obtain ⟨y0, y1, y2, y3, y4, y5, y6⟩ := B3.out.seven
      have fE := B3.out.frozen
      clear z0 z1 z2 z3 z4 z5 z6 fz HO M2 hcl
      go_cut [52] (fun u wx => ∃ b : Bool, u = .bool b ∧ Hid (Has b pp) ∧ wx = w3)
      case first =>
        by_cases hq1 : 0 < q
        · have Hb := hide (has_many HQ.out hq1)
          go_wp2_with fail
          go_meet
          exact ⟨true, rfl, Hb, rfl⟩
        · obtain rfl : q = 0 := by omega
          by_cases hy1 : y = -1
          · have Hb := hide (has_not HQ.out HY.out HPP.out.2 hy1)
            have dy : (y != -1) = false := by simpa using hy1
            clear hy1
            go_wp2_with fail
            go_meet
            exact ⟨false, rfl, Hb, rfl⟩
          · have Hb := hide (has_one HY.out hy1)
            have dy : (y != -1) = true := by simpa using hy1
            clear hy1
            go_wp2_with fail
            go_meet
            exact ⟨true, rfl, Hb, rfl⟩
      case rest =>
        obtain ⟨b, rfl, Hb, rfl⟩ := hcut
        go_upto_if 52 with fail
        go_cut [] (fun wx => Hid (CsiEnd B g gE (k + 3) c A vz w (k + 1) ⟨4, 0, pv, it, f, pp, []⟩ wx))
        case first =>
          rcases b with _ | _
          · have hp0 : pp = [] := by
              by_cases h : pp = []
              · exact h
              · have := Hb.out.2 h; cases this
            go_wp2_with fail
            go_meet
            subst hp0
            exact hide ⟨_, B3.out, S3.out, parIn_none rfl, NotIn.nil _ _, L3.out, none, 0, rfl⟩
          · have hp0 : PA.orNone pp = pp := by unfold PA.orNone; rw [if_neg (Hb.out.1 rfl)]
            have hpl : pp.length = q + 1 := by have := HQ.out; rwa [hp0] at this
            have hq16 : (q : Int) + 1 ≤ 16 := by have := HPP.out.1; omega
            rw [hp0] at O3
            have HPL := hide hpl
            clear hp0 hpl
            go_wp2_with fail
            rw [show (min ((q : Int) + 1) 16).toNat = q + 1 from by omega]
            go_meet
            have hos := own_store O3.out (p := ⟨gE, 5, none⟩) (fun e => hbE (by injection e)) (.slice (some ⟨b3, 0, none⟩) (q + 1) cp)
            refine hide ⟨.slice (some ⟨b3, 0, none⟩) (q + 1) cp, by simpa using B3.out.set 5 (.slice (some ⟨b3, 0, none⟩) (q + 1) cp), S3.out.far (p := ⟨gE, 5, none⟩) hgE.symm _, ⟨some ⟨b3, 0, none⟩, cp, by simp only [HPL.out], by rw [HPL.out]; exact Seen.of_own hos, by simp only [HPL.out]; omega⟩, fun _ ad n' c' e => ?_, L3.out.setCell (p := ⟨gE, 5, none⟩) hE _, some ⟨b3, 0, none⟩, cp, by simp only [HPL.out]⟩
            injection e with e1 _ _
            injection e1 with e1
            rw [← e1]
            exact hbg
        case rest =>
          obtain ⟨u, bE, bS, pI, nI, bL, A9, c9, rfl⟩ := hcut.out
          simp only [] at bE pI nI
          obtain ⟨x0, x1, x2, x3, x4, x5, x6⟩ := bE.seven
          obtain ⟨s0, s1, s2, t0, t1, t2⟩ := bS.three
          have hsw := bL.size
          have BS := hide bS
          have BL := hide bL
          have PI := hide pI
          have NI := hide nI
          have qa : ∀ o, (wc.alloc o).cell? ⟨g, 2, none⟩ = some vz := fun o => (World.cell?_alloc_lt wc o _ bS.lt).trans s2
          clear bE bS pI nI bL hcut y0 y1 y2 y3 y4 y5 y6 fE hcl3 B3 S3 O3 L3
          go_wp2_with fail
          go_region_law (refine (step_appB (by rfl) (.tmp 68) (.tmp 70) 36 (by rfl) B 24 i0 _ 7 56 Tryd.underlying36 hi hz0 hz1 hz2 zev_size (by omega) vz 0 [] (by rfl) (HZ.out.1 _) #[.int .i64 4, .int .i32 0, .int .u8 pv, .int .u8 it, .int .u8 f, .slice A9 pp.length c9, .string ⟨#[]⟩] 24 wc.heap.size (by rfl) (Box.new wc 24 #[.int .i64 4, .int .i32 0, .int .u8 pv, .int .u8 it, .int .u8 f, .slice A9 pp.length c9, .string ⟨#[]⟩]).drew rfl (by simp [Value.oneCell']) (by omega) (by omega) (by simp; omega) ?_); intro v' w5 hown5 hg5 hm5; simp only [Nat.zero_add, List.nil_append] at hown5; obtain ⟨A5, c5, rfl, _⟩ := own_form' hown5; have bx5 := Box.grown ((BS.out.alloc _).drew) hg5 (by rw [HZ.out.2]; simp); obtain ⟨j0, j1, j2, l0, l1, l2⟩ := bx5.three)
          all_goals
            have kb : Below wc.heap.size wc w5 := below_of_grown hg5 (by simp) (fun q hq => by rw [HZ.out.2] at hq; cases hq) |> fun h => (((Below.refl wc.heap.size wc).alloc (Nat.le_refl _) _).drew).trans h
            have R := hide ((done1_put (e := ⟨4, 0, pv, it, f, pp, []⟩) (u := .slice A9 pp.length c9) (n := k + 3) hown5 bx5 (by omega) HZ.out.2 hg5 hm5 hB (by simp; omega) (PI.out.below kb) NI.out).since (BL.out.trans (((Below.refl B wc).alloc (by omega) _).drew)))
            clear hown5 hg5 hm5 bx5
            go_wp2_with fail
            refine bodyPost_ret (results_none rfl _ _ _) rfl ?_
            exact ⟨rfl, R.out⟩
end Go.Proofs.YtnnjppgmadmmaaaDoor
set_option maxRecDepth 100000
namespace Go.Proofs.YtnnjppgmadmmaaaDoor
open Go.RowKit
set_option linter.unusedVariables false
theorem en_high {r : Int} (h : 128 ≤ r) (h2 : r ≤ 1114111) : ∀ x ∈ U.en r, 128 ≤ x ∧ x < 256 := by
  intro x hx
  by_cases h1 : r < 2048
  · rw [U.en_eq2 r h h1] at hx
    simp only [List.mem_cons, List.not_mem_nil, or_false, U.tl] at hx
    rcases hx with rfl | rfl <;> omega
  by_cases h3 : r < 65536
  · rw [U.en_eq3 r (by omega) h3] at hx
    simp only [List.mem_cons, List.not_mem_nil, or_false, U.tl] at hx
    rcases hx with rfl | rfl | rfl <;> omega
  · rw [U.en_eq4 r (by omega)] at hx
    simp only [List.mem_cons, List.not_mem_nil, or_false, U.tl] at hx
    rcases hx with rfl | rfl | rfl | rfl <;> omega
theorem parse_right (e : PA.Ev) (he : PA.Right e) (A : Option Addr) (n c : Nat) (w : World) (hA : Seen w w.heap.size A n (u8s (PA.bytesOf e))) (hnc : n ≤ c) (hc : c ≤ maxLen) :
    Calls Tryd.prog 17 #[.slice A n c] w fun e' w' => ∃ v, e' = .returned v ∧ Made1 w.heap.size w' e v ∧ Below w.heap.size w w' := by
  have hlen : (PA.bytesOf e).length = n := by simpa [u8s] using hA.1
  have hn : n ≤ 1000000 := by
    have := bytesAll_len [e] (fun x hx => by rw [List.mem_singleton.1 hx]; exact he)
    simp [PA.bytesAll] at this
    omega
  rcases he with ⟨r, rfl, h⟩ | ⟨b, rfl, h0, h1, h24, h26, h27⟩ | ⟨i, f, rfl, hi, h48, h126, hno⟩ | ⟨p, i, f, ps, rfl, hp, hi, h64, h126, hl, hb, hne⟩ | ⟨t, rfl, hl, hb⟩
  · have hbo : PA.bytesOf (PA.pr r) = U.en r := rfl
    rw [hbo] at hA hlen
    by_cases h127 : r < 127
    · have h32 : 32 ≤ r := by rcases h with h | h <;> omega
      rw [U.en_eq1 r (by omega)] at hA hlen
      obtain rfl : n = 1 := by simpa using hlen.symm
      exact parse_low A c r w hA h32 h127
    · have h128 : 128 ≤ r ∧ r ≤ 1114111 ∧ (r < 55296 ∨ 57343 < r) := by rcases h with h | h <;> omega
      obtain ⟨x, hx⟩ : ∃ x, (U.en r)[0]? = some x := by
        have := U.en_ne r
        rcases hen : U.en r with _ | ⟨x, t⟩
        · exact absurd hen this
        · exact ⟨x, rfl⟩
      have hn0 : 0 < n := by have := (List.getElem?_eq_some_iff.1 hx).1; omega
      have hh := en_high h128.1 h128.2.1
      have hcc : c ≤ 9223372036854775807 := by simpa [maxLen] using hc
      refine parse_high A n c (U.en r) x (PA.pr r) w hA hx (hh x (List.mem_of_getElem? hx)).1 (fun g w' hg hw hs hbx => ?_)
      exact high_any w.heap.size g n c A (U.en r) r w' hg hw hs hbx hh (U.dec_en r (by unfold U.isR; simp; omega)) (by omega) hn0 hnc
  · have hbo : PA.bytesOf ⟨2, 0, 0, 0, b, [], []⟩ = [b] := rfl
    rw [hbo] at hA hlen
    obtain rfl : n = 1 := by simpa using hlen.symm
    exact parse_exec A c b w hA h0 h1 h24 h26 h27
  · have hbo : PA.bytesOf ⟨3, 0, 0, i, f, [], []⟩ = 27 :: PA.some0 i ++ [f] := rfl
    rw [hbo] at hA
    refine parse_esc A n c _ _ w hA rfl (fun g w' hg hw hs hbx => ?_)
    by_cases hi0 : i = 0
    · subst hi0
      exact esc_two w.heap.size g n c A f w' hg hw hs hbx h48 h126 (hno rfl)
    · have hir : 32 ≤ i ∧ i ≤ 47 := by rcases hi with h | h <;> omega
      rw [show 27 :: PA.some0 i ++ [f] = [27, i, f] from by unfold PA.some0; rw [if_neg hi0]; rfl] at hs
      exact esc_three w.heap.size g n c A i f w' hg hw hs hbx hir.1 hir.2 h48 h126
  · have hbo : PA.bytesOf ⟨4, 0, p, i, f, ps, []⟩ = 27 :: 91 :: (PA.some0 p ++ PA.joined ps ++ PA.some0 i) ++ [f] := by
      show 27 :: 91 :: PA.some0 p ++ PA.joined ps ++ PA.some0 i ++ [f] = _
      simp
    rw [hbo] at hA hlen
    refine parse_esc A n c _ _ w hA rfl (fun g w' hg hw hs hbx => ?_)
    refine esc_csi w.heap.size g n c A _ _ w' hg hs hbx rfl (by omega) (fun w1 hs1 hb1 hz => ?_)
    exact csi_any' w.heap.size g n c A _ f p i ps w1 hg (by omega) hs1 hb1 (PA.body_bd hp hi hb) h64 h126 (by simp at hlen ⊢; omega) (PA.rc_right hp hi hb) hl hne
  · have hbo : PA.bytesOf ⟨5, 0, 0, 0, 0, [], t⟩ = 27 :: 93 :: t ++ [7] := rfl
    rw [hbo] at hA
    refine parse_esc A n c _ _ w hA rfl (fun g w' hg hw hs hbx => ?_)
    refine esc_osc w.heap.size g n c A _ _ w' hg hs hbx rfl (by omega) (fun w1 hs1 hb1 hz => ?_)
    exact text_any w.heap.size g n c A t w1 hg (by omega) hs1 hb1 hb hl
end Go.Proofs.YtnnjppgmadmmaaaDoor
