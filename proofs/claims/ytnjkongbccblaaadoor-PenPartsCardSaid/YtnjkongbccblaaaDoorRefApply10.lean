/- The document's own Apply: the parameters from left to right. -/
import Derived.Test.YtnjkongbccblaaaDoorRefPen10
import Derived.Deep.DeepCutAuto
import Derived.Deep.RegionHeldLaw
import Derived.RegionTactic
set_option maxRecDepth 100000
namespace Go.Proofs.YtnjkongbccblaaaDoor
open Go.RowKit
set_option linter.unusedVariables false
/-- a pen by value -/
def penV (p : PS.Pn) : Value := .agg #[.int .i64 p.fo, .int .i64 p.ba, .int .i64 (p.fl : Nat)]
def penC (p : PS.Pn) : Array Value := #[.int .i64 p.fo, .int .i64 p.ba, .int .i64 (p.fl : Nat)]
def zeroC : Array Value := #[.int .i64 0, .int .i64 0, .int .i64 0]
def flagC : Array Value := #[.int .i64 1, .int .i64 2, .int .i64 4, .int .i64 8, .int .i64 16, .int .i64 0, .int .i64 32, .int .i64 64, .int .i64 128]
theorem i64_andNot_nat {x y : Nat} (hx : x < 256) (hy : y < 256) : bits .andNot .i64 (x : Int) (y : Int) = ((x &&& (255 - y) : Nat) : Int) := by
  have h : ∀ a b : BitVec 64, a.toNat < 256 → b.toNat < 256 → (a &&& ~~~b).toNat = a.toNat &&& (255 - b.toNat) := by
    intro a b ha hb
    rw [BitVec.toNat_and, BitVec.toNat_not]
    apply Nat.eq_of_testBit_eq
    intro i
    rw [Nat.testBit_and, Nat.testBit_and]
    by_cases hi : i < 8
    · have e1 : 2 ^ 64 - 1 - b.toNat = 2 ^ 64 - (b.toNat + 1) := by omega
      have e2 : 255 - b.toNat = 2 ^ 8 - (b.toNat + 1) := by omega
      rw [e1, e2, Nat.testBit_two_pow_sub_succ (by omega), Nat.testBit_two_pow_sub_succ (by omega), decide_eq_true hi, decide_eq_true (by omega : i < 64)]
    · have : a.toNat.testBit i = false := Nat.testBit_lt_two_pow (Nat.lt_of_lt_of_le ha (by
        have : 2 ^ 8 ≤ 2 ^ i := Nat.pow_le_pow_right (by omega) (by omega)
        omega))
      rw [this, Bool.false_and, Bool.false_and]
  show IntKind.i64.wrap ((BitVec.ofInt 64 (x : Int) &&& ~~~(BitVec.ofInt 64 (y : Int))).toNat : Int) = _
  have ex : (BitVec.ofInt 64 (x : Int)).toNat = x := by rw [BitVec.ofInt_natCast, BitVec.toNat_ofNat]; exact Nat.mod_eq_of_lt (by omega)
  have ey : (BitVec.ofInt 64 (y : Int)).toNat = y := by rw [BitVec.ofInt_natCast, BitVec.toNat_ofNat]; exact Nat.mod_eq_of_lt (by omega)
  rw [h _ _ (by omega) (by omega), ex, ey, IntKind.wrap_i64]
  have : x &&& (255 - y) < 256 := PS.and_lt hx
  omega
theorem i64_or_small {x y : Nat} (hx : x < 256) (hy : y < 256) : bits .or .i64 (x : Int) (y : Int) = ((x ||| y : Nat) : Int) := i64_or_nat x y (by omega) (by omega)
theorem rplain10 (w : World) : Calls Tryd.prog 9 #[] w fun e w' => e = .returned (.agg #[.int .i64 (-1), .int .i64 (-1), .int .i64 0]) ∧ Below w.heap.size w w' := by
  go_enter Tryd.func9, Tryd.ntmps9
  go_wp2
  exact bodyPost_ret (v := .agg #[.int .i64 (-1), .int .i64 (-1), .int .i64 0]) (by simp [results, Tryd.results9, go_sem]) rfl ⟨rfl, (Below.refl _ _).alloc (Nat.le_refl _) _⟩
/-- what a round of Apply holds -/
structure AppJ (w : World) (l : List Int) (z : PS.Pn) (n : Nat) (k : Nat) (p : PS.Pn) (wr : World) : Prop where
  le : k ≤ n
  pen : Box wr w.heap.size 23 (penC p)
  res : Box wr (w.heap.size + 1) 23 zeroC
  flags : Box wr (w.heap.size + 2) 3 flagC
  ok : PS.Ok p
  fin : Hid (PS.sgr p (l.drop k) = z)
  bel : Below w.heap.size w wr
theorem one_flag (p : PS.Pn) {y : Nat} (h1 : 1 ≤ y) (h2 : y ≤ 9) : PS.one p y = ⟨p.fo, p.ba, p.fl ||| PS.flagOf y⟩ := by
  unfold PS.one
  rw [if_neg (by omega), if_pos (by omega)]
theorem one_22 (p : PS.Pn) : PS.one p 22 = ⟨p.fo, p.ba, p.fl &&& 252⟩ := rfl
theorem one_off (p : PS.Pn) {y : Nat} (h1 : 23 ≤ y) (h2 : y ≤ 29) : PS.one p y = ⟨p.fo, p.ba, p.fl &&& (255 - PS.flagOf (y - 20))⟩ := by
  unfold PS.one
  rw [if_neg (by omega), if_neg (by omega), if_neg (by omega), if_pos (by omega)]
theorem one_fore (p : PS.Pn) {y : Nat} (h1 : 30 ≤ y) (h2 : y ≤ 37) : PS.one p y = ⟨(y : Int) - 30, p.ba, p.fl⟩ := by
  unfold PS.one
  rw [if_neg (by omega), if_neg (by omega), if_neg (by omega), if_neg (by omega), if_pos (by omega)]
theorem one_back (p : PS.Pn) {y : Nat} (h1 : 40 ≤ y) (h2 : y ≤ 47) : PS.one p y = ⟨p.fo, (y : Int) - 40, p.fl⟩ := by
  unfold PS.one
  rw [if_neg (by omega), if_neg (by omega), if_neg (by omega), if_neg (by omega), if_neg (by omega), if_pos (by omega)]
theorem one_fore2 (p : PS.Pn) {y : Nat} (h1 : 90 ≤ y) (h2 : y ≤ 97) : PS.one p y = ⟨(y : Int) - 82, p.ba, p.fl⟩ := by
  unfold PS.one
  rw [if_neg (by omega), if_neg (by omega), if_neg (by omega), if_neg (by omega), if_neg (by omega), if_neg (by omega), if_pos (by omega)]
theorem one_back2 (p : PS.Pn) {y : Nat} (h1 : 100 ≤ y) (h2 : y ≤ 107) : PS.one p y = ⟨p.fo, (y : Int) - 92, p.fl⟩ := by
  unfold PS.one
  rw [if_neg (by omega), if_neg (by omega), if_neg (by omega), if_neg (by omega), if_neg (by omega), if_neg (by omega), if_neg (by omega), if_pos (by omega)]
theorem one_39 (p : PS.Pn) : PS.one p 39 = ⟨-1, p.ba, p.fl⟩ := rfl
theorem one_49 (p : PS.Pn) : PS.one p 49 = ⟨p.fo, -1, p.fl⟩ := rfl
theorem one_none (p : PS.Pn) {y : Nat} (h : (10 ≤ y ∧ y ≤ 21) ∨ y = 48 ∨ y = 38 ∨ (50 ≤ y ∧ y ≤ 89) ∨ (98 ≤ y ∧ y ≤ 99) ∨ 108 ≤ y) : PS.one p y = p := by
  unfold PS.one
  rw [if_neg (by omega), if_neg (by omega), if_neg (by omega), if_neg (by omega), if_neg (by omega), if_neg (by omega), if_neg (by omega), if_neg (by omega), if_neg (by omega), if_neg (by omega)]
theorem flagC_at {m : Nat} (h : m < 9) : flagC[m]? = some (.int .i64 (PS.flagOf (m + 1) : Nat)) := by
  have : ∀ m, m < 9 → flagC.toList[m]? = some (.int .i64 (PS.flagOf (m + 1) : Nat)) := by
    intro m h
    match m, h with
    | 0, _ => rfl
    | 1, _ => rfl
    | 2, _ => rfl
    | 3, _ => rfl
    | 4, _ => rfl
    | 5, _ => rfl
    | 6, _ => rfl
    | 7, _ => rfl
    | 8, _ => rfl
    | m + 9, h => omega
  simpa using this m h
theorem fin_next {l : List Int} {k : Nat} {x : Int} {q z : PS.Pn} (hx : l[k]? = some x) (h1 : PS.pos x ≠ 38) (h2 : PS.pos x ≠ 48) (h : PS.sgr q (l.drop k) = z) : PS.sgr (PS.one q (PS.pos x)) (l.drop (k + 1)) = z := by
  obtain ⟨hk, hx'⟩ := List.getElem?_eq_some_iff.1 hx
  rw [List.drop_eq_getElem_cons hk, hx', PS.sgr_one h1 h2] at h
  exact h
theorem fin_fore {l : List Int} {k : Nat} {x : Int} {q z : PS.Pn} (hx : l[k]? = some x) (h1 : PS.pos x = 38) (h : PS.sgr q (l.drop k) = z) : PS.sgr (PS.fore q (PS.wide (l.drop (k + 1))).1) (l.drop (k + 1 + (PS.wide (l.drop (k + 1))).2)) = z := by
  obtain ⟨hk, hx'⟩ := List.getElem?_eq_some_iff.1 hx
  rw [List.drop_eq_getElem_cons hk, hx', PS.sgr_fore h1, List.drop_drop] at h
  exact h
theorem fin_back {l : List Int} {k : Nat} {x : Int} {q z : PS.Pn} (hx : l[k]? = some x) (h1 : PS.pos x = 48) (h : PS.sgr q (l.drop k) = z) : PS.sgr (PS.back q (PS.wide (l.drop (k + 1))).1) (l.drop (k + 1 + (PS.wide (l.drop (k + 1))).2)) = z := by
  obtain ⟨hk, hx'⟩ := List.getElem?_eq_some_iff.1 hx
  rw [List.drop_eq_getElem_cons hk, hx', PS.sgr_back h1, List.drop_drop] at h
  exact h
theorem wide_pos : ∀ {l : List Int} {c : Int}, (PS.wide l).1 = some c → 0 ≤ c ∧ c < 33554432
  | [], c, h => by cases h
  | [_], c, h => by cases h
  | [a, b], c, h => by
    have h : (if a = 5 ∧ PS.pos b ≤ 255 then some ((PS.pos b : Nat) : Int) else none) = some c := h
    split at h
    · have := Option.some.inj h
      omega
    · cases h
  | [a, b, d], c, h => by
    have h : (if a = 5 then (if PS.pos b ≤ 255 then some ((PS.pos b : Nat) : Int) else none, 2) else (none, 3) : Option Int × Nat).1 = some c := h
    split at h
    · split at h
      · have := Option.some.inj h
        omega
      · cases h
    · cases h
  | a :: b :: d :: e :: r, c, h => by
    rw [PS.wide_four] at h
    split at h
    · split at h
      · have := Option.some.inj h
        omega
      · cases h
    · split at h
      · split at h
        · have := Option.some.inj h
          omega
        · cases h
      · cases h
theorem pos_nat (y : Nat) : PS.pos (y : Int) = y := by unfold PS.pos; omega
theorem pos_neg {x : Int} (h : x < 0) : PS.pos x = 0 := by unfold PS.pos; omega

set_option maxHeartbeats 8000000 in
theorem rapply_t (p z : PS.Pn) (A : Option Addr) (n c : Nat) (l : List Int) (w : World) (hp : PS.Ok p) (hA : Seen w w.heap.size A n (l.map (Value.int .i64))) (hn : n ≤ 1099511627776) (hn0 : 0 < n) (hnc : n ≤ c) (hl : ∀ x ∈ l, -9223372036854775808 ≤ x ∧ x ≤ 9223372036854775807) (hz : PS.sgr p l = z) :
    Calls Tryd.prog 16 #[.agg #[.int .i64 p.fo, .int .i64 p.ba, .int .i64 (p.fl : Nat)], .slice A n c] w fun e w' => e = .returned (.agg #[.int .i64 z.fo, .int .i64 z.ba, .int .i64 (z.fl : Nat)]) ∧ Below w.heap.size w w' := by
  have hlen : l.length = n := by simpa using hA.1
  have HA := hide hA
  have HL := hide hlen
  have HX := hide hl
  have HP := hide hp
  have HZ := hide hz
  clear hA hlen hl hp hz
  have hnn : ((n : Int) == 0) = false := by simp; omega
  go_enter Tryd.func16, Tryd.ntmps16
  go_wp2
  go_loopw [6] (fun i wr => ∃ (k : Nat) (q : PS.Pn), i = .int .i64 k ∧ AppJ w l z n k q wr) (fun i _ => n - (intOf i).toNat)
  case atStart =>
    have h0 := Box.new w 23 (penC p)
    have h1 := Box.new (w.alloc (.cells (penC p) 23)) 23 zeroC
    have h2 := Box.new ((w.alloc (.cells (penC p) 23)).alloc (.cells zeroC 23)) 3 flagC
    rw [World.size_alloc] at h1
    rw [World.size_alloc, World.size_alloc] at h2
    exact ⟨0, p, rfl, Nat.zero_le _, (h0.alloc _).alloc _, h1.alloc _, h2, HP.out, HZ.out, (((Below.refl _ w).alloc (Nat.le_refl _) _).alloc (by simp) _).alloc (by simp; omega) _⟩
  case round =>
    obtain ⟨k, q, rfl, J⟩ := hrel
    obtain ⟨hk, jp, jr, jf, jo, jz, jb⟩ := J
    have JP := hide jp
    have JR := hide jr
    have JF := hide jf
    have JO := hide jo
    have JB := hide jb
    obtain ⟨fo, ba, fl⟩ := q
    obtain ⟨p0, p1, p2, f0, f1, f2⟩ := Box.three (a := .int .i64 fo) (b := .int .i64 ba) (c := .int .i64 fl) jp
    have hsz := jb.size
    by_cases hlt : k < n
    · obtain ⟨ad, u, rfl, _, hu, hc⟩ := (HA.out.below jb).at_ hlt
      rw [List.getElem?_map] at hu
      obtain ⟨x, hx, rfl⟩ := Option.map_eq_some_iff.1 hu
      have HXK := hide hx
      obtain ⟨x0, x1⟩ := HX.out x (List.mem_of_getElem? hx)
      clear hu hx jp jr jf jo jb
      by_cases hneg : x < 0
      · have E := hide (show PS.sgr PS.plain (l.drop (k + 1)) = z by
          have h := fin_next HXK.out (by rw [pos_neg hneg]; omega) (by rw [pos_neg hneg]; omega) jz.out
          rw [pos_neg hneg] at h
          exact h)
        go_wp2_with fail
        refine (rplain10 _).mono ?_
        rintro e w2 ⟨rfl, b2⟩
        have jp2 := JP.out.below b2 JP.out.lt
        have jr2 := JR.out.below b2 JR.out.lt
        have jf2 := JF.out.below b2 JF.out.lt
        have jb2 := JB.out.trans (b2.mono hsz)
        obtain ⟨s0, s1, s2, t0, t1, t2⟩ := Box.three (a := .int .i64 fo) (b := .int .i64 ba) (c := .int .i64 fl) jp2
        have hsz2 := b2.size
        go_wp2_with fail
        go_roundw
        case rel => exact ⟨k + 1, PS.plain, by go_num, by omega, jp2.set3 _ _ _, jr2.far3 (by omega) _ _ _, jf2.far3 (by omega) _ _ _, PS.plain_ok, E.out, below_set3 jb2 (Nat.le_refl _) _ _ _⟩
        case measure => simp [intOf]; omega
      · obtain ⟨y, rfl⟩ := Int.eq_ofNat_of_zero_le (show 0 ≤ x by omega)
        have cs : y = 0 ∨ (1 ≤ y ∧ y ≤ 9) ∨ y = 22 ∨ (23 ≤ y ∧ y ≤ 29) ∨ (30 ≤ y ∧ y ≤ 37) ∨ (40 ≤ y ∧ y ≤ 47) ∨ (90 ≤ y ∧ y ≤ 97) ∨ (100 ≤ y ∧ y ≤ 107) ∨ y = 39 ∨ y = 49 ∨ y = 38 ∨ y = 48 ∨ (10 ≤ y ∧ y ≤ 21) ∨ (50 ≤ y ∧ y ≤ 89) ∨ (98 ≤ y ∧ y ≤ 99) ∨ 108 ≤ y := by omega
        rcases cs with rfl | ⟨h1, h2⟩ | rfl | ⟨h1, h2⟩ | ⟨h1, h2⟩ | ⟨h1, h2⟩ | ⟨h1, h2⟩ | ⟨h1, h2⟩ | rfl | rfl | rfl | rfl | ⟨h1, h2⟩ | ⟨h1, h2⟩ | ⟨h1, h2⟩ | h1
        · have E := hide (show PS.sgr PS.plain (l.drop (k + 1)) = z by
            have h := fin_next HXK.out (by decide) (by decide) jz.out
            rw [show PS.pos (((0 : Nat) : Int)) = 0 from rfl] at h
            exact h)
          go_wp2_with fail
          refine (rplain10 _).mono ?_
          rintro e w2 ⟨rfl, b2⟩
          have jp2 := JP.out.below b2 JP.out.lt
          have jr2 := JR.out.below b2 JR.out.lt
          have jf2 := JF.out.below b2 JF.out.lt
          have jb2 := JB.out.trans (b2.mono hsz)
          obtain ⟨s0, s1, s2, t0, t1, t2⟩ := Box.three (a := .int .i64 fo) (b := .int .i64 ba) (c := .int .i64 fl) jp2
          have hsz2 := b2.size
          go_wp2_with fail
          go_roundw
          case rel => exact ⟨k + 1, PS.plain, by go_num, by omega, jp2.set3 _ _ _, jr2.far3 (by omega) _ _ _, jf2.far3 (by omega) _ _ _, PS.plain_ok, E.out, below_set3 jb2 (Nat.le_refl _) _ _ _⟩
          case measure => simp [intOf]; omega
        · have E := hide (show PS.sgr ⟨fo, ba, fl ||| PS.flagOf y⟩ (l.drop (k + 1)) = z by
            have h := fin_next HXK.out (by rw [pos_nat]; omega) (by rw [pos_nat]; omega) jz.out
            rw [pos_nat, one_flag _ h1 h2] at h
            exact h)
          have ey : y - 1 + 1 = y := by omega
          have fc : wr.cell? ⟨w.heap.size + 1 + 1, y - 1, none⟩ = some (.int .i64 (PS.flagOf y : Nat)) := by
            have h := (JF.out.cell (y - 1)).trans (flagC_at (show y - 1 < 9 by omega))
            rw [ey] at h
            exact h
          have HFL := hide (PS.flag_lt y)
          generalize PS.flagOf y = fv at E fc HFL
          clear ey
          go_wp2_with fail
          go_region
          go_wp2_with fail
          go_roundw
          case rel =>
            refine ⟨k + 1, ⟨fo, ba, fl ||| fv⟩, by go_num, by omega, ?_, JR.out.far (p := ⟨w.heap.size, 2, none⟩) (by simp) _, JF.out.far (p := ⟨w.heap.size, 2, none⟩) (by simp) _, PS.or_lt JO.out HFL.out, E.out, (JB.out.setCell (p := ⟨w.heap.size, 2, none⟩) (Nat.le_refl _) _).drew⟩
            rw [i64_or_small JO.out HFL.out]
            have h := JP.out.set 2 (.int .i64 ((fl ||| fv : Nat) : Int))
            refine Box.drew ?_
            simpa [penC] using h
          case measure => simp [intOf]; omega
        · have E := hide (show PS.sgr ⟨fo, ba, fl &&& 252⟩ (l.drop (k + 1)) = z by
            have h := fin_next HXK.out (by rw [pos_nat]; omega) (by rw [pos_nat]; omega) jz.out
            rw [pos_nat, one_22] at h
            exact h)
          go_wp2_with fail
          go_roundw
          case rel =>
            refine ⟨k + 1, ⟨fo, ba, fl &&& 252⟩, by go_num, by omega, ?_, JR.out.far (by simp) _, JF.out.far (by simp) _, PS.and_lt JO.out, E.out, JB.out.setCell (Nat.le_refl _) _⟩
            have h := JP.out.set 2 (.int .i64 ((fl &&& 252 : Nat) : Int))
            rw [show bits BinOp.andNot .i64 (fl : Int) 3 = ((fl &&& 252 : Nat) : Int) from i64_andNot_nat (y := 3) JO.out (by decide)]
            simpa [penC] using h
          case measure => simp [intOf]; omega
        · have E := hide (show PS.sgr ⟨fo, ba, fl &&& (255 - PS.flagOf (y - 20))⟩ (l.drop (k + 1)) = z by
            have h := fin_next HXK.out (by rw [pos_nat]; omega) (by rw [pos_nat]; omega) jz.out
            rw [pos_nat, one_off _ h1 h2] at h
            exact h)
          have ey : y - 21 + 1 = y - 20 := by omega
          have fc : wr.cell? ⟨w.heap.size + 1 + 1, y - 21, none⟩ = some (.int .i64 (PS.flagOf (y - 20) : Nat)) := by
            have h := (JF.out.cell (y - 21)).trans (flagC_at (show y - 21 < 9 by omega))
            rw [ey] at h
            exact h
          have HFL := hide (PS.flag_lt (y - 20))
          generalize PS.flagOf (y - 20) = fv at E fc HFL
          clear ey
          go_wp2_with fail
          go_region
          go_wp2_with fail
          go_roundw
          case rel =>
            refine ⟨k + 1, ⟨fo, ba, fl &&& (255 - fv)⟩, by go_num, by omega, ?_, JR.out.far (p := ⟨w.heap.size, 2, none⟩) (by simp) _, JF.out.far (p := ⟨w.heap.size, 2, none⟩) (by simp) _, PS.and_lt JO.out, E.out, (JB.out.setCell (p := ⟨w.heap.size, 2, none⟩) (Nat.le_refl _) _).drew⟩
            rw [i64_andNot_nat JO.out HFL.out]
            have h := JP.out.set 2 (.int .i64 ((fl &&& (255 - fv) : Nat) : Int))
            refine Box.drew ?_
            simpa [penC] using h
          case measure => simp [intOf]; omega
        · have E := hide (show PS.sgr ⟨(y : Int) - 30, ba, fl⟩ (l.drop (k + 1)) = z by
            have h := fin_next HXK.out (by rw [pos_nat]; omega) (by rw [pos_nat]; omega) jz.out
            rw [pos_nat, one_fore _ h1 h2] at h
            exact h)
          go_wp2_with fail
          go_roundw
          case rel =>
            refine ⟨k + 1, ⟨(y : Int) - 30, ba, fl⟩, by go_num, by omega, ?_, JR.out.far (by simp) _, JF.out.far (by simp) _, JO.out, E.out, JB.out.setCell (Nat.le_refl _) _⟩
            have h := JP.out.set 0 (.int .i64 ((y : Int) - 30))
            simpa [penC] using h
          case measure => simp [intOf]; omega
        · have E := hide (show PS.sgr ⟨fo, (y : Int) - 40, fl⟩ (l.drop (k + 1)) = z by
            have h := fin_next HXK.out (by rw [pos_nat]; omega) (by rw [pos_nat]; omega) jz.out
            rw [pos_nat, one_back _ h1 h2] at h
            exact h)
          go_wp2_with fail
          go_roundw
          case rel =>
            refine ⟨k + 1, ⟨fo, (y : Int) - 40, fl⟩, by go_num, by omega, ?_, JR.out.far (by simp) _, JF.out.far (by simp) _, JO.out, E.out, JB.out.setCell (Nat.le_refl _) _⟩
            have h := JP.out.set 1 (.int .i64 ((y : Int) - 40))
            simpa [penC] using h
          case measure => simp [intOf]; omega
        · have E := hide (show PS.sgr ⟨(y : Int) - 82, ba, fl⟩ (l.drop (k + 1)) = z by
            have h := fin_next HXK.out (by rw [pos_nat]; omega) (by rw [pos_nat]; omega) jz.out
            rw [pos_nat, one_fore2 _ h1 h2] at h
            exact h)
          go_wp2_with fail
          go_roundw
          case rel =>
            refine ⟨k + 1, ⟨(y : Int) - 82, ba, fl⟩, by go_num, by omega, ?_, JR.out.far (by simp) _, JF.out.far (by simp) _, JO.out, E.out, JB.out.setCell (Nat.le_refl _) _⟩
            have h := JP.out.set 0 (.int .i64 ((y : Int) - 82))
            simpa [penC] using h
          case measure => simp [intOf]; omega
        · have E := hide (show PS.sgr ⟨fo, (y : Int) - 92, fl⟩ (l.drop (k + 1)) = z by
            have h := fin_next HXK.out (by rw [pos_nat]; omega) (by rw [pos_nat]; omega) jz.out
            rw [pos_nat, one_back2 _ h1 h2] at h
            exact h)
          go_wp2_with fail
          go_roundw
          case rel =>
            refine ⟨k + 1, ⟨fo, (y : Int) - 92, fl⟩, by go_num, by omega, ?_, JR.out.far (by simp) _, JF.out.far (by simp) _, JO.out, E.out, JB.out.setCell (Nat.le_refl _) _⟩
            have h := JP.out.set 1 (.int .i64 ((y : Int) - 92))
            simpa [penC] using h
          case measure => simp [intOf]; omega
        · have E := hide (show PS.sgr ⟨-1, ba, fl⟩ (l.drop (k + 1)) = z by
            have h := fin_next HXK.out (by rw [pos_nat]; omega) (by rw [pos_nat]; omega) jz.out
            rw [pos_nat, one_39] at h
            exact h)
          go_wp2_with fail
          go_roundw
          case rel =>
            refine ⟨k + 1, ⟨-1, ba, fl⟩, by go_num, by omega, ?_, JR.out.far (by simp) _, JF.out.far (by simp) _, JO.out, E.out, JB.out.setCell (Nat.le_refl _) _⟩
            have h := JP.out.set 0 (.int .i64 (-1))
            simpa [penC] using h
          case measure => simp [intOf]; omega
        · have E := hide (show PS.sgr ⟨fo, -1, fl⟩ (l.drop (k + 1)) = z by
            have h := fin_next HXK.out (by rw [pos_nat]; omega) (by rw [pos_nat]; omega) jz.out
            rw [pos_nat, one_49] at h
            exact h)
          go_wp2_with fail
          go_roundw
          case rel =>
            refine ⟨k + 1, ⟨fo, -1, fl⟩, by go_num, by omega, ?_, JR.out.far (by simp) _, JF.out.far (by simp) _, JO.out, E.out, JB.out.setCell (Nat.le_refl _) _⟩
            have h := JP.out.set 1 (.int .i64 (-1))
            simpa [penC] using h
          case measure => simp [intOf]; omega
        · have F := fin_fore HXK.out (by rfl) jz.out
          have S := ((HA.out.below JB.out).drop (k := k + 1) (cap := c) (by omega) hnc)
          rw [← List.map_drop] at S
          have hl1 : (l.drop (k + 1)).length = n - (k + 1) := by rw [List.length_drop, HL.out]
          have XL := hide (fun x (hx : x ∈ l.drop (k + 1)) => HX.out x (List.mem_of_mem_drop hx))
          by_cases hck : c = k + 1
          · have hnk : n - (k + 1) = 0 := by omega
            have e0 : l.drop (k + 1) = [] := List.eq_nil_of_length_eq_zero (by omega)
            rw [e0] at F S XL
            rw [hnk, if_pos hck] at S
            have E := hide (show PS.sgr ⟨fo, ba, fl⟩ (l.drop (k + 1)) = z from F)
            have W := hide (rwider_any (some ad) 0 0 _ [] wr S (by omega) XL.out)
            have hv : widerV [] = .tuple #[.int .i64 (-2), .int .i64 0] := rfl
            rw [hv] at W
            clear F S XL hv e0 hl1
            have hck' : c ≤ k + 1 := by omega
            have hnk' : n ≤ k + 1 := by omega
            clear hnk hck
            go_wp2_with fail
            refine W.out.mono ?_
            rintro e w2 ⟨rfl, rfl⟩
            go_wp2_with fail
            go_roundw
            case rel => exact ⟨k + 1, ⟨fo, ba, fl⟩, by go_num, by omega, JP.out, JR.out, JF.out, JO.out, E.out, JB.out⟩
            case measure => simp [intOf]; omega
          · rw [if_neg hck] at S
            have hwl := PS.wide_le (l.drop (k + 1))
            rw [hl1] at hwl
            have W := hide (rwider_any ((some ad).map (·.add (k + 1))) (n - (k + 1)) (c - (k + 1)) _ (l.drop (k + 1)) wr S (by omega) XL.out)
            obtain ⟨o, u, ho⟩ : ∃ o u, PS.wide (l.drop (k + 1)) = (o, u) := ⟨_, _, rfl⟩
            have hv : widerV (l.drop (k + 1)) = .tuple #[.int .i64 (o.getD (-2)), .int .i64 (u : Nat)] := by unfold widerV; rw [ho]
            have hcp := fun cc (h : o = some cc) => wide_pos (l := l.drop (k + 1)) (c := cc) (by rw [ho, h])
            rw [hv] at W
            rw [ho] at F hwl
            clear S XL hv ho hl1
            cases o with
            | none =>
              have E := hide (show PS.sgr ⟨fo, ba, fl⟩ (l.drop (k + 1 + u)) = z from F)
              clear F hcp
              go_wp2_with fail
              refine W.out.mono ?_
              rintro e w2 ⟨rfl, rfl⟩
              go_wp2_with fail
              go_roundw
              case rel => exact ⟨k + 1 + u, ⟨fo, ba, fl⟩, by go_num, by omega, JP.out, JR.out, JF.out, JO.out, E.out, JB.out⟩
              case measure => simp [intOf]; omega
            | some cc =>
              have E := hide (show PS.sgr ⟨cc, ba, fl⟩ (l.drop (k + 1 + u)) = z from F)
              obtain ⟨hc0, hc1⟩ := hcp cc rfl
              clear F hcp
              go_wp2_with fail
              refine W.out.mono ?_
              rintro e w2 ⟨rfl, rfl⟩
              go_wp2_with fail
              go_roundw
              case rel =>
                refine ⟨k + 1 + u, ⟨cc, ba, fl⟩, by go_num, by omega, ?_, JR.out.far (p := ⟨w.heap.size, 0, none⟩) (by simp) _, JF.out.far (p := ⟨w.heap.size, 0, none⟩) (by simp) _, JO.out, E.out, JB.out.setCell (p := ⟨w.heap.size, 0, none⟩) (Nat.le_refl _) _⟩
                have h := JP.out.set 0 (.int .i64 cc)
                simpa [penC] using h
              case measure => simp [intOf]; omega
        · have F := fin_back HXK.out (by rfl) jz.out
          have S := ((HA.out.below JB.out).drop (k := k + 1) (cap := c) (by omega) hnc)
          rw [← List.map_drop] at S
          have hl1 : (l.drop (k + 1)).length = n - (k + 1) := by rw [List.length_drop, HL.out]
          have XL := hide (fun x (hx : x ∈ l.drop (k + 1)) => HX.out x (List.mem_of_mem_drop hx))
          by_cases hck : c = k + 1
          · have hnk : n - (k + 1) = 0 := by omega
            have e0 : l.drop (k + 1) = [] := List.eq_nil_of_length_eq_zero (by omega)
            rw [e0] at F S XL
            rw [hnk, if_pos hck] at S
            have E := hide (show PS.sgr ⟨fo, ba, fl⟩ (l.drop (k + 1)) = z from F)
            have W := hide (rwider_any (some ad) 0 0 _ [] wr S (by omega) XL.out)
            have hv : widerV [] = .tuple #[.int .i64 (-2), .int .i64 0] := rfl
            rw [hv] at W
            clear F S XL hv e0 hl1
            have hck' : c ≤ k + 1 := by omega
            have hnk' : n ≤ k + 1 := by omega
            clear hnk hck
            go_wp2_with fail
            refine W.out.mono ?_
            rintro e w2 ⟨rfl, rfl⟩
            go_wp2_with fail
            go_roundw
            case rel => exact ⟨k + 1, ⟨fo, ba, fl⟩, by go_num, by omega, JP.out, JR.out, JF.out, JO.out, E.out, JB.out⟩
            case measure => simp [intOf]; omega
          · rw [if_neg hck] at S
            have hwl := PS.wide_le (l.drop (k + 1))
            rw [hl1] at hwl
            have W := hide (rwider_any ((some ad).map (·.add (k + 1))) (n - (k + 1)) (c - (k + 1)) _ (l.drop (k + 1)) wr S (by omega) XL.out)
            obtain ⟨o, u, ho⟩ : ∃ o u, PS.wide (l.drop (k + 1)) = (o, u) := ⟨_, _, rfl⟩
            have hv : widerV (l.drop (k + 1)) = .tuple #[.int .i64 (o.getD (-2)), .int .i64 (u : Nat)] := by unfold widerV; rw [ho]
            have hcp := fun cc (h : o = some cc) => wide_pos (l := l.drop (k + 1)) (c := cc) (by rw [ho, h])
            rw [hv] at W
            rw [ho] at F hwl
            clear S XL hv ho hl1
            cases o with
            | none =>
              have E := hide (show PS.sgr ⟨fo, ba, fl⟩ (l.drop (k + 1 + u)) = z from F)
              clear F hcp
              go_wp2_with fail
              refine W.out.mono ?_
              rintro e w2 ⟨rfl, rfl⟩
              go_wp2_with fail
              go_roundw
              case rel => exact ⟨k + 1 + u, ⟨fo, ba, fl⟩, by go_num, by omega, JP.out, JR.out, JF.out, JO.out, E.out, JB.out⟩
              case measure => simp [intOf]; omega
            | some cc =>
              have E := hide (show PS.sgr ⟨fo, cc, fl⟩ (l.drop (k + 1 + u)) = z from F)
              obtain ⟨hc0, hc1⟩ := hcp cc rfl
              clear F hcp
              go_wp2_with fail
              refine W.out.mono ?_
              rintro e w2 ⟨rfl, rfl⟩
              go_wp2_with fail
              go_roundw
              case rel =>
                refine ⟨k + 1 + u, ⟨fo, cc, fl⟩, by go_num, by omega, ?_, JR.out.far (p := ⟨w.heap.size, 1, none⟩) (by simp) _, JF.out.far (p := ⟨w.heap.size, 1, none⟩) (by simp) _, JO.out, E.out, JB.out.setCell (p := ⟨w.heap.size, 1, none⟩) (Nat.le_refl _) _⟩
                have h := JP.out.set 1 (.int .i64 cc)
                simpa [penC] using h
              case measure => simp [intOf]; omega
        · have d38 : ((y : Int) == 38) = false := by simp; omega
          have d48 : ((y : Int) == 48) = false := by simp; omega
          have E := hide (show PS.sgr ⟨fo, ba, fl⟩ (l.drop (k + 1)) = z by
            have h := fin_next HXK.out (by rw [pos_nat]; omega) (by rw [pos_nat]; omega) jz.out
            rw [pos_nat, one_none _ (.inl ⟨h1, h2⟩)] at h
            exact h)
          go_wp2_with fail
          go_roundw
          case rel => exact ⟨k + 1, ⟨fo, ba, fl⟩, by go_num, by omega, JP.out, JR.out, JF.out, JO.out, E.out, JB.out⟩
          case measure => simp [intOf]; omega
        · have d38 : ((y : Int) == 38) = false := by simp; omega
          have d48 : ((y : Int) == 48) = false := by simp; omega
          have E := hide (show PS.sgr ⟨fo, ba, fl⟩ (l.drop (k + 1)) = z by
            have h := fin_next HXK.out (by rw [pos_nat]; omega) (by rw [pos_nat]; omega) jz.out
            rw [pos_nat, one_none _ (.inr (.inr (.inr (.inl ⟨h1, h2⟩))))] at h
            exact h)
          go_wp2_with fail
          go_roundw
          case rel => exact ⟨k + 1, ⟨fo, ba, fl⟩, by go_num, by omega, JP.out, JR.out, JF.out, JO.out, E.out, JB.out⟩
          case measure => simp [intOf]; omega
        · have d38 : ((y : Int) == 38) = false := by simp; omega
          have d48 : ((y : Int) == 48) = false := by simp; omega
          have E := hide (show PS.sgr ⟨fo, ba, fl⟩ (l.drop (k + 1)) = z by
            have h := fin_next HXK.out (by rw [pos_nat]; omega) (by rw [pos_nat]; omega) jz.out
            rw [pos_nat, one_none _ (.inr (.inr (.inr (.inr (.inl ⟨h1, h2⟩)))))] at h
            exact h)
          go_wp2_with fail
          go_roundw
          case rel => exact ⟨k + 1, ⟨fo, ba, fl⟩, by go_num, by omega, JP.out, JR.out, JF.out, JO.out, E.out, JB.out⟩
          case measure => simp [intOf]; omega
        · have d38 : ((y : Int) == 38) = false := by simp; omega
          have d48 : ((y : Int) == 48) = false := by simp; omega
          have E := hide (show PS.sgr ⟨fo, ba, fl⟩ (l.drop (k + 1)) = z by
            have h := fin_next HXK.out (by rw [pos_nat]; omega) (by rw [pos_nat]; omega) jz.out
            rw [pos_nat, one_none _ (.inr (.inr (.inr (.inr (.inr h1)))))] at h
            exact h)
          go_wp2_with fail
          go_roundw
          case rel => exact ⟨k + 1, ⟨fo, ba, fl⟩, by go_num, by omega, JP.out, JR.out, JF.out, JO.out, E.out, JB.out⟩
          case measure => simp [intOf]; omega
    · obtain rfl : k = n := by omega
      have E := hide (show (⟨fo, ba, fl⟩ : PS.Pn) = z by
        have h := jz.out
        rw [List.drop_of_length_le (by rw [HL.out]; omega)] at h
        exact h)
      obtain ⟨s0, s1, s2, t0, t1, t2⟩ := jr.three
      go_wp2
      refine bodyPost_ret (v := .agg #[.int .i64 fo, .int .i64 ba, .int .i64 (fl : Nat)]) (by simp [results, Tryd.results16, go_sem, s0, s1, s2]) rfl ⟨by rw [← E.out], below_set3 jb (by omega) _ _ _⟩
set_option maxHeartbeats 1000000 in
theorem rapply_nil (p : PS.Pn) (A : Option Addr) (c : Nat) (w : World) :
    Calls Tryd.prog 16 #[.agg #[.int .i64 p.fo, .int .i64 p.ba, .int .i64 (p.fl : Nat)], .slice A 0 c] w fun e w' => e = .returned (.agg #[.int .i64 (-1), .int .i64 (-1), .int .i64 0]) ∧ Below w.heap.size w w' := by
  go_enter Tryd.func16, Tryd.ntmps16
  have h0 := Box.new w 23 (penC p)
  have h1 := Box.new (w.alloc (.cells (penC p) 23)) 23 zeroC
  rw [World.size_alloc] at h1
  go_wp2_with fail
  refine (rplain10 _).mono ?_
  rintro e w2 ⟨rfl, b2⟩
  have r2 := h1.below b2 (by simp)
  obtain ⟨s0, s1, s2, t0, t1, t2⟩ := r2.three
  have hsz := b2.size
  simp only [World.size_alloc] at hsz
  have bb : Below w.heap.size w w2 := (((Below.refl _ w).alloc (Nat.le_refl _) _).alloc (by simp) _).trans (b2.mono (by simp; omega))
  go_wp2_with fail
  refine bodyPost_ret (v := .agg #[.int .i64 (-1), .int .i64 (-1), .int .i64 0]) (by simp [results, Tryd.results16, go_sem, s0, s1, s2]) rfl ⟨rfl, below_set3 bb (by omega) _ _ _⟩
/-- the document's Apply -/
theorem rapply_is (p q : PS.Pn) (A : Option Addr) (n c : Nat) (l : List Int) (hq : PS.apply p l = q) (w : World) (hp : PS.Ok p) (hA : Seen w w.heap.size A n (l.map (Value.int .i64))) (hn : n ≤ 1099511627776) (hnc : n ≤ c) (hl : ∀ x ∈ l, -9223372036854775808 ≤ x ∧ x ≤ 9223372036854775807) :
    Calls Tryd.prog 16 #[penV p, .slice A n c] w fun e w' => e = .returned (penV q) ∧ Below w.heap.size w w' := by
  have hlen : l.length = n := by simpa using hA.1
  by_cases h : n = 0
  · subst h
    have : l = [] := List.eq_nil_of_length_eq_zero hlen
    subst this
    subst hq
    exact rapply_nil p A c w
  · have hl0 : l ≠ [] := fun e => by rw [e] at hlen; exact h hlen.symm
    have : PS.sgr p l = q := by
      unfold PS.apply at hq
      rw [if_neg hl0] at hq
      exact hq
    exact rapply_t p q A n c l w hp hA hn (by omega) hnc hl this
end Go.Proofs.YtnjkongbccblaaaDoor
