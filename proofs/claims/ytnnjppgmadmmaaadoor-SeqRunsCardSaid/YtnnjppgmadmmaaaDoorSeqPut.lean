/- The contracts of seq's putAny, putParams. -/
import Derived.Test.YtnnjppgmadmmaaaDoorSeqIs
import Derived.Test.YtnnjppgmadmmaaaDoorSeqNum
import Derived.Deep.RegionHeld3
set_option maxRecDepth 100000
namespace Go.Proofs.YtnnjppgmadmmaaaDoor
open Go.RowKit
set_option linter.unusedVariables false
set_option maxHeartbeats 1000000 in
theorem putAny_any (base : Nat) (v : Value) (n : Nat) (xs : List Value) (b : Int) (w : World) (hown : w.ownsRow base 5 1 v n xs) (hn : n ≤ 1099511627770) (hbase : base ≤ w.heap.size) :
    Calls Tryd.prog 41 #[v, .int .u8 b] w (Gave base 5 w v n xs (u8s (PA.some0 b)) fun v' => v') := by
  obtain ⟨i0, hi, hz0, hz1, hz2⟩ := info_parts info_u8
  by_cases hb : b = 0
  · subst hb
    go_enter Tryd.func41, Tryd.ntmps41
    go_wp2_with fail
    go_ret
    exact ⟨v, rfl, by simpa [PA.some0, u8s] using hown, grown_refl _ _, Moved.refl _ _⟩
  · have hd : (b == 0) = false := by simpa using hb
    have HE := hide (show PA.some0 b = [b] by unfold PA.some0; rw [if_neg hb])
    clear hb
    go_enter Tryd.func41, Tryd.ntmps41
    go_wp2_with (at_builtin; refine wpList_app1 rfl (.tmp 8) (.tmp 10) 26 rfl base 5 i0 _ 1 Tryd.underlying26 hi hz0 hz1 hz2 rfl v n xs rfl hown _ _ _ rfl rfl rfl (by omega) (by omega) hbase ?_; intro v' w1 hown1 hg1 hm1)
    go_ret
    refine ⟨v', rfl, ?_, hg1, hm1⟩
    rw [HE.out]
    exact hown1
/-- a world that the writer of bytes leaves: below base all stays; of what lies above, all but rows of bytes -/
structure Kx (base : Nat) (w0 w : World) : Prop where
  below : Below base w0 w
  others : Lib.OthersKept 5 none w0 w
section
variable {base : Nat} {w0 w w' : World}
theorem Kx.refl (base : Nat) (w : World) : Kx base w w := ⟨Below.refl _ _, Lib.OthersKept.refl _ _ _⟩
theorem Kx.trans (h : Kx base w0 w) (k : Kx base w w') : Kx base w0 w' := ⟨h.below.trans k.below, h.others.trans k.others⟩
theorem Kx.of_below (h : Below w0.heap.size w0 w) (hb : base ≤ w0.heap.size) : Kx base w0 w := ⟨h.mono hb, fun k o hk _ _ => by
  have hlt : k < w0.heap.size := (Array.getElem?_eq_some_iff.1 hk).1
  rw [h.block k hlt]
  exact hk⟩
theorem Kx.alloc (h : Kx base w0 w) (hb : base ≤ w.heap.size) (o : Obj) : Kx base w0 (w.alloc o) := h.trans (Kx.of_below ((Below.refl _ _).alloc (Nat.le_refl _) _) hb)
theorem Kx.drew (h : Kx base w0 w) : Kx base w0 w.drew := ⟨h.below.drew, h.others.drew⟩
theorem Kx.grown {n : Nat} {v : Value} {xs : List Value} (h : Kx base w0 w) (hown : w.ownsRow base 5 1 v n xs) (hg : w.grownBy w' v.ownBlock) (hb : base ≤ w.heap.size) : Kx base w0 w' := h.trans ⟨below_of_grown hg hb (fun g hg => (hown.lt g hg).1), fun k o hk _ ho => by
  have hlt : k < w.heap.size := (Array.getElem?_eq_some_iff.1 hk).1
  rw [hg.block k hlt (fun e => by
    obtain ⟨cur, hc⟩ := own_type hown e.symm
    unfold Box at hc
    rw [hk] at hc
    exact ho cur (0, 0) (Option.some.inj hc))]
  exact hk⟩
theorem Kx.box (h : Kx base w0 w) {g : Nat} {t : TypeId} {cs : Array Value} (hb : Box w0 g t cs) (ht : t ≠ 5) : Box w g t cs := by
  refine h.others g _ hb (by simp) (fun c fz e => ?_)
  injection e with _ h2
  exact ht h2
theorem Kx.size (h : Kx base w0 w) : w0.heap.size ≤ w.heap.size := h.below.size
end
/-- a call that writes ys behind the bytes that it was given -/
def Wrote (base : Nat) (w : World) (n : Nat) (xs : List Value) (ys : List Int) (e : Ending) (w' : World) : Prop :=
  ∃ v', e = .returned v' ∧ w'.ownsRow base 5 1 v' (n + ys.length) (xs ++ u8s ys) ∧ Kx base w w'
theorem joined_snoc : ∀ (l : List Int) (x : Int), PA.joined (l ++ [x]) = if l = [] then PA.num x else PA.joined l ++ 59 :: PA.num x
  | [], x => rfl
  | [y], x => by rw [if_neg (by simp)]; rfl
  | y :: z :: l, x => by
    have ih := joined_snoc (z :: l) x
    rw [if_neg (by simp)] at ih ⊢
    show PA.num y ++ 59 :: PA.joined ((z :: l) ++ [x]) = _
    rw [ih]
    show _ = (PA.num y ++ 59 :: PA.joined (z :: l)) ++ 59 :: PA.num x
    simp
theorem dec10F_len : ∀ (k n : Nat), (PA.dec10F k n).length ≤ k + 1
  | 0, n => by simp [PA.dec10F]
  | k + 1, n => by
    unfold PA.dec10F
    split
    · simp
    · have := dec10F_len k (n / 10)
      simp
      omega
theorem num_len (x : Int) : (PA.num x).length ≤ 21 := by
  unfold PA.num
  split
  · simp
  · exact dec10F_len 20 _
theorem joined_len : ∀ l : List Int, (PA.joined l).length ≤ 22 * l.length
  | [] => by simp [PA.joined]
  | [x] => by have := num_len x; simp [PA.joined]; omega
  | x :: y :: l => by
    have h1 := num_len x
    have h2 := joined_len (y :: l)
    simp only [PA.joined, List.length_append, List.length_cons] at h2 ⊢
    omega
theorem Kx.wrote {base n : Nat} {w w' : World} {xs : List Value} {ys : List Int} {e : Ending} {v v' : Value} (he : e = .returned v') (hown : w.ownsRow base 5 1 v n xs) (h : w'.ownsRow base 5 1 v' (n + ys.length) (xs ++ u8s ys)) (hg : w.grownBy w' v.ownBlock) (hb : base ≤ w.heap.size) : Wrote base w n xs ys e w' :=
  ⟨v', he, h, (Kx.refl _ _).grown hown hg hb⟩
/-- the tens stay, whatever is written from base on -/
def TensB (base : Nat) (w : World) : Prop := ∀ w', Below base w w' → Tens w'
theorem TensB.on {base : Nat} {w w' : World} (h : TensB base w) (k : Below base w w') : TensB base w' := fun w2 k2 => h w2 (k.trans k2)
set_option maxHeartbeats 4000000 in
theorem putParams_any (base : Nat) (v : Value) (n0 : Nat) (xs : List Value) (A : Option Addr) (n c : Nat) (l : List Int) (w : World) (hown : w.ownsRow base 5 1 v n0 xs) (hn0 : n0 ≤ 1099511000000) (hbase : base ≤ w.heap.size)
    (hA : Seen w base A n (i64s l)) (hn : n ≤ 16) (hl : ∀ x ∈ l, -1 ≤ x ∧ x ≤ 65535) (ht : TensB base w) :
    Calls Tryd.prog 42 #[v, .slice A n c] w (Wrote base w n0 xs (PA.joined l)) := by
  obtain ⟨i0, hi, hz0, hz1, hz2⟩ := info_parts info_u8
  have hlen : l.length = n := by simpa [i64s] using hA.1
  have HA := hide hA
  have HL := hide hl
  have HN := hide hlen
  have HT := hide ht
  have HO := hide hown
  clear hA hl hlen ht
  go_enter Tryd.func42, Tryd.ntmps42
  go_wp2_with fail
  go_loopw [0, 9] (fun o i wr => ∃ k : Nat, k ≤ n ∧ i = .int .i64 k ∧ wr.ownsRow base 5 1 o (n0 + (PA.joined (l.take k)).length) (xs ++ u8s (PA.joined (l.take k))) ∧ Kx base w wr) (fun _ i _ => n - (intOf i).toNat)
  case atStart => exact ⟨0, Nat.zero_le _, rfl, by simpa [PA.joined, u8s] using HO.out, Kx.refl _ _⟩
  case round =>
    obtain ⟨k, hk, rfl, ho, kx⟩ := hrel
    by_cases hlt : k < n
    · obtain ⟨ad, u, rfl, _, hu, hc⟩ := (HA.out.below kx.below).at_ hlt
      rw [i64s, List.getElem?_map] at hu
      obtain ⟨x, hx, rfl⟩ := Option.map_eq_some_iff.1 hu
      have hxr := HL.out x (List.mem_of_getElem? hx)
      have hs1 := joined_snoc (l.take k) x
      rw [show l.take k ++ [x] = l.take (k + 1) from by rw [List.take_add_one, hx]; rfl] at hs1
      have hln := joined_len (l.take k)
      have hk0 : l.take k = [] ↔ k = 0 := by
        rw [← List.length_eq_zero_iff, List.length_take, HN.out]
        omega
      rw [List.length_take] at hln
      generalize PA.joined (l.take k) = js at hs1 ho hln
      have hbw : base ≤ wr.heap.size := Nat.le_trans hbase kx.size
      clear hu hx
      have hnum : x ≠ -1 → PA.num x = PA.dec10 x.toNat := fun e => by unfold PA.num; rw [if_neg e]
      have hnum0 : x = -1 → PA.num x = [] := fun e => by unfold PA.num; rw [if_pos e]
      have hdl : x ≠ -1 → (PA.dec10 x.toNat).length ≤ 21 := fun e => dec10F_len 20 _
      have cs : k = 0 ∨ 0 < k := by omega
      rcases cs with hk1 | hk1
      · have hd0 : decide (0 < (k : Int)) = false := by simp; omega
        have hd0' : decide (0 < k) = false := by simp; omega
        have hk2 : k ≤ 0 := by omega
        rw [if_pos (hk0.2 hk1)] at hs1
        have hjs : js = [] := by
          have : js.length ≤ 0 := by omega
          exact List.eq_nil_of_length_eq_zero (by omega)
        subst hjs
        simp only [List.length_nil, Nat.add_zero, u8s, List.map_nil, List.append_nil] at ho
        by_cases hx1 : x = -1
        · have hd1 : (x != -1) = false := by simp [hx1]
          rw [hnum0 hx1] at hs1
          have HS := hide hs1
          have HX := hide hx1
          clear hs1 hk0 hnum hnum0 hk1 hx1 hdl
          go_wp2_with fail
          go_roundw
          case rel => exact ⟨k + 1, by omega, by go_num, by rw [HS.out]; simpa [u8s] using ho, kx⟩
          case measure => simp [intOf]; omega
        · have hd1 : (x != -1) = true := by simpa using hx1
          rw [hnum hx1] at hs1
          have hdl := hdl hx1
          have x0 : 0 ≤ x := by omega
          have HS := hide hs1
          have HI := hide (appendInt_any base n0 x x0 hxr.2 u0 xs wr ho hbw (by omega) (HT.out.on kx.below))
          clear hs1 hk0 hnum hnum0 hk1 hx1
          go_wp2_with fail
          refine HI.out.mono ?_
          rintro e w1 ⟨v1, rfl, h1, kx0, kx0b⟩
          have kx1 : Kx base wr w1 := ⟨kx0, kx0b⟩
          go_wp2_with fail
          go_roundw
          case rel => exact ⟨k + 1, by omega, by go_num, by rw [HS.out]; exact h1, kx.trans kx1⟩
          case measure => simp [intOf]; omega
      · have hd0 : decide (0 < (k : Int)) = true := by simp; omega
        have hd0' : decide (0 < k) = true := by simp; omega
        rw [if_neg (fun e => by have := hk0.1 e; omega)] at hs1
        by_cases hx1 : x = -1
        · have hd1 : (x != -1) = false := by simp [hx1]
          rw [hnum0 hx1] at hs1
          have HS := hide hs1
          have HX := hide hx1
          clear hs1 hk0 hnum hnum0 hx1 hdl
          go_wp2_with (at_builtin; refine wpList_app1 rfl (.tmp 16) (.tmp 17) 26 rfl base 5 i0 _ 1 Tryd.underlying26 hi hz0 hz1 hz2 rfl u0 _ _ rfl ho _ _ _ rfl rfl rfl (by omega) (by omega) hbw ?_; intro v' w1 hown1 hg1 hm1)
          go_roundw
          case rel => exact ⟨k + 1, by omega, by go_num, by rw [HS.out]; simpa [u8s, Nat.add_assoc] using hown1, kx.grown ho hg1 hbw⟩
          case measure => simp [intOf]; omega
        · have hd1 : (x != -1) = true := by simpa using hx1
          rw [hnum hx1] at hs1
          have hdl := hdl hx1
          have x0 : 0 ≤ x := by omega
          have HS := hide hs1
          have HI := hide (fun v1 w1 h1 k1 hb1 => appendInt_any base (n0 + js.length + 1) x x0 hxr.2 v1 (xs ++ u8s js ++ [.int .u8 59]) w1 h1 hb1 (by omega) (HT.out.on (Kx.below k1)))
          clear hs1 hk0 hnum hnum0 hx1
          go_wp2_with (at_builtin; refine wpList_app1 rfl (.tmp 16) (.tmp 17) 26 rfl base 5 i0 _ 1 Tryd.underlying26 hi hz0 hz1 hz2 rfl u0 _ _ rfl ho _ _ _ rfl rfl rfl (by omega) (by omega) hbw ?_; intro v' w1 hown1 hg1 hm1)
          have kx1 := kx.grown ho hg1 hbw
          have hb1 : base ≤ w1.heap.size := Nat.le_trans hbase kx1.size
          refine (HI.out v' w1 hown1 kx1 hb1).mono ?_
          rintro e w2 ⟨v2, rfl, h2, kx0, kx0b⟩
          have kx2 : Kx base w1 w2 := ⟨kx0, kx0b⟩
          have kx3 : Kx base w w2 := kx1.trans kx2
          clear kx2
          go_wp2_with fail
          go_roundw
          case rel => exact ⟨k + 1, by omega, by go_num, by rw [HS.out]; simpa [u8s, Nat.add_assoc, Nat.add_comm, Nat.add_left_comm] using h2, kx3⟩
          case measure => simp [intOf]; omega
    · obtain rfl : k = n := by omega
      rw [List.take_of_length_le (by rw [HN.out]; omega)] at ho
      go_wp2_with fail
      go_ret
      exact ⟨u0, rfl, ho, kx⟩
end Go.Proofs.YtnnjppgmadmmaaaDoor
