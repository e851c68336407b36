/- The contracts of seq's putAny, putParams. The contract of seq's put, for an EPrint, an EExec, an EOsc. The contract of seq's put, for an ECsi. The contract of seq's put, for an EEsc; and of put, whatever the right event. The contract of seq's Print. -/
import Derived.Test.YtnnjppgmadmmaaaDoorSeqSame
import Derived.Test.YtnnjppgmadmmaaaDoorSeqNum
import Derived.Deep.RegionHeld3
import Derived.Test.YtnnjppgmadmmaaaDoorUtfEncode
import Derived.Lib.AppendStr
set_option maxRecDepth 100000
namespace Go.Proofs.YtnnjppgmadmmaaaDoor
open Go.RowKit
set_option linter.unusedVariables false
set_option maxHeartbeats 1000000 in
theorem putAny_any (base : Nat) (v : Value) (n : Nat) (xs : List Value) (b : Int) (w : World) (hown : w.ownsRow base 5 1 v n xs) (hn : n ≤ 1099511627770) (hbase : base ≤ w.heap.size) :
    Calls Tryd.prog 41 #[v, .int .u8 b] w (Gave base 5 w v n xs (u8s (PA.some0 b)) fun v' => v') := by
  obtain ⟨i0, hi, hz0, hz1, hz2⟩ := info_parts info_u8
  by_cases hb : b = 0
  · subst hb
    go_enter Tryd.func41, Tryd.ntmps41
    go_wp2_with fail
    go_ret
    exact ⟨v, rfl, by simpa [PA.some0, u8s] using hown, grown_refl _ _, Moved.refl _ _⟩
  · have hd : (b == 0) = false := by simpa using hb
    have HE := hide (show PA.some0 b = [b] by unfold PA.some0; rw [if_neg hb])
    clear hb
    go_enter Tryd.func41, Tryd.ntmps41
    go_wp2_with (at_builtin; refine wpList_app1 rfl (.tmp 8) (.tmp 10) 26 rfl base 5 i0 _ 1 Tryd.underlying26 hi hz0 hz1 hz2 rfl v n xs rfl hown _ _ _ rfl rfl rfl (by omega) (by omega) hbase ?_; intro v' w1 hown1 hg1 hm1)
    go_ret
    refine ⟨v', rfl, ?_, hg1, hm1⟩
    rw [HE.out]
    exact hown1
/-- a world that the writer of bytes leaves: below base all stays; of what lies above, all but rows of bytes -/
structure Kx (base : Nat) (w0 w : World) : Prop where
  below : Below base w0 w
  others : Lib.OthersKept 5 none w0 w
section
variable {base : Nat} {w0 w w' : World}
theorem Kx.refl (base : Nat) (w : World) : Kx base w w := ⟨Below.refl _ _, Lib.OthersKept.refl _ _ _⟩
theorem Kx.trans (h : Kx base w0 w) (k : Kx base w w') : Kx base w0 w' := ⟨h.below.trans k.below, h.others.trans k.others⟩
theorem Kx.of_below (h : Below w0.heap.size w0 w) (hb : base ≤ w0.heap.size) : Kx base w0 w := ⟨h.mono hb, fun k o hk _ _ => by
  have hlt : k < w0.heap.size := (Array.getElem?_eq_some_iff.1 hk).1
  rw [h.block k hlt]
  exact hk⟩
theorem Kx.alloc (h : Kx base w0 w) (hb : base ≤ w.heap.size) (o : Obj) : Kx base w0 (w.alloc o) := h.trans (Kx.of_below ((Below.refl _ _).alloc (Nat.le_refl _) _) hb)
theorem Kx.drew (h : Kx base w0 w) : Kx base w0 w.drew := ⟨h.below.drew, h.others.drew⟩
theorem Kx.grown {n : Nat} {v : Value} {xs : List Value} (h : Kx base w0 w) (hown : w.ownsRow base 5 1 v n xs) (hg : w.grownBy w' v.ownBlock) (hb : base ≤ w.heap.size) : Kx base w0 w' := h.trans ⟨below_of_grown hg hb (fun g hg => (hown.lt g hg).1), fun k o hk _ ho => by
  have hlt : k < w.heap.size := (Array.getElem?_eq_some_iff.1 hk).1
  rw [hg.block k hlt (fun e => by
    obtain ⟨cur, hc⟩ := own_type hown e.symm
    unfold Box at hc
    rw [hk] at hc
    exact ho cur (0, 0) (Option.some.inj hc))]
  exact hk⟩
theorem Kx.box (h : Kx base w0 w) {g : Nat} {t : TypeId} {cs : Array Value} (hb : Box w0 g t cs) (ht : t ≠ 5) : Box w g t cs := by
  refine h.others g _ hb (by simp) (fun c fz e => ?_)
  injection e with _ h2
  exact ht h2
theorem Kx.size (h : Kx base w0 w) : w0.heap.size ≤ w.heap.size := h.below.size
end
/-- a call that writes ys behind the bytes that it was given -/
def Wrote (base : Nat) (w : World) (n : Nat) (xs : List Value) (ys : List Int) (e : Ending) (w' : World) : Prop :=
  ∃ v', e = .returned v' ∧ w'.ownsRow base 5 1 v' (n + ys.length) (xs ++ u8s ys) ∧ Kx base w w'
theorem joined_snoc : ∀ (l : List Int) (x : Int), PA.joined (l ++ [x]) = if l = [] then PA.num x else PA.joined l ++ 59 :: PA.num x
  | [], x => rfl
  | [y], x => by rw [if_neg (by simp)]; rfl
  | y :: z :: l, x => by
    have ih := joined_snoc (z :: l) x
    rw [if_neg (by simp)] at ih ⊢
    show PA.num y ++ 59 :: PA.joined ((z :: l) ++ [x]) = _
    rw [ih]
    show _ = (PA.num y ++ 59 :: PA.joined (z :: l)) ++ 59 :: PA.num x
    simp
theorem dec10F_len : ∀ (k n : Nat), (PA.dec10F k n).length ≤ k + 1
  | 0, n => by simp [PA.dec10F]
  | k + 1, n => by
    unfold PA.dec10F
    split
    · simp
    · have := dec10F_len k (n / 10)
      simp
      omega
theorem num_len (x : Int) : (PA.num x).length ≤ 21 := by
  unfold PA.num
  split
  · simp
  · exact dec10F_len 20 _
theorem joined_len : ∀ l : List Int, (PA.joined l).length ≤ 22 * l.length
  | [] => by simp [PA.joined]
  | [x] => by have := num_len x; simp [PA.joined]; omega
  | x :: y :: l => by
    have h1 := num_len x
    have h2 := joined_len (y :: l)
    simp only [PA.joined, List.length_append, List.length_cons] at h2 ⊢
    omega
theorem Kx.wrote {base n : Nat} {w w' : World} {xs : List Value} {ys : List Int} {e : Ending} {v v' : Value} (he : e = .returned v') (hown : w.ownsRow base 5 1 v n xs) (h : w'.ownsRow base 5 1 v' (n + ys.length) (xs ++ u8s ys)) (hg : w.grownBy w' v.ownBlock) (hb : base ≤ w.heap.size) : Wrote base w n xs ys e w' :=
  ⟨v', he, h, (Kx.refl _ _).grown hown hg hb⟩
/-- the tens stay, whatever is written from base on -/
def TensB (base : Nat) (w : World) : Prop := ∀ w', Below base w w' → Tens w'
theorem TensB.on {base : Nat} {w w' : World} (h : TensB base w) (k : Below base w w') : TensB base w' := fun w2 k2 => h w2 (k.trans k2)
set_option maxHeartbeats 4000000 in
theorem putParams_any (base : Nat) (v : Value) (n0 : Nat) (xs : List Value) (A : Option Addr) (n c : Nat) (l : List Int) (w : World) (hown : w.ownsRow base 5 1 v n0 xs) (hn0 : n0 ≤ 1099511000000) (hbase : base ≤ w.heap.size)
    (hA : Seen w base A n (i64s l)) (hn : n ≤ 16) (hl : ∀ x ∈ l, -1 ≤ x ∧ x ≤ 65535) (ht : TensB base w) :
    Calls Tryd.prog 42 #[v, .slice A n c] w (Wrote base w n0 xs (PA.joined l)) := by
  obtain ⟨i0, hi, hz0, hz1, hz2⟩ := info_parts info_u8
  have hlen : l.length = n := by simpa [i64s] using hA.1
  have HA := hide hA
  have HL := hide hl
  have HN := hide hlen
  have HT := hide ht
  have HO := hide hown
  clear hA hl hlen ht
  go_enter Tryd.func42, Tryd.ntmps42
  go_wp2_with fail
  go_loopw [0, 9] (fun o i wr => ∃ k : Nat, k ≤ n ∧ i = .int .i64 k ∧ wr.ownsRow base 5 1 o (n0 + (PA.joined (l.take k)).length) (xs ++ u8s (PA.joined (l.take k))) ∧ Kx base w wr) (fun _ i _ => n - (intOf i).toNat)
  case atStart => exact ⟨0, Nat.zero_le _, rfl, by simpa [PA.joined, u8s] using HO.out, Kx.refl _ _⟩
  case round =>
    obtain ⟨k, hk, rfl, ho, kx⟩ := hrel
    by_cases hlt : k < n
    · obtain ⟨ad, u, rfl, _, hu, hc⟩ := (HA.out.below kx.below).at_ hlt
      rw [i64s, List.getElem?_map] at hu
      obtain ⟨x, hx, rfl⟩ := Option.map_eq_some_iff.1 hu
      have hxr := HL.out x (List.mem_of_getElem? hx)
      have hs1 := joined_snoc (l.take k) x
      rw [show l.take k ++ [x] = l.take (k + 1) from by rw [List.take_add_one, hx]; rfl] at hs1
      have hln := joined_len (l.take k)
      have hk0 : l.take k = [] ↔ k = 0 := by
        rw [← List.length_eq_zero_iff, List.length_take, HN.out]
        omega
      rw [List.length_take] at hln
      generalize PA.joined (l.take k) = js at hs1 ho hln
      have hbw : base ≤ wr.heap.size := Nat.le_trans hbase kx.size
      clear hu hx
      have hnum : x ≠ -1 → PA.num x = PA.dec10 x.toNat := fun e => by unfold PA.num; rw [if_neg e]
      have hnum0 : x = -1 → PA.num x = [] := fun e => by unfold PA.num; rw [if_pos e]
      have hdl : x ≠ -1 → (PA.dec10 x.toNat).length ≤ 21 := fun e => dec10F_len 20 _
      have cs : k = 0 ∨ 0 < k := by omega
      rcases cs with hk1 | hk1
      · have hd0 : decide (0 < (k : Int)) = false := by simp; omega
        have hd0' : decide (0 < k) = false := by simp; omega
        have hk2 : k ≤ 0 := by omega
        rw [if_pos (hk0.2 hk1)] at hs1
        have hjs : js = [] := by
          have : js.length ≤ 0 := by omega
          exact List.eq_nil_of_length_eq_zero (by omega)
        subst hjs
        simp only [List.length_nil, Nat.add_zero, u8s, List.map_nil, List.append_nil] at ho
        by_cases hx1 : x = -1
        · have hd1 : (x != -1) = false := by simp [hx1]
          rw [hnum0 hx1] at hs1
          have HS := hide hs1
          have HX := hide hx1
          clear hs1 hk0 hnum hnum0 hk1 hx1 hdl
          go_wp2_with fail
          go_roundw
          case rel => exact ⟨k + 1, by omega, by go_num, by rw [HS.out]; simpa [u8s] using ho, kx⟩
          case measure => simp [intOf]; omega
        · have hd1 : (x != -1) = true := by simpa using hx1
          rw [hnum hx1] at hs1
          have hdl := hdl hx1
          have x0 : 0 ≤ x := by omega
          have HS := hide hs1
          have HI := hide (appendInt_any base n0 x x0 hxr.2 u0 xs wr ho hbw (by omega) (HT.out.on kx.below))
          clear hs1 hk0 hnum hnum0 hk1 hx1
          go_wp2_with fail
          refine HI.out.mono ?_
          rintro e w1 ⟨v1, rfl, h1, kx0, kx0b⟩
          have kx1 : Kx base wr w1 := ⟨kx0, kx0b⟩
          go_wp2_with fail
          go_roundw
          case rel => exact ⟨k + 1, by omega, by go_num, by rw [HS.out]; exact h1, kx.trans kx1⟩
          case measure => simp [intOf]; omega
      · have hd0 : decide (0 < (k : Int)) = true := by simp; omega
        have hd0' : decide (0 < k) = true := by simp; omega
        rw [if_neg (fun e => by have := hk0.1 e; omega)] at hs1
        by_cases hx1 : x = -1
        · have hd1 : (x != -1) = false := by simp [hx1]
          rw [hnum0 hx1] at hs1
          have HS := hide hs1
          have HX := hide hx1
          clear hs1 hk0 hnum hnum0 hx1 hdl
          go_wp2_with (at_builtin; refine wpList_app1 rfl (.tmp 16) (.tmp 17) 26 rfl base 5 i0 _ 1 Tryd.underlying26 hi hz0 hz1 hz2 rfl u0 _ _ rfl ho _ _ _ rfl rfl rfl (by omega) (by omega) hbw ?_; intro v' w1 hown1 hg1 hm1)
          go_roundw
          case rel => exact ⟨k + 1, by omega, by go_num, by rw [HS.out]; simpa [u8s, Nat.add_assoc] using hown1, kx.grown ho hg1 hbw⟩
          case measure => simp [intOf]; omega
        · have hd1 : (x != -1) = true := by simpa using hx1
          rw [hnum hx1] at hs1
          have hdl := hdl hx1
          have x0 : 0 ≤ x := by omega
          have HS := hide hs1
          have HI := hide (fun v1 w1 h1 k1 hb1 => appendInt_any base (n0 + js.length + 1) x x0 hxr.2 v1 (xs ++ u8s js ++ [.int .u8 59]) w1 h1 hb1 (by omega) (HT.out.on (Kx.below k1)))
          clear hs1 hk0 hnum hnum0 hx1
          go_wp2_with (at_builtin; refine wpList_app1 rfl (.tmp 16) (.tmp 17) 26 rfl base 5 i0 _ 1 Tryd.underlying26 hi hz0 hz1 hz2 rfl u0 _ _ rfl ho _ _ _ rfl rfl rfl (by omega) (by omega) hbw ?_; intro v' w1 hown1 hg1 hm1)
          have kx1 := kx.grown ho hg1 hbw
          have hb1 : base ≤ w1.heap.size := Nat.le_trans hbase kx1.size
          refine (HI.out v' w1 hown1 kx1 hb1).mono ?_
          rintro e w2 ⟨v2, rfl, h2, kx0, kx0b⟩
          have kx2 : Kx base w1 w2 := ⟨kx0, kx0b⟩
          have kx3 : Kx base w w2 := kx1.trans kx2
          clear kx2
          go_wp2_with fail
          go_roundw
          case rel => exact ⟨k + 1, by omega, by go_num, by rw [HS.out]; simpa [u8s, Nat.add_assoc, Nat.add_comm, Nat.add_left_comm] using h2, kx3⟩
          case measure => simp [intOf]; omega
    · obtain rfl : k = n := by omega
      rw [List.take_of_length_le (by rw [HN.out]; omega)] at ho
      go_wp2_with fail
      go_ret
      exact ⟨u0, rfl, ho, kx⟩
end Go.Proofs.YtnnjppgmadmmaaaDoor
set_option maxRecDepth 100000
namespace Go.Proofs.YtnnjppgmadmmaaaDoor
open Go.RowKit
set_option linter.unusedVariables false
theorem enc_one (r : Int) : U.enc [r] = U.en1 r := by simp [U.enc]
theorem en1_right {r : Int} (h : PA.okRune r) : U.en1 r = U.en r := by
  have : U.isR r = true := by
    unfold U.isR
    unfold PA.okRune at h
    simp
    omega
  simp [U.en1, this]
theorem en_len {r : Int} : (U.en r).length ≤ 4 := by
  unfold U.en
  repeat' split
  all_goals simp
set_option maxHeartbeats 2000000 in
theorem put_1 (base : Nat) (v : Value) (n0 : Nat) (xs : List Value) (r : Int) (A : Option Addr) (c : Nat) (s : ByteArray) (w : World) (hown : w.ownsRow base 5 1 v n0 xs) (hn0 : n0 ≤ 1099511000000) (hbase : base ≤ w.heap.size) (hr : PA.okRune r) :
    Calls Tryd.prog 26 #[v, .agg #[.int .i64 1, .int .i32 r, .int .u8 0, .int .u8 0, .int .u8 0, .slice A 0 c, .string s]] w (Wrote base w n0 xs (U.en r)) := by
  obtain ⟨i0, hi, hz0, hz1, hz2⟩ := info_parts info_u8
  have hrr : -2147483648 ≤ r ∧ r ≤ 2147483647 := by unfold PA.okRune at hr; omega
  have CE := hide (fun (w1 : World) (hA : Seen w1 w1.heap.size (some ⟨w.heap.size + 1, 0, none⟩) 1 (i32s [r])) => encode_any (some ⟨w.heap.size + 1, 0, none⟩) 1 1 [r] w1 hA (by simpa using hrr) (by omega))
  rw [enc_one, en1_right hr] at CE
  have HL := hide (en_len (r := r))
  generalize U.en r = ys at *
  clear hr hrr
  go_enter Tryd.func26, Tryd.ntmps26
  go_wp2_with fail
  refine (CE.out _ (Seen.fresh (by simp) (by simp) rfl rfl)).mono ?_
  rintro e w1 ⟨v1, rfl, h1, b1⟩
  obtain ⟨A1, c1, rfl, _⟩ := own_form h1
  have s1 := Seen.of_own h1
  have bb : Below w.heap.size w w1 := (((Below.refl _ w).alloc (Nat.le_refl _) _).alloc (by simp) _).trans (b1.mono (by simp; omega))
  have hown1 := own_below hown bb
  clear b1 h1 hown
  have hl := HL.out
  have hb1 : base ≤ w1.heap.size := Nat.le_trans hbase bb.size
  have kx := Kx.of_below bb hbase
  clear bb
  go_wp2_with (at_builtin; refine wpList_appN rfl (.tmp 9) (.tmp 13) 26 rfl base 5 i0 _ 1 Tryd.underlying26 hi hz0 hz1 hz2 rfl v n0 xs rfl hown1 w1.heap.size A1 ys.length c1 (u8s ys) rfl s1 (u8s_one ys) (by omega) (by omega) hb1 ?_; intro v' w2 hown2 hg2 hm2)
  go_ret
  exact ⟨v', rfl, hown2, kx.grown hown1 hg2 hb1⟩
set_option maxHeartbeats 2000000 in
theorem put_2 (base : Nat) (v : Value) (n0 : Nat) (xs : List Value) (b : Int) (A : Option Addr) (c : Nat) (s : ByteArray) (w : World) (hown : w.ownsRow base 5 1 v n0 xs) (hn0 : n0 ≤ 1099511000000) (hbase : base ≤ w.heap.size) :
    Calls Tryd.prog 26 #[v, .agg #[.int .i64 2, .int .i32 0, .int .u8 0, .int .u8 0, .int .u8 b, .slice A 0 c, .string s]] w (Wrote base w n0 xs [b]) := by
  obtain ⟨i0, hi, hz0, hz1, hz2⟩ := info_parts info_u8
  have hown0 := own_alloc hown (.cells #[.int .i64 2, .int .i32 0, .int .u8 0, .int .u8 0, .int .u8 b, .slice A 0 c, .string s] 24)
  have hb0 : base ≤ (w.alloc (.cells #[.int .i64 2, .int .i32 0, .int .u8 0, .int .u8 0, .int .u8 b, .slice A 0 c, .string s] 24)).heap.size := by simp; omega
  have kx := (Kx.refl base w).alloc hbase (.cells #[.int .i64 2, .int .i32 0, .int .u8 0, .int .u8 0, .int .u8 b, .slice A 0 c, .string s] 24)
  go_enter Tryd.func26, Tryd.ntmps26
  go_wp2_with (at_builtin; refine wpList_app1 rfl (.tmp 59) (.tmp 62) 26 rfl base 5 i0 _ 1 Tryd.underlying26 hi hz0 hz1 hz2 rfl v n0 xs rfl hown0 _ _ _ rfl (by simp) rfl (by omega) (by omega) hb0 ?_; intro v' w2 hown2 hg2 hm2)
  go_ret
  exact ⟨v', rfl, hown2, kx.grown hown0 hg2 hb0⟩
theorem strCells_nums {t : List Int} (h : ∀ x ∈ t, 0 ≤ x ∧ x < 256) : Lib.strCells (strOfNums t) = u8s t := by
  rw [Lib.strCells_eq]
  simp only [Lib.byteCells, u8s, strOfNums, List.map_map]
  refine List.map_congr_left fun x hx => ?_
  have := h x hx
  simp
  omega
set_option maxHeartbeats 4000000 in
theorem put_5 (base : Nat) (v : Value) (n0 : Nat) (xs : List Value) (A : Option Addr) (c : Nat) (t : List Int) (w : World) (hown : w.ownsRow base 5 1 v n0 xs) (hn0 : n0 ≤ 1099511000000) (hbase : base ≤ w.heap.size) (ht : ∀ x ∈ t, 0 ≤ x ∧ x < 256) (hl : t.length ≤ 4096) :
    Calls Tryd.prog 26 #[v, .agg #[.int .i64 5, .int .i32 0, .int .u8 0, .int .u8 0, .int .u8 0, .slice A 0 c, .string (strOfNums t)]] w (Wrote base w n0 xs (27 :: 93 :: t ++ [7])) := by
  obtain ⟨i0, hi, hz0, hz1, hz2⟩ := info_parts info_u8
  have hsz := strOfNums_size t
  have hsc := strCells_nums ht
  have bx := Box.new w 24 #[.int .i64 5, .int .i32 0, .int .u8 0, .int .u8 0, .int .u8 0, .slice A 0 c, .string (strOfNums t)]
  have hown0 := own_alloc hown (.cells #[.int .i64 5, .int .i32 0, .int .u8 0, .int .u8 0, .int .u8 0, .slice A 0 c, .string (strOfNums t)] 24)
  have hb0 : base ≤ (w.alloc (.cells #[.int .i64 5, .int .i32 0, .int .u8 0, .int .u8 0, .int .u8 0, .slice A 0 c, .string (strOfNums t)] 24)).heap.size := by simp; omega
  have kx := (Kx.refl base w).alloc hbase (.cells #[.int .i64 5, .int .i32 0, .int .u8 0, .int .u8 0, .int .u8 0, .slice A 0 c, .string (strOfNums t)] 24)
  have HSC := hide hsc
  have HSZ := hide hsz
  generalize strOfNums t = s at *
  clear hsc hsz ht
  go_enter Tryd.func26, Tryd.ntmps26
  go_wp2_with (at_builtin; first
    | (refine wpList_appL rfl (.tmp 49) (.tmp 50) 26 rfl base 5 i0 _ 1 Tryd.underlying26 hi hz0 hz1 hz2 rfl v n0 xs rfl hown0 #[.int .u8 27, .int .u8 93] _ _ 2 rfl rfl (by simp) (by simp [Value.oneCell']) (by omega) (by omega) hb0 ?_; intro v1 w1 hown1 hg1 hm1; have bx1 := bx.grown hg1 (bx.notOwn hown0 (by decide)); have kx1 := kx.grown hown0 hg1 hb0; clear bx kx; obtain ⟨k0, k1, k2, k3, k4, k5, k6⟩ := Box.seven bx1)
    | (refine Lib.wpList_append_own_string _ rfl (.tmp 52) (.tmp 54) 26 9 rfl base 5 i0 Tryd.underlying26 Tryd.underlying9 hi hz0 hz1 hz2 v1 _ _ rfl hown1 s rfl (by have := HSZ.out; simp only [maxLen]; omega) (by have := HSZ.out; omega) (Nat.le_trans hbase kx1.size) ?_; intro v2 w2 hown2 hg2 _; have kx2 := kx1.grown hown1 hg2 (Nat.le_trans hbase kx1.size))
    | (refine wpList_app1 rfl (.tmp 56) (.tmp 57) 26 rfl base 5 i0 _ 1 Tryd.underlying26 hi hz0 hz1 hz2 rfl v2 _ _ rfl hown2 _ _ _ rfl rfl rfl (by omega) (by have := HSZ.out; omega) (Nat.le_trans hbase kx2.size) ?_; intro v3 w3 hown3 hg3 _; have kx3 := kx2.grown hown2 hg3 (Nat.le_trans hbase kx2.size)))
  go_ret
  refine ⟨v3, rfl, ?_, kx3⟩
  rw [HSC.out, HSZ.out] at hown3
  simpa [u8s, Nat.add_assoc, Nat.add_comm, Nat.add_left_comm] using hown3
end Go.Proofs.YtnnjppgmadmmaaaDoor
set_option maxRecDepth 100000
namespace Go.Proofs.YtnnjppgmadmmaaaDoor
open Go.RowKit
set_option linter.unusedVariables false
set_option maxHeartbeats 4000000 in
theorem put_4 (base : Nat) (v : Value) (n0 : Nat) (xs : List Value) (p i f : Int) (A : Option Addr) (n c : Nat) (l : List Int) (s : ByteArray) (w : World) (hown : w.ownsRow base 5 1 v n0 xs) (hn0 : n0 ≤ 1099510000000) (hbase : base ≤ w.heap.size)
    (hA : Seen w base A n (i64s l)) (hn : n ≤ 16) (hl : ∀ x ∈ l, -1 ≤ x ∧ x ≤ 65535) (ht : TensB base w) :
    Calls Tryd.prog 26 #[v, .agg #[.int .i64 4, .int .i32 0, .int .u8 p, .int .u8 i, .int .u8 f, .slice A n c, .string s]] w (Wrote base w n0 xs (27 :: 91 :: PA.some0 p ++ PA.joined l ++ PA.some0 i ++ [f])) := by
  obtain ⟨i0, hi, hz0, hz1, hz2⟩ := info_parts info_u8
  generalize hTT : 27 :: 91 :: PA.some0 p ++ PA.joined l ++ PA.some0 i ++ [f] = TT
  have HTT := hide hTT
  clear hTT
  have bx := Box.new w 24 #[.int .i64 4, .int .i32 0, .int .u8 p, .int .u8 i, .int .u8 f, .slice A n c, .string s]
  have hown0 := own_alloc hown (.cells #[.int .i64 4, .int .i32 0, .int .u8 p, .int .u8 i, .int .u8 f, .slice A n c, .string s] 24)
  have kx0 := (Kx.refl base w).alloc hbase (.cells #[.int .i64 4, .int .i32 0, .int .u8 p, .int .u8 i, .int .u8 f, .slice A n c, .string s] 24)
  have HA := hide hA
  have HL := hide hl
  have HT := hide ht
  clear hA hl ht
  go_enter Tryd.func26, Tryd.ntmps26
  go_wp2_with fail
  generalize hw0 : w.alloc (.cells #[.int .i64 4, .int .i32 0, .int .u8 p, .int .u8 i, .int .u8 f, .slice A n c, .string s] 24) = w0 at *
  have hb0 : base ≤ w0.heap.size := Nat.le_trans hbase kx0.size
  clear hw0
  have R2 : ∀ w', Kx base w0 w' → w'.cell? ⟨w.heap.size, 2, none⟩ = some (.int .u8 p) := fun w' h => (h.box bx (by decide)).cell 2
  have hd : Kx base w0 w0.drew := (Kx.refl _ _).drew
  have hX := Lib.hid hd
  have hAl : Kx base w0 ((w0.alloc (.cells #[.int .u8 27, .int .u8 91] 5)).drew) := ((Kx.refl base w0).alloc hb0 (.cells #[.int .u8 27, .int .u8 91] 5)).drew
  go_region_held3 (fun w' => Kx base w0 w')
    (first | with_reducible exact hd | with_reducible exact hAl | with_reducible exact hX.out)
    (first
      | (refine step_appN (by rfl) (.tmp 29) (.tmp 30) 26 (by rfl) base 5 i0 _ 1 Tryd.underlying26 hi hz0 hz1 hz2 rfl v n0 xs (by rfl) (own_drew (own_alloc hown0 (.cells #[.int .u8 27, .int .u8 91] 5))) (w0.heap.size + 1) (some ⟨w0.heap.size, 0, none⟩) 2 2 [.int .u8 27, .int .u8 91] (by rfl) (Seen.fresh (t := 5) (cs := #[.int .u8 27, .int .u8 91]) rfl rfl rfl rfl).drew (by simp [Value.oneCell']) (by omega) (by omega) (by simp; omega) ?_; intro v1 w1 hown1 hg1 hm1; have hX := Lib.hid (((Kx.refl base w0).alloc hb0 (.cells #[.int .u8 27, .int .u8 91] 5)).drew.grown (own_drew (own_alloc hown0 (.cells #[.int .u8 27, .int .u8 91] 5))) hg1 (by simp; omega)))
      | (go_at_call 41; refine (putAny_any base v1 (n0 + 2) (xs ++ [.int .u8 27, .int .u8 91]) p _ hown1 (by omega) (Nat.le_trans hb0 (Kx.size hX.out))).mono ?_; rintro e w2 ⟨v2, rfl, hown2, hg2, hm2⟩; have hX := Lib.hid ((Kx.trans hX.out ((Kx.refl base w1).grown hown1 hg2 (Nat.le_trans hb0 (Kx.size hX.out)))))))
  have kx2 : Kx base w w2 := kx0.trans hX.out
  have bx2 := hX.out.box bx (by decide)
  have hb2 : base ≤ w2.heap.size := Nat.le_trans hb0 hX.out.size
  have hown2' : w2.ownsRow base 5 1 v2 (n0 + (27 :: 91 :: PA.some0 p).length) (xs ++ u8s (27 :: 91 :: PA.some0 p)) := by
    rw [show n0 + (27 :: 91 :: PA.some0 p).length = n0 + 2 + (u8s (PA.some0 p)).length from by simp [u8s]; omega]
    simpa [u8s] using hown2
  have hsm : (27 :: 91 :: PA.some0 p).length ≤ 3 := by unfold PA.some0; split <;> simp
  have hsi : (PA.some0 i).length ≤ 1 := by unfold PA.some0; split <;> simp
  have k5 := (Box.seven bx2).2.2.2.2.2.1
  have PP := hide (putParams_any base v2 (n0 + (27 :: 91 :: PA.some0 p).length) (xs ++ u8s (27 :: 91 :: PA.some0 p)) A n c l w2 hown2' (by omega) hb2 (HA.out.below kx2.below) hn HL.out (HT.out.on kx2.below))
  clear R2 hd hAl hX hg1 hm1 hg2 hm2 hown1 hown2 hown2' hown0
  generalize hhd : 27 :: 91 :: PA.some0 p = hd0 at *
  go_wp2_with fail
  refine PP.out.mono ?_
  rintro e w3 ⟨v3, rfl, hown3, kx23⟩
  have kx3 : Kx base w w3 := kx2.trans kx23
  have bx3 := kx23.box bx2 (by decide)
  have hb3 : base ≤ w3.heap.size := Nat.le_trans hb2 kx23.size
  have hjl := joined_len l
  have hll : l.length = n := by simpa [i64s] using HA.out.1
  clear k5 PP kx23 bx2
  go_wp2_with fail
  have R3 : ∀ w', Kx base w3 w' → w'.cell? ⟨w.heap.size, 3, none⟩ = some (.int .u8 i) := fun w' h => (h.box bx3 (by decide)).cell 3
  have R4 : ∀ w', Kx base w3 w' → w'.cell? ⟨w.heap.size, 4, none⟩ = some (.int .u8 f) := fun w' h => (h.box bx3 (by decide)).cell 4
  have hd : Kx base w3 w3.drew := (Kx.refl _ _).drew
  have hAl : Kx base w3 ((w3.alloc (.cells #[.int .u8 f] 5)).drew) := ((Kx.refl base w3).alloc hb3 _).drew
  have hX := Lib.hid hd
  have hAl2 := hd
  generalize hN : n0 + hd0.length + (PA.joined l).length = N at *
  generalize hXS : xs ++ u8s hd0 ++ u8s (PA.joined l) = XS at *
  have HN := hide hN
  have HXS := hide hXS
  have hN1 : N ≤ 1099510001000 := by omega
  have BF := Box.new w3 5 #[.int .u8 f]
  have Fin : ∀ (v5 : Value) (w5 : World), w5.ownsRow base 5 1 v5 (N + (u8s (PA.some0 i)).length + 1) (XS ++ u8s (PA.some0 i) ++ [.int .u8 f]) → Kx base w3 w5 → Wrote base w n0 xs TT (.returned v5) w5 := by
    intro v5 w5 h5 k5
    rw [← HTT.out]
    refine ⟨v5, rfl, ?_, kx3.trans k5⟩
    rw [← HXS.out, ← HN.out] at h5
    rw [show n0 + (hd0 ++ PA.joined l ++ PA.some0 i ++ [f]).length = n0 + hd0.length + (PA.joined l).length + (u8s (PA.some0 i)).length + 1 from by simp [u8s]; omega]
    simpa [u8s] using h5
  clear hN hXS hhd
  go_region_held3 (fun w' => Kx base w3 w')
    (first | with_reducible exact hd | with_reducible exact hAl | with_reducible exact hAl2 | with_reducible exact hX.out)
    (first
      | (go_at_call 41; refine (putAny_any base v3 N XS i w3.drew hown3 (by omega) hb3).mono ?_; rintro e w4 ⟨v4, rfl, hown4, hg4, hm4⟩; have hX := Lib.hid ((Kx.refl base w3).grown hown3 (show w3.grownBy w4 v3.ownBlock from ⟨hg4.os, hg4.tape, hg4.output, hg4.size, hg4.block⟩) hb3); have hb4 : base ≤ w4.heap.size := Nat.le_trans hb3 hX.out.size; have hAl2 := hX.out.alloc hb4 (.cells #[.int .u8 f] 5))
      | (go_at_call 41; refine (putAny_any base v3 N XS i (w3.alloc (.cells #[.int .u8 f] 5)).drew (own_drew (own_alloc hown3 _)) (by omega) (by simp; omega)).mono ?_; rintro e w4 ⟨v4, rfl, hown4, hg4, hm4⟩; have hX := Lib.hid (hAl.grown (own_drew (own_alloc hown3 _)) hg4 (by simp; omega)); have hb4 : base ≤ w4.heap.size := Nat.le_trans hb3 hX.out.size; have bf4 := BF.drew.grown hg4 (fun e => by have := (hown3.lt _ e.symm).2; omega))
      | (refine step_appN (by rfl) (.tmp 42) (.tmp 45) 26 (by rfl) base 5 i0 _ 1 Tryd.underlying26 hi hz0 hz1 hz2 rfl v4 (N + (u8s (PA.some0 i)).length) (XS ++ u8s (PA.some0 i)) (by rfl) (own_alloc hown4 (.cells #[.int .u8 f] 5)) (w4.heap.size + 1) (some ⟨w4.heap.size, 0, none⟩) 1 1 [.int .u8 f] (by rfl) (Seen.fresh (t := 5) (cs := #[.int .u8 f]) rfl rfl rfl rfl) (by simp [Value.oneCell']) (by omega) (by simp [u8s]; omega) (by simp; omega) ?_; intro v5 w5 hown5 hg5 hm5; have hX := Lib.hid (hAl2.grown (own_alloc hown4 (.cells #[.int .u8 f] 5)) hg5 (by simp; omega)))
      | (refine step_appN (by rfl) (.tmp 42) (.tmp 45) 26 (by rfl) base 5 i0 _ 1 Tryd.underlying26 hi hz0 hz1 hz2 rfl v4 (N + (u8s (PA.some0 i)).length) (XS ++ u8s (PA.some0 i)) (by rfl) hown4 (w3.heap.size + 1) (some ⟨w3.heap.size, 0, none⟩) 1 1 [.int .u8 f] (by rfl) (Seen.of_box bf4 rfl rfl (by omega)) (by simp [Value.oneCell']) (by omega) (by simp [u8s]; omega) hb4 ?_; intro v5 w5 hown5 hg5 hm5; have hX := Lib.hid (hX.out.grown hown4 hg5 hb4)))
  all_goals
    go_wp2_with fail
    go_ret
    exact Fin _ _ hown5 hX.out
end Go.Proofs.YtnnjppgmadmmaaaDoor
set_option maxRecDepth 100000
namespace Go.Proofs.YtnnjppgmadmmaaaDoor
open Go.RowKit
set_option linter.unusedVariables false
set_option maxHeartbeats 4000000 in
theorem put_3 (base : Nat) (v : Value) (n0 : Nat) (xs : List Value) (i f : Int) (A : Option Addr) (c : Nat) (s : ByteArray) (w : World) (hown : w.ownsRow base 5 1 v n0 xs) (hn0 : n0 ≤ 1099510000000) (hbase : base ≤ w.heap.size) :
    Calls Tryd.prog 26 #[v, .agg #[.int .i64 3, .int .i32 0, .int .u8 0, .int .u8 i, .int .u8 f, .slice A 0 c, .string s]] w (Wrote base w n0 xs (27 :: PA.some0 i ++ [f])) := by
  obtain ⟨i0, hi, hz0, hz1, hz2⟩ := info_parts info_u8
  generalize hTT : 27 :: PA.some0 i ++ [f] = TT
  have HTT := hide hTT
  clear hTT
  have hsi : (PA.some0 i).length ≤ 1 := by unfold PA.some0; split <;> simp
  have bx := Box.new w 24 #[.int .i64 3, .int .i32 0, .int .u8 0, .int .u8 i, .int .u8 f, .slice A 0 c, .string s]
  have hown0 := own_alloc hown (.cells #[.int .i64 3, .int .i32 0, .int .u8 0, .int .u8 i, .int .u8 f, .slice A 0 c, .string s] 24)
  have kx0 := (Kx.refl base w).alloc hbase (.cells #[.int .i64 3, .int .i32 0, .int .u8 0, .int .u8 i, .int .u8 f, .slice A 0 c, .string s] 24)
  go_enter Tryd.func26, Tryd.ntmps26
  go_wp2_with fail
  generalize hw0 : w.alloc (.cells #[.int .i64 3, .int .i32 0, .int .u8 0, .int .u8 i, .int .u8 f, .slice A 0 c, .string s] 24) = w0 at *
  have hb0 : base ≤ w0.heap.size := Nat.le_trans hbase kx0.size
  clear hw0
  have R3 : ∀ w', Kx base w0 w' → w'.cell? ⟨w.heap.size, 3, none⟩ = some (.int .u8 i) := fun w' h => (h.box bx (by decide)).cell 3
  have R4 : ∀ w', Kx base w0 w' → w'.cell? ⟨w.heap.size, 4, none⟩ = some (.int .u8 f) := fun w' h => (h.box bx (by decide)).cell 4
  have hd : Kx base w0 w0.drew := (Kx.refl _ _).drew
  have hA1 : Kx base w0 ((w0.alloc (.cells #[.int .u8 27] 5)).drew) := ((Kx.refl base w0).alloc hb0 _).drew
  have hA2 : Kx base w0 ((w0.alloc (.cells #[.int .u8 f] 5)).drew) := ((Kx.refl base w0).alloc hb0 _).drew
  have hA3 : Kx base w0 (((w0.alloc (.cells #[.int .u8 27] 5)).alloc (.cells #[.int .u8 f] 5)).drew) := (((Kx.refl base w0).alloc hb0 _).alloc (by simp; omega) _).drew
  have hA4 : Kx base w0 (((w0.alloc (.cells #[.int .u8 f] 5)).alloc (.cells #[.int .u8 27] 5)).drew) := (((Kx.refl base w0).alloc hb0 _).alloc (by simp; omega) _).drew
  have hX := Lib.hid hd
  have hAl1 := hd
  have hAl2 := hd
  have Fin : ∀ (v5 : Value) (w5 : World), w5.ownsRow base 5 1 v5 (n0 + 1 + (u8s (PA.some0 i)).length + 1) (xs ++ [.int .u8 27] ++ u8s (PA.some0 i) ++ [.int .u8 f]) → Kx base w0 w5 → Wrote base w n0 xs TT (.returned v5) w5 := by
    intro v5 w5 h5 k5
    rw [← HTT.out]
    refine ⟨v5, rfl, ?_, kx0.trans k5⟩
    rw [show n0 + (27 :: PA.some0 i ++ [f]).length = n0 + 1 + (u8s (PA.some0 i)).length + 1 from by simp [u8s]; omega]
    simpa [u8s] using h5
  go_region_held3 (fun w' => Kx base w0 w')
    (first | with_reducible exact hd | with_reducible exact hA1 | with_reducible exact hA2 | with_reducible exact hA3 | with_reducible exact hA4 | with_reducible exact hAl1 | with_reducible exact hAl2 | with_reducible exact hX.out)
    (first
      | (refine step_appN (by rfl) (.tmp 17) (.tmp 18) 26 (by rfl) base 5 i0 _ 1 Tryd.underlying26 hi hz0 hz1 hz2 rfl v n0 xs (by rfl) (own_drew (own_alloc hown0 (.cells #[.int .u8 27] 5))) (w0.heap.size + 1) (some ⟨w0.heap.size, 0, none⟩) 1 1 [.int .u8 27] (by rfl) (Seen.fresh (t := 5) (cs := #[.int .u8 27]) rfl rfl rfl rfl).drew (by simp [Value.oneCell']) (by omega) (by omega) (by simp; omega) ?_; intro v1 w1 hown1 hg1 hm1; have hX := Lib.hid (hA1.grown (own_drew (own_alloc hown0 _)) hg1 (by simp; omega)); have hb1 : base ≤ w1.heap.size := Nat.le_trans hb0 hX.out.size; have hAl1 := hX.out.alloc hb1 (.cells #[.int .u8 f] 5))
      | (refine step_appN (by rfl) (.tmp 17) (.tmp 18) 26 (by rfl) base 5 i0 _ 1 Tryd.underlying26 hi hz0 hz1 hz2 rfl v n0 xs (by rfl) (own_drew (own_alloc (own_alloc hown0 (.cells #[.int .u8 27] 5)) (.cells #[.int .u8 f] 5))) (w0.heap.size + 1) (some ⟨w0.heap.size, 0, none⟩) 1 1 [.int .u8 27] (by rfl) (Seen.of_box ((Box.new w0 5 #[.int .u8 27]).alloc (.cells #[.int .u8 f] 5)).drew rfl rfl (by omega)) (by simp [Value.oneCell']) (by omega) (by omega) (by simp; omega) ?_; intro v1 w1 hown1 hg1 hm1; have hX := Lib.hid (hA3.grown (own_drew (own_alloc (own_alloc hown0 _) _)) hg1 (by simp; omega)); have hb1 : base ≤ w1.heap.size := Nat.le_trans hb0 hX.out.size; have bf1 := (Box.fresh (w := w0.alloc (.cells #[.int .u8 27] 5)) (t := 5) (cs := #[.int .u8 f]) (g := w0.heap.size + 1) (by simp)).drew.grown hg1 (fun e => by have := (hown0.lt _ e.symm).2; omega))
      | (refine step_appN (by rfl) (.tmp 17) (.tmp 18) 26 (by rfl) base 5 i0 _ 1 Tryd.underlying26 hi hz0 hz1 hz2 rfl v n0 xs (by rfl) (own_drew (own_alloc (own_alloc hown0 (.cells #[.int .u8 f] 5)) (.cells #[.int .u8 27] 5))) (w0.heap.size + 2) (some ⟨w0.heap.size + 1, 0, none⟩) 1 1 [.int .u8 27] (by rfl) (Seen.of_box (Box.fresh (w := w0.alloc (.cells #[.int .u8 f] 5)) (t := 5) (cs := #[.int .u8 27]) (g := w0.heap.size + 1) (by simp)).drew rfl rfl (by omega)) (by simp [Value.oneCell']) (by omega) (by omega) (by simp; omega) ?_; intro v1 w1 hown1 hg1 hm1; have hX := Lib.hid (hA4.grown (own_drew (own_alloc (own_alloc hown0 _) _)) hg1 (by simp; omega)); have hb1 : base ≤ w1.heap.size := Nat.le_trans hb0 hX.out.size; have bf1 := ((Box.new w0 5 #[.int .u8 f]).alloc (.cells #[.int .u8 27] 5)).drew.grown hg1 (fun e => by have := (hown0.lt _ e.symm).2; omega))
      | (go_at_call 41; refine (putAny_any base v1 (n0 + 1) (xs ++ [.int .u8 27]) i w1 hown1 (by omega) hb1).mono ?_; rintro e w2 ⟨v2, rfl, hown2, hg2, hm2⟩; have hX := Lib.hid (hX.out.grown hown1 hg2 hb1); have hb2 : base ≤ w2.heap.size := Nat.le_trans hb0 hX.out.size; have hAl2 := hX.out.alloc hb2 (.cells #[.int .u8 f] 5); (try (have bf2 := bf1.grown hg2 (fun e => by
          rcases hm1 with hm | ⟨g, hm, hm'⟩
          · rw [hm] at e; have := (hown0.lt _ e.symm).2; omega
          · rw [hm] at e; injection e with e; simp at hm'; omega))))
      | (go_at_call 41; refine (putAny_any base v1 (n0 + 1) (xs ++ [.int .u8 27]) i (w1.alloc (.cells #[.int .u8 f] 5)) (own_alloc hown1 _) (by omega) (by simp; omega)).mono ?_; rintro e w2 ⟨v2, rfl, hown2, hg2, hm2⟩; have hX := Lib.hid (hAl1.grown (own_alloc hown1 _) hg2 (by simp; omega)); have hb2 : base ≤ w2.heap.size := Nat.le_trans hb0 hX.out.size; have bf2 := (Box.new w1 5 #[.int .u8 f]).grown hg2 (fun e => by have := (hown1.lt _ e.symm).2; omega))
      | (refine step_appN (by rfl) (.tmp 22) (.tmp 25) 26 (by rfl) base 5 i0 _ 1 Tryd.underlying26 hi hz0 hz1 hz2 rfl v2 (n0 + 1 + (u8s (PA.some0 i)).length) (xs ++ [.int .u8 27] ++ u8s (PA.some0 i)) (by rfl) (own_alloc hown2 (.cells #[.int .u8 f] 5)) (w2.heap.size + 1) (some ⟨w2.heap.size, 0, none⟩) 1 1 [.int .u8 f] (by rfl) (Seen.fresh (t := 5) (cs := #[.int .u8 f]) rfl rfl rfl rfl) (by simp [Value.oneCell']) (by omega) (by simp [u8s]; omega) (by simp; omega) ?_; intro v5 w5 hown5 hg5 hm5; have hX := Lib.hid (hAl2.grown (own_alloc hown2 (.cells #[.int .u8 f] 5)) hg5 (by simp; omega)))
      | (refine step_appN (by rfl) (.tmp 22) (.tmp 25) 26 (by rfl) base 5 i0 _ 1 Tryd.underlying26 hi hz0 hz1 hz2 rfl v2 (n0 + 1 + (u8s (PA.some0 i)).length) (xs ++ [.int .u8 27] ++ u8s (PA.some0 i)) (by rfl) hown2 w2.heap.size _ 1 1 [.int .u8 f] (by rfl) (Seen.of_box bf2 rfl rfl bf2.lt) (by simp [Value.oneCell']) (by omega) (by simp [u8s]; omega) hb2 ?_; intro v5 w5 hown5 hg5 hm5; have hX := Lib.hid (hX.out.grown hown2 hg5 hb2)))
  all_goals
    go_wp2_with fail
    go_ret
    exact Fin _ _ hown5 hX.out
theorem seqPut_any (base : Nat) (v : Value) (n0 : Nat) (xs : List Value) (e : PA.Ev) (A : Option Addr) (c : Nat) (w : World) (he : PA.Right e) (hown : w.ownsRow base 5 1 v n0 xs) (hn0 : n0 ≤ 1099510000000) (hbase : base ≤ w.heap.size)
    (hA : Seen w base A e.params.length (i64s e.params)) (ht : TensB base w) :
    Calls Tryd.prog 26 #[v, .agg #[.int .i64 e.kind, .int .i32 e.rune, .int .u8 e.priv, .int .u8 e.inter, .int .u8 e.final, .slice A e.params.length c, .string (strOfNums e.text)]] w (Wrote base w n0 xs (PA.bytesOf e)) := by
  rcases he with ⟨r, rfl, h⟩ | ⟨b, rfl, h0, h1, h2, h3, h4⟩ | ⟨i, f, rfl, hi, h0, h1, h⟩ | ⟨p, i, f, ps, rfl, hp, hi, h0, h1, hl, hn, h⟩ | ⟨t, rfl, hl, h⟩
  · exact put_1 base v n0 xs r A c _ w hown (by omega) hbase h
  · exact put_2 base v n0 xs b A c _ w hown (by omega) hbase
  · exact put_3 base v n0 xs i f A c _ w hown (by omega) hbase
  · exact put_4 base v n0 xs p i f A ps.length c ps _ w hown (by omega) hbase hA hl hn ht
  · exact put_5 base v n0 xs A c t w hown (by omega) hbase (fun x hx => by have := h x hx; omega) hl
theorem bytes_len {e : PA.Ev} (h : PA.Right e) : (PA.bytesOf e).length ≤ 4200 := by
  have s1 : ∀ i, (PA.some0 i).length ≤ 1 := fun i => by unfold PA.some0; split <;> simp
  rcases h with ⟨r, rfl, h⟩ | ⟨b, rfl, h0, h1, h2, h3, h4⟩ | ⟨i, f, rfl, hi, h0, h1, h⟩ | ⟨p, i, f, ps, rfl, hp, hi, h0, h1, hl, hn, h⟩ | ⟨t, rfl, hl, h⟩
  · have := en_len (r := r)
    show (U.en r).length ≤ _
    omega
  · show [b].length ≤ _
    simp
  · have := s1 i
    show (27 :: PA.some0 i ++ [f]).length ≤ _
    simp
    omega
  · have a := s1 i
    have b := s1 p
    have c := joined_len ps
    show (27 :: 91 :: PA.some0 p ++ PA.joined ps ++ PA.some0 i ++ [f]).length ≤ _
    simp
    omega
  · show (27 :: 93 :: t ++ [7]).length ≤ _
    simp
    omega
end Go.Proofs.YtnnjppgmadmmaaaDoor
set_option maxRecDepth 100000
namespace Go.Proofs.YtnnjppgmadmmaaaDoor
open Go.RowKit
set_option linter.unusedVariables false
/-- an event's numbers fit the fields that they lie in -/
def EvFits (e : PA.Ev) : Prop := 0 ≤ e.final ∧ ∀ x ∈ e.text, 0 ≤ x ∧ x < 256
/-- the events that are printed -/
def printed (es : List PA.Ev) : List PA.Ev := es.filter PA.rightB
theorem printed_snoc (l : List PA.Ev) (e : PA.Ev) : printed (l ++ [e]) = printed l ++ (if PA.rightB e = true then [e] else []) := by
  unfold printed
  rw [List.filter_append]
  congr 1
  simp [List.filter]
  split <;> simp_all
theorem bytesAll_app (a b : List PA.Ev) : PA.bytesAll (a ++ b) = PA.bytesAll a ++ PA.bytesAll b := by simp [PA.bytesAll]
theorem bytesAll_len : ∀ (es : List PA.Ev), (∀ e ∈ es, PA.Right e) → (PA.bytesAll es).length ≤ 4200 * es.length
  | [], _ => by simp [PA.bytesAll]
  | e :: es, h => by
    have h1 := bytes_len (h e (by simp))
    have h2 := bytesAll_len es (fun x hx => h x (by simp [hx]))
    show (PA.bytesOf e ++ PA.bytesAll es).length ≤ _
    simp only [List.length_append, List.length_cons]
    omega
theorem printed_right (es : List PA.Ev) : ∀ e ∈ printed es, PA.Right e := fun e he => PA.rightB_right (List.mem_filter.1 he).2
theorem printed_len (es : List PA.Ev) : (PA.bytesAll (printed es)).length ≤ 4200 * es.length := by
  have h1 := bytesAll_len (printed es) (printed_right es)
  have h2 : (printed es).length ≤ es.length := List.length_filter_le _ _
  have := Nat.mul_le_mul_left 4200 h2
  omega
set_option maxHeartbeats 4000000 in
theorem print_any (A : Option Addr) (n c : Nat) (M : List (PA.Ev × Value)) (w : World) (hM : SeenE w A n M) (hf : ∀ p ∈ M, EvFits p.1) (hn : n ≤ 100000) (ht : Tens w) :
    Calls Tryd.prog 10 #[.slice A n c] w (Encoded w (PA.bytesAll (printed (M.map (·.1))))) := by
  have HM := hide hM
  have HF := hide hf
  have HT := hide (show TensB w.heap.size w from Lib.tabBelow_of_tabIs ht)
  clear hM hf ht
  go_enter Tryd.func10, Tryd.ntmps10
  go_wp2_with fail
  go_loopw [3, 8] (fun o i wr => ∃ k : Nat, k ≤ n ∧ i = .int .i64 k ∧ wr.ownsRow w.heap.size 5 1 o (PA.bytesAll (printed ((M.take k).map (·.1)))).length (u8s (PA.bytesAll (printed ((M.take k).map (·.1))))) ∧ Below w.heap.size w wr) (fun _ i _ => n - (intOf i).toNat)
  case atStart => exact ⟨0, Nat.zero_le _, rfl, World.ownsRow_nil _ _ _ _, Below.refl _ _⟩
  case round =>
    obtain ⟨k, hk, rfl, ho, b0⟩ := hrel
    by_cases hlt : k < n
    · obtain ⟨q, hq⟩ : ∃ q, M[k]? = some q := ⟨_, List.getElem?_eq_getElem (by rw [HM.out.1]; exact hlt)⟩
      obtain ⟨gb, rfl, hgb, hcc, Ap, cp, hpu, hps, hle⟩ := HM.out.2 k q hq
      have hfit := HF.out q (List.mem_of_getElem? hq)
      have hsn := printed_snoc ((M.take k).map (·.1)) q.1
      rw [show (M.take k).map (·.1) ++ [q.1] = (M.take (k + 1)).map (·.1) from by rw [List.take_add_one, hq]; simp] at hsn
      have hpl := printed_len ((M.take k).map (·.1))
      rw [List.length_map, List.length_take] at hpl
      generalize printed ((M.take k).map (·.1)) = es at hsn ho hpl
      obtain ⟨e, u⟩ := q
      simp only [] at hcc hpu hps hle hfit hsn
      subst hpu
      obtain ⟨e0, e1, e2, e3, e4, el, et⟩ := e
      simp only [] at hcc hps hle
      have cb : ∀ j u, (ecells ⟨e0, e1, e2, e3, e4, el, et⟩ (.slice Ap el.length cp))[j]? = some u → wr.cell? ⟨gb, k * 7 + j, none⟩ = some u := fun j u hu => (b0.cell (p := ⟨gb, k * 7 + j, none⟩) hgb).trans (hcc j u hu)
      have c0 : wr.cell? ⟨gb, k * 7, none⟩ = some (.int .i64 e0) := cb 0 _ rfl
      have c1 : wr.cell? ⟨gb, k * 7 + 1, none⟩ = some (.int .i32 e1) := cb 1 _ rfl
      have c2 : wr.cell? ⟨gb, k * 7 + 2, none⟩ = some (.int .u8 e2) := cb 2 _ rfl
      have c3 : wr.cell? ⟨gb, k * 7 + 3, none⟩ = some (.int .u8 e3) := cb 3 _ rfl
      have c4 : wr.cell? ⟨gb, k * 7 + 4, none⟩ = some (.int .u8 e4) := cb 4 _ rfl
      have c5 : wr.cell? ⟨gb, k * 7 + 5, none⟩ = some (.slice Ap el.length cp) := cb 5 _ rfl
      have c6 : wr.cell? ⟨gb, k * 7 + 6, none⟩ = some (.string (strOfNums et)) := cb 6 _ rfl
      have RI := hide (fun o => right_any e0 e1 e2 e3 e4 Ap el.length cp el et (wr.alloc o) (((hps.below b0).alloc b0.size _).more (by have := b0.size; simp; omega)) (by omega) hfit.1 hfit.2)
      have PU := hide (fun (hr : PA.rightB ⟨e0, e1, e2, e3, e4, el, et⟩ = true) (w2 : World) (b2 : Below w.heap.size w w2) (h2 : w2.ownsRow w.heap.size 5 1 u3 (PA.bytesAll es).length (u8s (PA.bytesAll es))) => (show Calls Tryd.prog 26 #[u3, .agg #[.int .i64 e0, .int .i32 e1, .int .u8 e2, .int .u8 e3, .int .u8 e4, .slice Ap el.length cp, .string (strOfNums et)]] w2 (Wrote w.heap.size w2 (PA.bytesAll es).length (u8s (PA.bytesAll es)) (PA.bytesOf ⟨e0, e1, e2, e3, e4, el, et⟩)) from seqPut_any w.heap.size u3 _ _ ⟨e0, e1, e2, e3, e4, el, et⟩ Ap cp w2 (PA.rightB_right hr) h2 (by omega) b2.size (hps.below b2) (HT.out.on b2)))
      have HSN := hide hsn
      have HO := hide ho
      have HB := hide b0
      clear hcc cb hq hps hle hfit hsn ho b0 hpl
      generalize hbs : PA.bytesOf ⟨e0, e1, e2, e3, e4, el, et⟩ = bs at *
      generalize hev : (⟨e0, e1, e2, e3, e4, el, et⟩ : PA.Ev) = ev at *
      have HBS := hide hbs
      clear hev hbs
      generalize hR : PA.rightB ev = R at *
      clear hR
      have hbx := Box.new wr 24 #[.int .i64 e0, .int .i32 e1, .int .u8 e2, .int .u8 e3, .int .u8 e4, .slice Ap el.length cp, .string (strOfNums et)]
      rcases R with _ | _
      · go_wp2_with fail
        refine (RI.out _).mono ?_
        rintro x w1 ⟨rfl, b1⟩
        have bb : Below wr.heap.size wr w1 := ((Below.refl _ wr).alloc (Nat.le_refl _) _).trans (b1.mono (by simp))
        clear b1 hbx
        go_wp2_with fail
        go_roundw
        case rel => exact ⟨k + 1, by omega, by go_num, by rw [HSN.out]; simpa using own_below HO.out bb, HB.out.trans (bb.mono HB.out.size)⟩
        case measure => simp [intOf]; omega
      · go_wp2_with fail
        refine (RI.out _).mono ?_
        rintro x w1 ⟨rfl, b1⟩
        have bb : Below wr.heap.size wr w1 := ((Below.refl _ wr).alloc (Nat.le_refl _) _).trans (b1.mono (by simp))
        obtain ⟨k0, k1, k2, k3, k4, k5, k6⟩ := Box.seven (hbx.below b1 (by simp))
        have b2 : Below w.heap.size w w1 := HB.out.trans (bb.mono HB.out.size)
        have P2 := hide (PU.out (by trivial) w1 b2 (own_below HO.out bb))
        have B2 := hide b2
        clear b1 hbx bb b2
        go_wp2_with fail
        refine P2.out.mono ?_
        rintro x w2 ⟨v2, rfl, h2, kx2⟩
        have B3 := hide (B2.out.trans kx2.below)
        clear kx2
        go_wp2_with fail
        go_roundw
        case rel => exact ⟨k + 1, by omega, by go_num, by rw [HSN.out, if_pos (by trivial), bytesAll_app]; simpa [PA.bytesAll, u8s, HBS.out] using h2, B3.out⟩
        case measure => simp [intOf]; omega
    · obtain rfl : k = n := by omega
      rw [List.take_of_length_le (by rw [HM.out.1]; omega)] at ho
      go_wp2_with fail
      go_ret
      exact ⟨u3, rfl, ho, b0⟩
end Go.Proofs.YtnnjppgmadmmaaaDoor
