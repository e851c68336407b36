/- The contract of seq's put, for an EPrint, an EExec, an EOsc. -/
import Derived.Test.YtnnjppgmadmmaaaDoorSeqPut
import Derived.Test.YtnnjppgmadmmaaaDoorUtfEncode
import Derived.Lib.AppendStr
set_option maxRecDepth 100000
namespace Go.Proofs.YtnnjppgmadmmaaaDoor
open Go.RowKit
set_option linter.unusedVariables false
theorem enc_one (r : Int) : U.enc [r] = U.en1 r := by simp [U.enc]
theorem en1_right {r : Int} (h : PA.okRune r) : U.en1 r = U.en r := by
  have : U.isR r = true := by
    unfold U.isR
    unfold PA.okRune at h
    simp
    omega
  simp [U.en1, this]
theorem en_len {r : Int} : (U.en r).length ≤ 4 := by
  unfold U.en
  repeat' split
  all_goals simp
set_option maxHeartbeats 2000000 in
theorem put_1 (base : Nat) (v : Value) (n0 : Nat) (xs : List Value) (r : Int) (A : Option Addr) (c : Nat) (s : ByteArray) (w : World) (hown : w.ownsRow base 5 1 v n0 xs) (hn0 : n0 ≤ 1099511000000) (hbase : base ≤ w.heap.size) (hr : PA.okRune r) :
    Calls Tryd.prog 26 #[v, .agg #[.int .i64 1, .int .i32 r, .int .u8 0, .int .u8 0, .int .u8 0, .slice A 0 c, .string s]] w (Wrote base w n0 xs (U.en r)) := by
  obtain ⟨i0, hi, hz0, hz1, hz2⟩ := info_parts info_u8
  have hrr : -2147483648 ≤ r ∧ r ≤ 2147483647 := by unfold PA.okRune at hr; omega
  have CE := hide (fun (w1 : World) (hA : Seen w1 w1.heap.size (some ⟨w.heap.size + 1, 0, none⟩) 1 (i32s [r])) => encode_any (some ⟨w.heap.size + 1, 0, none⟩) 1 1 [r] w1 hA (by simpa using hrr) (by omega))
  rw [enc_one, en1_right hr] at CE
  have HL := hide (en_len (r := r))
  generalize U.en r = ys at *
  clear hr hrr
  go_enter Tryd.func26, Tryd.ntmps26
  go_wp2_with fail
  refine (CE.out _ (Seen.fresh (by simp) (by simp) rfl rfl)).mono ?_
  rintro e w1 ⟨v1, rfl, h1, b1⟩
  obtain ⟨A1, c1, rfl, _⟩ := own_form h1
  have s1 := Seen.of_own h1
  have bb : Below w.heap.size w w1 := (((Below.refl _ w).alloc (Nat.le_refl _) _).alloc (by simp) _).trans (b1.mono (by simp; omega))
  have hown1 := own_below hown bb
  clear b1 h1 hown
  have hl := HL.out
  have hb1 : base ≤ w1.heap.size := Nat.le_trans hbase bb.size
  have kx := Kx.of_below bb hbase
  clear bb
  go_wp2_with (at_builtin; refine wpList_appN rfl (.tmp 9) (.tmp 13) 26 rfl base 5 i0 _ 1 Tryd.underlying26 hi hz0 hz1 hz2 rfl v n0 xs rfl hown1 w1.heap.size A1 ys.length c1 (u8s ys) rfl s1 (u8s_one ys) (by omega) (by omega) hb1 ?_; intro v' w2 hown2 hg2 hm2)
  go_ret
  exact ⟨v', rfl, hown2, kx.grown hown1 hg2 hb1⟩
set_option maxHeartbeats 2000000 in
theorem put_2 (base : Nat) (v : Value) (n0 : Nat) (xs : List Value) (b : Int) (A : Option Addr) (c : Nat) (s : ByteArray) (w : World) (hown : w.ownsRow base 5 1 v n0 xs) (hn0 : n0 ≤ 1099511000000) (hbase : base ≤ w.heap.size) :
    Calls Tryd.prog 26 #[v, .agg #[.int .i64 2, .int .i32 0, .int .u8 0, .int .u8 0, .int .u8 b, .slice A 0 c, .string s]] w (Wrote base w n0 xs [b]) := by
  obtain ⟨i0, hi, hz0, hz1, hz2⟩ := info_parts info_u8
  have hown0 := own_alloc hown (.cells #[.int .i64 2, .int .i32 0, .int .u8 0, .int .u8 0, .int .u8 b, .slice A 0 c, .string s] 24)
  have hb0 : base ≤ (w.alloc (.cells #[.int .i64 2, .int .i32 0, .int .u8 0, .int .u8 0, .int .u8 b, .slice A 0 c, .string s] 24)).heap.size := by simp; omega
  have kx := (Kx.refl base w).alloc hbase (.cells #[.int .i64 2, .int .i32 0, .int .u8 0, .int .u8 0, .int .u8 b, .slice A 0 c, .string s] 24)
  go_enter Tryd.func26, Tryd.ntmps26
  go_wp2_with (at_builtin; refine wpList_app1 rfl (.tmp 59) (.tmp 62) 26 rfl base 5 i0 _ 1 Tryd.underlying26 hi hz0 hz1 hz2 rfl v n0 xs rfl hown0 _ _ _ rfl (by simp) rfl (by omega) (by omega) hb0 ?_; intro v' w2 hown2 hg2 hm2)
  go_ret
  exact ⟨v', rfl, hown2, kx.grown hown0 hg2 hb0⟩
theorem strCells_nums {t : List Int} (h : ∀ x ∈ t, 0 ≤ x ∧ x < 256) : Lib.strCells (strOfNums t) = u8s t := by
  rw [Lib.strCells_eq]
  simp only [Lib.byteCells, u8s, strOfNums, List.map_map]
  refine List.map_congr_left fun x hx => ?_
  have := h x hx
  simp
  omega
set_option maxHeartbeats 4000000 in
theorem put_5 (base : Nat) (v : Value) (n0 : Nat) (xs : List Value) (A : Option Addr) (c : Nat) (t : List Int) (w : World) (hown : w.ownsRow base 5 1 v n0 xs) (hn0 : n0 ≤ 1099511000000) (hbase : base ≤ w.heap.size) (ht : ∀ x ∈ t, 0 ≤ x ∧ x < 256) (hl : t.length ≤ 4096) :
    Calls Tryd.prog 26 #[v, .agg #[.int .i64 5, .int .i32 0, .int .u8 0, .int .u8 0, .int .u8 0, .slice A 0 c, .string (strOfNums t)]] w (Wrote base w n0 xs (27 :: 93 :: t ++ [7])) := by
  obtain ⟨i0, hi, hz0, hz1, hz2⟩ := info_parts info_u8
  have hsz := strOfNums_size t
  have hsc := strCells_nums ht
  have bx := Box.new w 24 #[.int .i64 5, .int .i32 0, .int .u8 0, .int .u8 0, .int .u8 0, .slice A 0 c, .string (strOfNums t)]
  have hown0 := own_alloc hown (.cells #[.int .i64 5, .int .i32 0, .int .u8 0, .int .u8 0, .int .u8 0, .slice A 0 c, .string (strOfNums t)] 24)
  have hb0 : base ≤ (w.alloc (.cells #[.int .i64 5, .int .i32 0, .int .u8 0, .int .u8 0, .int .u8 0, .slice A 0 c, .string (strOfNums t)] 24)).heap.size := by simp; omega
  have kx := (Kx.refl base w).alloc hbase (.cells #[.int .i64 5, .int .i32 0, .int .u8 0, .int .u8 0, .int .u8 0, .slice A 0 c, .string (strOfNums t)] 24)
  have HSC := hide hsc
  have HSZ := hide hsz
  generalize strOfNums t = s at *
  clear hsc hsz ht
  go_enter Tryd.func26, Tryd.ntmps26
  go_wp2_with (at_builtin; first
    | (refine wpList_appL rfl (.tmp 49) (.tmp 50) 26 rfl base 5 i0 _ 1 Tryd.underlying26 hi hz0 hz1 hz2 rfl v n0 xs rfl hown0 #[.int .u8 27, .int .u8 93] _ _ 2 rfl rfl (by simp) (by simp [Value.oneCell']) (by omega) (by omega) hb0 ?_; intro v1 w1 hown1 hg1 hm1; have bx1 := bx.grown hg1 (bx.notOwn hown0 (by decide)); have kx1 := kx.grown hown0 hg1 hb0; clear bx kx; obtain ⟨k0, k1, k2, k3, k4, k5, k6⟩ := Box.seven bx1)
    | (refine Lib.wpList_append_own_string _ rfl (.tmp 52) (.tmp 54) 26 9 rfl base 5 i0 Tryd.underlying26 Tryd.underlying9 hi hz0 hz1 hz2 v1 _ _ rfl hown1 s rfl (by have := HSZ.out; simp only [maxLen]; omega) (by have := HSZ.out; omega) (Nat.le_trans hbase kx1.size) ?_; intro v2 w2 hown2 hg2 _; have kx2 := kx1.grown hown1 hg2 (Nat.le_trans hbase kx1.size))
    | (refine wpList_app1 rfl (.tmp 56) (.tmp 57) 26 rfl base 5 i0 _ 1 Tryd.underlying26 hi hz0 hz1 hz2 rfl v2 _ _ rfl hown2 _ _ _ rfl rfl rfl (by omega) (by have := HSZ.out; omega) (Nat.le_trans hbase kx2.size) ?_; intro v3 w3 hown3 hg3 _; have kx3 := kx2.grown hown2 hg3 (Nat.le_trans hbase kx2.size)))
  go_ret
  refine ⟨v3, rfl, ?_, kx3⟩
  rw [HSC.out, HSZ.out] at hown3
  simpa [u8s, Nat.add_assoc, Nat.add_comm, Nat.add_left_comm] using hown3
end Go.Proofs.YtnnjppgmadmmaaaDoor
