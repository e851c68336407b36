/- The contract of seq's put, for an ECsi. -/
import Derived.Test.YtnnjppgmadmmaaaDoorSeqPutOne
set_option maxRecDepth 100000
namespace Go.Proofs.YtnnjppgmadmmaaaDoor
open Go.RowKit
set_option linter.unusedVariables false
set_option maxHeartbeats 4000000 in
theorem put_4 (base : Nat) (v : Value) (n0 : Nat) (xs : List Value) (p i f : Int) (A : Option Addr) (n c : Nat) (l : List Int) (s : ByteArray) (w : World) (hown : w.ownsRow base 5 1 v n0 xs) (hn0 : n0 ≤ 1099510000000) (hbase : base ≤ w.heap.size)
    (hA : Seen w base A n (i64s l)) (hn : n ≤ 16) (hl : ∀ x ∈ l, -1 ≤ x ∧ x ≤ 65535) (ht : TensB base w) :
    Calls Tryd.prog 26 #[v, .agg #[.int .i64 4, .int .i32 0, .int .u8 p, .int .u8 i, .int .u8 f, .slice A n c, .string s]] w (Wrote base w n0 xs (27 :: 91 :: PA.some0 p ++ PA.joined l ++ PA.some0 i ++ [f])) := by
  obtain ⟨i0, hi, hz0, hz1, hz2⟩ := info_parts info_u8
  generalize hTT : 27 :: 91 :: PA.some0 p ++ PA.joined l ++ PA.some0 i ++ [f] = TT
  have HTT := hide hTT
  clear hTT
  have bx := Box.new w 24 #[.int .i64 4, .int .i32 0, .int .u8 p, .int .u8 i, .int .u8 f, .slice A n c, .string s]
  have hown0 := own_alloc hown (.cells #[.int .i64 4, .int .i32 0, .int .u8 p, .int .u8 i, .int .u8 f, .slice A n c, .string s] 24)
  have kx0 := (Kx.refl base w).alloc hbase (.cells #[.int .i64 4, .int .i32 0, .int .u8 p, .int .u8 i, .int .u8 f, .slice A n c, .string s] 24)
  have HA := hide hA
  have HL := hide hl
  have HT := hide ht
  clear hA hl ht
  go_enter Tryd.func26, Tryd.ntmps26
  go_wp2_with fail
  generalize hw0 : w.alloc (.cells #[.int .i64 4, .int .i32 0, .int .u8 p, .int .u8 i, .int .u8 f, .slice A n c, .string s] 24) = w0 at *
  have hb0 : base ≤ w0.heap.size := Nat.le_trans hbase kx0.size
  clear hw0
  have R2 : ∀ w', Kx base w0 w' → w'.cell? ⟨w.heap.size, 2, none⟩ = some (.int .u8 p) := fun w' h => (h.box bx (by decide)).cell 2
  have hd : Kx base w0 w0.drew := (Kx.refl _ _).drew
  have hX := Lib.hid hd
  have hAl : Kx base w0 ((w0.alloc (.cells #[.int .u8 27, .int .u8 91] 5)).drew) := ((Kx.refl base w0).alloc hb0 (.cells #[.int .u8 27, .int .u8 91] 5)).drew
  go_region_held3 (fun w' => Kx base w0 w')
    (first | with_reducible exact hd | with_reducible exact hAl | with_reducible exact hX.out)
    (first
      | (refine step_appN (by rfl) (.tmp 29) (.tmp 30) 26 (by rfl) base 5 i0 _ 1 Tryd.underlying26 hi hz0 hz1 hz2 rfl v n0 xs (by rfl) (own_drew (own_alloc hown0 (.cells #[.int .u8 27, .int .u8 91] 5))) (w0.heap.size + 1) (some ⟨w0.heap.size, 0, none⟩) 2 2 [.int .u8 27, .int .u8 91] (by rfl) (Seen.fresh (t := 5) (cs := #[.int .u8 27, .int .u8 91]) rfl rfl rfl rfl).drew (by simp [Value.oneCell']) (by omega) (by omega) (by simp; omega) ?_; intro v1 w1 hown1 hg1 hm1; have hX := Lib.hid (((Kx.refl base w0).alloc hb0 (.cells #[.int .u8 27, .int .u8 91] 5)).drew.grown (own_drew (own_alloc hown0 (.cells #[.int .u8 27, .int .u8 91] 5))) hg1 (by simp; omega)))
      | (go_at_call 41; refine (putAny_any base v1 (n0 + 2) (xs ++ [.int .u8 27, .int .u8 91]) p _ hown1 (by omega) (Nat.le_trans hb0 (Kx.size hX.out))).mono ?_; rintro e w2 ⟨v2, rfl, hown2, hg2, hm2⟩; have hX := Lib.hid ((Kx.trans hX.out ((Kx.refl base w1).grown hown1 hg2 (Nat.le_trans hb0 (Kx.size hX.out)))))))
  have kx2 : Kx base w w2 := kx0.trans hX.out
  have bx2 := hX.out.box bx (by decide)
  have hb2 : base ≤ w2.heap.size := Nat.le_trans hb0 hX.out.size
  have hown2' : w2.ownsRow base 5 1 v2 (n0 + (27 :: 91 :: PA.some0 p).length) (xs ++ u8s (27 :: 91 :: PA.some0 p)) := by
    rw [show n0 + (27 :: 91 :: PA.some0 p).length = n0 + 2 + (u8s (PA.some0 p)).length from by simp [u8s]; omega]
    simpa [u8s] using hown2
  have hsm : (27 :: 91 :: PA.some0 p).length ≤ 3 := by unfold PA.some0; split <;> simp
  have hsi : (PA.some0 i).length ≤ 1 := by unfold PA.some0; split <;> simp
  have k5 := (Box.seven bx2).2.2.2.2.2.1
  have PP := hide (putParams_any base v2 (n0 + (27 :: 91 :: PA.some0 p).length) (xs ++ u8s (27 :: 91 :: PA.some0 p)) A n c l w2 hown2' (by omega) hb2 (HA.out.below kx2.below) hn HL.out (HT.out.on kx2.below))
  clear R2 hd hAl hX hg1 hm1 hg2 hm2 hown1 hown2 hown2' hown0
  generalize hhd : 27 :: 91 :: PA.some0 p = hd0 at *
  go_wp2_with fail
  refine PP.out.mono ?_
  rintro e w3 ⟨v3, rfl, hown3, kx23⟩
  have kx3 : Kx base w w3 := kx2.trans kx23
  have bx3 := kx23.box bx2 (by decide)
  have hb3 : base ≤ w3.heap.size := Nat.le_trans hb2 kx23.size
  have hjl := joined_len l
  have hll : l.length = n := by simpa [i64s] using HA.out.1
  clear k5 PP kx23 bx2
  go_wp2_with fail
  have R3 : ∀ w', Kx base w3 w' → w'.cell? ⟨w.heap.size, 3, none⟩ = some (.int .u8 i) := fun w' h => (h.box bx3 (by decide)).cell 3
  have R4 : ∀ w', Kx base w3 w' → w'.cell? ⟨w.heap.size, 4, none⟩ = some (.int .u8 f) := fun w' h => (h.box bx3 (by decide)).cell 4
  have hd : Kx base w3 w3.drew := (Kx.refl _ _).drew
  have hAl : Kx base w3 ((w3.alloc (.cells #[.int .u8 f] 5)).drew) := ((Kx.refl base w3).alloc hb3 _).drew
  have hX := Lib.hid hd
  have hAl2 := hd
  generalize hN : n0 + hd0.length + (PA.joined l).length = N at *
  generalize hXS : xs ++ u8s hd0 ++ u8s (PA.joined l) = XS at *
  have HN := hide hN
  have HXS := hide hXS
  have hN1 : N ≤ 1099510001000 := by omega
  have BF := Box.new w3 5 #[.int .u8 f]
  have Fin : ∀ (v5 : Value) (w5 : World), w5.ownsRow base 5 1 v5 (N + (u8s (PA.some0 i)).length + 1) (XS ++ u8s (PA.some0 i) ++ [.int .u8 f]) → Kx base w3 w5 → Wrote base w n0 xs TT (.returned v5) w5 := by
    intro v5 w5 h5 k5
    rw [← HTT.out]
    refine ⟨v5, rfl, ?_, kx3.trans k5⟩
    rw [← HXS.out, ← HN.out] at h5
    rw [show n0 + (hd0 ++ PA.joined l ++ PA.some0 i ++ [f]).length = n0 + hd0.length + (PA.joined l).length + (u8s (PA.some0 i)).length + 1 from by simp [u8s]; omega]
    simpa [u8s] using h5
  clear hN hXS hhd
  go_region_held3 (fun w' => Kx base w3 w')
    (first | with_reducible exact hd | with_reducible exact hAl | with_reducible exact hAl2 | with_reducible exact hX.out)
    (first
      | (go_at_call 41; refine (putAny_any base v3 N XS i w3.drew hown3 (by omega) hb3).mono ?_; rintro e w4 ⟨v4, rfl, hown4, hg4, hm4⟩; have hX := Lib.hid ((Kx.refl base w3).grown hown3 (show w3.grownBy w4 v3.ownBlock from ⟨hg4.os, hg4.tape, hg4.output, hg4.size, hg4.block⟩) hb3); have hb4 : base ≤ w4.heap.size := Nat.le_trans hb3 hX.out.size; have hAl2 := hX.out.alloc hb4 (.cells #[.int .u8 f] 5))
      | (go_at_call 41; refine (putAny_any base v3 N XS i (w3.alloc (.cells #[.int .u8 f] 5)).drew (own_drew (own_alloc hown3 _)) (by omega) (by simp; omega)).mono ?_; rintro e w4 ⟨v4, rfl, hown4, hg4, hm4⟩; have hX := Lib.hid (hAl.grown (own_drew (own_alloc hown3 _)) hg4 (by simp; omega)); have hb4 : base ≤ w4.heap.size := Nat.le_trans hb3 hX.out.size; have bf4 := BF.drew.grown hg4 (fun e => by have := (hown3.lt _ e.symm).2; omega))
      | (refine step_appN (by rfl) (.tmp 42) (.tmp 45) 26 (by rfl) base 5 i0 _ 1 Tryd.underlying26 hi hz0 hz1 hz2 rfl v4 (N + (u8s (PA.some0 i)).length) (XS ++ u8s (PA.some0 i)) (by rfl) (own_alloc hown4 (.cells #[.int .u8 f] 5)) (w4.heap.size + 1) (some ⟨w4.heap.size, 0, none⟩) 1 1 [.int .u8 f] (by rfl) (Seen.fresh (t := 5) (cs := #[.int .u8 f]) rfl rfl rfl rfl) (by simp [Value.oneCell']) (by omega) (by simp [u8s]; omega) (by simp; omega) ?_; intro v5 w5 hown5 hg5 hm5; have hX := Lib.hid (hAl2.grown (own_alloc hown4 (.cells #[.int .u8 f] 5)) hg5 (by simp; omega)))
      | (refine step_appN (by rfl) (.tmp 42) (.tmp 45) 26 (by rfl) base 5 i0 _ 1 Tryd.underlying26 hi hz0 hz1 hz2 rfl v4 (N + (u8s (PA.some0 i)).length) (XS ++ u8s (PA.some0 i)) (by rfl) hown4 (w3.heap.size + 1) (some ⟨w3.heap.size, 0, none⟩) 1 1 [.int .u8 f] (by rfl) (Seen.of_box bf4 rfl rfl (by omega)) (by simp [Value.oneCell']) (by omega) (by simp [u8s]; omega) hb4 ?_; intro v5 w5 hown5 hg5 hm5; have hX := Lib.hid (hX.out.grown hown4 hg5 hb4)))
  all_goals
    go_wp2_with fail
    go_ret
    exact Fin _ _ hown5 hX.out
end Go.Proofs.YtnnjppgmadmmaaaDoor
