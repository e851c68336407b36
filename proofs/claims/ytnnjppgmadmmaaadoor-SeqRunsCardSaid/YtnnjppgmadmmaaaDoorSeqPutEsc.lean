/- The contract of seq's put, for an EEsc; and of put, whatever the right event. -/
import Derived.Test.YtnnjppgmadmmaaaDoorSeqPutCsi
set_option maxRecDepth 100000
namespace Go.Proofs.YtnnjppgmadmmaaaDoor
open Go.RowKit
set_option linter.unusedVariables false
set_option maxHeartbeats 4000000 in
theorem put_3 (base : Nat) (v : Value) (n0 : Nat) (xs : List Value) (i f : Int) (A : Option Addr) (c : Nat) (s : ByteArray) (w : World) (hown : w.ownsRow base 5 1 v n0 xs) (hn0 : n0 ≤ 1099510000000) (hbase : base ≤ w.heap.size) :
    Calls Tryd.prog 26 #[v, .agg #[.int .i64 3, .int .i32 0, .int .u8 0, .int .u8 i, .int .u8 f, .slice A 0 c, .string s]] w (Wrote base w n0 xs (27 :: PA.some0 i ++ [f])) := by
  obtain ⟨i0, hi, hz0, hz1, hz2⟩ := info_parts info_u8
  generalize hTT : 27 :: PA.some0 i ++ [f] = TT
  have HTT := hide hTT
  clear hTT
  have hsi : (PA.some0 i).length ≤ 1 := by unfold PA.some0; split <;> simp
  have bx := Box.new w 24 #[.int .i64 3, .int .i32 0, .int .u8 0, .int .u8 i, .int .u8 f, .slice A 0 c, .string s]
  have hown0 := own_alloc hown (.cells #[.int .i64 3, .int .i32 0, .int .u8 0, .int .u8 i, .int .u8 f, .slice A 0 c, .string s] 24)
  have kx0 := (Kx.refl base w).alloc hbase (.cells #[.int .i64 3, .int .i32 0, .int .u8 0, .int .u8 i, .int .u8 f, .slice A 0 c, .string s] 24)
  go_enter Tryd.func26, Tryd.ntmps26
  go_wp2_with fail
  generalize hw0 : w.alloc (.cells #[.int .i64 3, .int .i32 0, .int .u8 0, .int .u8 i, .int .u8 f, .slice A 0 c, .string s] 24) = w0 at *
  have hb0 : base ≤ w0.heap.size := Nat.le_trans hbase kx0.size
  clear hw0
  have R3 : ∀ w', Kx base w0 w' → w'.cell? ⟨w.heap.size, 3, none⟩ = some (.int .u8 i) := fun w' h => (h.box bx (by decide)).cell 3
  have R4 : ∀ w', Kx base w0 w' → w'.cell? ⟨w.heap.size, 4, none⟩ = some (.int .u8 f) := fun w' h => (h.box bx (by decide)).cell 4
  have hd : Kx base w0 w0.drew := (Kx.refl _ _).drew
  have hA1 : Kx base w0 ((w0.alloc (.cells #[.int .u8 27] 5)).drew) := ((Kx.refl base w0).alloc hb0 _).drew
  have hA2 : Kx base w0 ((w0.alloc (.cells #[.int .u8 f] 5)).drew) := ((Kx.refl base w0).alloc hb0 _).drew
  have hA3 : Kx base w0 (((w0.alloc (.cells #[.int .u8 27] 5)).alloc (.cells #[.int .u8 f] 5)).drew) := (((Kx.refl base w0).alloc hb0 _).alloc (by simp; omega) _).drew
  have hA4 : Kx base w0 (((w0.alloc (.cells #[.int .u8 f] 5)).alloc (.cells #[.int .u8 27] 5)).drew) := (((Kx.refl base w0).alloc hb0 _).alloc (by simp; omega) _).drew
  have hX := Lib.hid hd
  have hAl1 := hd
  have hAl2 := hd
  have Fin : ∀ (v5 : Value) (w5 : World), w5.ownsRow base 5 1 v5 (n0 + 1 + (u8s (PA.some0 i)).length + 1) (xs ++ [.int .u8 27] ++ u8s (PA.some0 i) ++ [.int .u8 f]) → Kx base w0 w5 → Wrote base w n0 xs TT (.returned v5) w5 := by
    intro v5 w5 h5 k5
    rw [← HTT.out]
    refine ⟨v5, rfl, ?_, kx0.trans k5⟩
    rw [show n0 + (27 :: PA.some0 i ++ [f]).length = n0 + 1 + (u8s (PA.some0 i)).length + 1 from by simp [u8s]; omega]
    simpa [u8s] using h5
  go_region_held3 (fun w' => Kx base w0 w')
    (first | with_reducible exact hd | with_reducible exact hA1 | with_reducible exact hA2 | with_reducible exact hA3 | with_reducible exact hA4 | with_reducible exact hAl1 | with_reducible exact hAl2 | with_reducible exact hX.out)
    (first
      | (refine step_appN (by rfl) (.tmp 17) (.tmp 18) 26 (by rfl) base 5 i0 _ 1 Tryd.underlying26 hi hz0 hz1 hz2 rfl v n0 xs (by rfl) (own_drew (own_alloc hown0 (.cells #[.int .u8 27] 5))) (w0.heap.size + 1) (some ⟨w0.heap.size, 0, none⟩) 1 1 [.int .u8 27] (by rfl) (Seen.fresh (t := 5) (cs := #[.int .u8 27]) rfl rfl rfl rfl).drew (by simp [Value.oneCell']) (by omega) (by omega) (by simp; omega) ?_; intro v1 w1 hown1 hg1 hm1; have hX := Lib.hid (hA1.grown (own_drew (own_alloc hown0 _)) hg1 (by simp; omega)); have hb1 : base ≤ w1.heap.size := Nat.le_trans hb0 hX.out.size; have hAl1 := hX.out.alloc hb1 (.cells #[.int .u8 f] 5))
      | (refine step_appN (by rfl) (.tmp 17) (.tmp 18) 26 (by rfl) base 5 i0 _ 1 Tryd.underlying26 hi hz0 hz1 hz2 rfl v n0 xs (by rfl) (own_drew (own_alloc (own_alloc hown0 (.cells #[.int .u8 27] 5)) (.cells #[.int .u8 f] 5))) (w0.heap.size + 1) (some ⟨w0.heap.size, 0, none⟩) 1 1 [.int .u8 27] (by rfl) (Seen.of_box ((Box.new w0 5 #[.int .u8 27]).alloc (.cells #[.int .u8 f] 5)).drew rfl rfl (by omega)) (by simp [Value.oneCell']) (by omega) (by omega) (by simp; omega) ?_; intro v1 w1 hown1 hg1 hm1; have hX := Lib.hid (hA3.grown (own_drew (own_alloc (own_alloc hown0 _) _)) hg1 (by simp; omega)); have hb1 : base ≤ w1.heap.size := Nat.le_trans hb0 hX.out.size; have bf1 := (Box.fresh (w := w0.alloc (.cells #[.int .u8 27] 5)) (t := 5) (cs := #[.int .u8 f]) (g := w0.heap.size + 1) (by simp)).drew.grown hg1 (fun e => by have := (hown0.lt _ e.symm).2; omega))
      | (refine step_appN (by rfl) (.tmp 17) (.tmp 18) 26 (by rfl) base 5 i0 _ 1 Tryd.underlying26 hi hz0 hz1 hz2 rfl v n0 xs (by rfl) (own_drew (own_alloc (own_alloc hown0 (.cells #[.int .u8 f] 5)) (.cells #[.int .u8 27] 5))) (w0.heap.size + 2) (some ⟨w0.heap.size + 1, 0, none⟩) 1 1 [.int .u8 27] (by rfl) (Seen.of_box (Box.fresh (w := w0.alloc (.cells #[.int .u8 f] 5)) (t := 5) (cs := #[.int .u8 27]) (g := w0.heap.size + 1) (by simp)).drew rfl rfl (by omega)) (by simp [Value.oneCell']) (by omega) (by omega) (by simp; omega) ?_; intro v1 w1 hown1 hg1 hm1; have hX := Lib.hid (hA4.grown (own_drew (own_alloc (own_alloc hown0 _) _)) hg1 (by simp; omega)); have hb1 : base ≤ w1.heap.size := Nat.le_trans hb0 hX.out.size; have bf1 := ((Box.new w0 5 #[.int .u8 f]).alloc (.cells #[.int .u8 27] 5)).drew.grown hg1 (fun e => by have := (hown0.lt _ e.symm).2; omega))
      | (go_at_call 41; refine (putAny_any base v1 (n0 + 1) (xs ++ [.int .u8 27]) i w1 hown1 (by omega) hb1).mono ?_; rintro e w2 ⟨v2, rfl, hown2, hg2, hm2⟩; have hX := Lib.hid (hX.out.grown hown1 hg2 hb1); have hb2 : base ≤ w2.heap.size := Nat.le_trans hb0 hX.out.size; have hAl2 := hX.out.alloc hb2 (.cells #[.int .u8 f] 5); (try (have bf2 := bf1.grown hg2 (fun e => by
          rcases hm1 with hm | ⟨g, hm, hm'⟩
          · rw [hm] at e; have := (hown0.lt _ e.symm).2; omega
          · rw [hm] at e; injection e with e; simp at hm'; omega))))
      | (go_at_call 41; refine (putAny_any base v1 (n0 + 1) (xs ++ [.int .u8 27]) i (w1.alloc (.cells #[.int .u8 f] 5)) (own_alloc hown1 _) (by omega) (by simp; omega)).mono ?_; rintro e w2 ⟨v2, rfl, hown2, hg2, hm2⟩; have hX := Lib.hid (hAl1.grown (own_alloc hown1 _) hg2 (by simp; omega)); have hb2 : base ≤ w2.heap.size := Nat.le_trans hb0 hX.out.size; have bf2 := (Box.new w1 5 #[.int .u8 f]).grown hg2 (fun e => by have := (hown1.lt _ e.symm).2; omega))
      | (refine step_appN (by rfl) (.tmp 22) (.tmp 25) 26 (by rfl) base 5 i0 _ 1 Tryd.underlying26 hi hz0 hz1 hz2 rfl v2 (n0 + 1 + (u8s (PA.some0 i)).length) (xs ++ [.int .u8 27] ++ u8s (PA.some0 i)) (by rfl) (own_alloc hown2 (.cells #[.int .u8 f] 5)) (w2.heap.size + 1) (some ⟨w2.heap.size, 0, none⟩) 1 1 [.int .u8 f] (by rfl) (Seen.fresh (t := 5) (cs := #[.int .u8 f]) rfl rfl rfl rfl) (by simp [Value.oneCell']) (by omega) (by simp [u8s]; omega) (by simp; omega) ?_; intro v5 w5 hown5 hg5 hm5; have hX := Lib.hid (hAl2.grown (own_alloc hown2 (.cells #[.int .u8 f] 5)) hg5 (by simp; omega)))
      | (refine step_appN (by rfl) (.tmp 22) (.tmp 25) 26 (by rfl) base 5 i0 _ 1 Tryd.underlying26 hi hz0 hz1 hz2 rfl v2 (n0 + 1 + (u8s (PA.some0 i)).length) (xs ++ [.int .u8 27] ++ u8s (PA.some0 i)) (by rfl) hown2 w2.heap.size _ 1 1 [.int .u8 f] (by rfl) (Seen.of_box bf2 rfl rfl bf2.lt) (by simp [Value.oneCell']) (by omega) (by simp [u8s]; omega) hb2 ?_; intro v5 w5 hown5 hg5 hm5; have hX := Lib.hid (hX.out.grown hown2 hg5 hb2)))
  all_goals
    go_wp2_with fail
    go_ret
    exact Fin _ _ hown5 hX.out
theorem seqPut_any (base : Nat) (v : Value) (n0 : Nat) (xs : List Value) (e : PA.Ev) (A : Option Addr) (c : Nat) (w : World) (he : PA.Right e) (hown : w.ownsRow base 5 1 v n0 xs) (hn0 : n0 ≤ 1099510000000) (hbase : base ≤ w.heap.size)
    (hA : Seen w base A e.params.length (i64s e.params)) (ht : TensB base w) :
    Calls Tryd.prog 26 #[v, .agg #[.int .i64 e.kind, .int .i32 e.rune, .int .u8 e.priv, .int .u8 e.inter, .int .u8 e.final, .slice A e.params.length c, .string (strOfNums e.text)]] w (Wrote base w n0 xs (PA.bytesOf e)) := by
  rcases he with ⟨r, rfl, h⟩ | ⟨b, rfl, h0, h1, h2, h3, h4⟩ | ⟨i, f, rfl, hi, h0, h1, h⟩ | ⟨p, i, f, ps, rfl, hp, hi, h0, h1, hl, hn, h⟩ | ⟨t, rfl, hl, h⟩
  · exact put_1 base v n0 xs r A c _ w hown (by omega) hbase h
  · exact put_2 base v n0 xs b A c _ w hown (by omega) hbase
  · exact put_3 base v n0 xs i f A c _ w hown (by omega) hbase
  · exact put_4 base v n0 xs p i f A ps.length c ps _ w hown (by omega) hbase hA hl hn ht
  · exact put_5 base v n0 xs A c t w hown (by omega) hbase (fun x hx => by have := h x hx; omega) hl
theorem bytes_len {e : PA.Ev} (h : PA.Right e) : (PA.bytesOf e).length ≤ 4200 := by
  have s1 : ∀ i, (PA.some0 i).length ≤ 1 := fun i => by unfold PA.some0; split <;> simp
  rcases h with ⟨r, rfl, h⟩ | ⟨b, rfl, h0, h1, h2, h3, h4⟩ | ⟨i, f, rfl, hi, h0, h1, h⟩ | ⟨p, i, f, ps, rfl, hp, hi, h0, h1, hl, hn, h⟩ | ⟨t, rfl, hl, h⟩
  · have := en_len (r := r)
    show (U.en r).length ≤ _
    omega
  · show [b].length ≤ _
    simp
  · have := s1 i
    show (27 :: PA.some0 i ++ [f]).length ≤ _
    simp
    omega
  · have a := s1 i
    have b := s1 p
    have c := joined_len ps
    show (27 :: 91 :: PA.some0 p ++ PA.joined ps ++ PA.some0 i ++ [f]).length ≤ _
    simp
    omega
  · show (27 :: 93 :: t ++ [7]).length ≤ _
    simp
    omega
end Go.Proofs.YtnnjppgmadmmaaaDoor
