/- CellFlags: flags put in any order, each once or often; a pen's number grows with each; flags don't touch colours. -/
import Derived.Test.YtcadaeidcdnldaaDoorCellPacks
namespace Go.Proofs.YtcadaeidcdnldaaDoor
open Go.RowKit
set_option linter.unusedVariables false
theorem info_i64 : (Tryd.prog.info? 3).map (fun i => (i.zero, i.size, i.bytes)) = some (some (.int .i64 0), 1, 8) := by kernel_rfl
theorem parts_of_info {o : Option TypeInfo} {z : Option Value} {a b : Nat} (h : o.map (fun i => (i.zero, i.size, i.bytes)) = some (z, a, b)) : ∃ i, o = some i ∧ i.zero = z ∧ i.size = a ∧ i.bytes = b := by
  cases o with
  | none => simp at h
  | some i =>
    simp only [Option.map_some, Option.some.injEq, Prod.mk.injEq] at h
    exact ⟨i, rfl, h.1, h.2.1, h.2.2⟩
/-- the flag that a number stands for -/
def flagOf (x : Int) : Int := ((2 ^ (x % 8).toNat : Nat) : Int)
theorem flagOf_bd (x : Int) : 1 ≤ flagOf x ∧ flagOf x ≤ 128 := by
  unfold flagOf
  have h : (x % 8).toNat < 8 := by omega
  generalize (x % 8).toNat = k at h
  obtain rfl | rfl | rfl | rfl | rfl | rfl | rfl | rfl : k = 0 ∨ k = 1 ∨ k = 2 ∨ k = 3 ∨ k = 4 ∨ k = 5 ∨ k = 6 ∨ k = 7 := by omega
  all_goals decide
theorem flagOf_cases (x : Int) : (x % 8 = 0 ∧ flagOf x = 1) ∨ (x % 8 = 1 ∧ flagOf x = 2) ∨ (x % 8 = 2 ∧ flagOf x = 4) ∨ (x % 8 = 3 ∧ flagOf x = 8) ∨ (x % 8 = 4 ∧ flagOf x = 16) ∨ (x % 8 = 5 ∧ flagOf x = 32) ∨ (x % 8 = 6 ∧ flagOf x = 64) ∨ (x % 8 = 7 ∧ flagOf x = 128) := by
  unfold flagOf
  have h : x % 8 = 0 ∨ x % 8 = 1 ∨ x % 8 = 2 ∨ x % 8 = 3 ∨ x % 8 = 4 ∨ x % 8 = 5 ∨ x % 8 = 6 ∨ x % 8 = 7 := by omega
  rcases h with h | h | h | h | h | h | h | h <;> rw [h] <;> decide
/-- flags as bits of a natural number -/
def norsL (g : Nat) (l : List Nat) : Nat := l.foldl (· ||| ·) g
theorem norsL_lt : ∀ (l : List Nat) (g : Nat), g < 256 → (∀ x ∈ l, x < 256) → norsL g l < 256
  | [], g, hg, _ => hg
  | x :: r, g, hg, h => norsL_lt r (g ||| x) (Nat.or_lt_two_pow (n := 8) hg (h x (by simp))) fun y hy => h y (by simp [hy])
theorem norsL_or : ∀ (l : List Nat) (g h : Nat), norsL (g ||| h) l = g ||| norsL h l
  | [], g, h => rfl
  | x :: r, g, h => by
    show norsL (g ||| h ||| x) r = g ||| norsL (h ||| x) r
    rw [Nat.or_assoc, norsL_or r g (h ||| x)]
theorem ors_nat : ∀ (l : List Nat) (g : Nat), g < 256 → (∀ x ∈ l, x < 256) → C.ors (g : Int) (l.map fun x : Nat => (x : Int)) = (norsL g l : Int)
  | [], g, _, _ => rfl
  | x :: r, g, hg, h => by
    show C.ors (bits .or .i64 (g : Int) (x : Int)) (r.map fun x : Nat => (x : Int)) = _
    have hx := h x (by simp)
    rw [i64_or_nat g x (by omega) (by omega), ors_nat r (g ||| x) (Nat.or_lt_two_pow (n := 8) hg hx) fun y hy => h y (by simp [hy])]
    rfl
theorem norsL_twice (l : List Nat) : norsL (norsL 0 l) l = norsL 0 l := by
  have : ∀ (l : List Nat) (g : Nat), (∀ x ∈ l, g ||| x = g) → norsL g l = g := by
    intro l
    induction l with
    | nil => intro g _; rfl
    | cons x r ih =>
      intro g h
      show norsL (g ||| x) r = g
      rw [h x (by simp)]
      exact ih g fun y hy => h y (by simp [hy])
  refine this l _ fun x hx => ?_
  have abs : ∀ (l : List Nat) (g : Nat), x ∈ l → norsL g l ||| x = norsL g l := by
    intro l
    induction l with
    | nil => intro g h; simp at h
    | cons y r ih =>
      intro g h
      rcases List.mem_cons.1 h with rfl | h
      · show norsL (g ||| x) r ||| x = norsL (g ||| x) r
        rw [Nat.or_comm g x, norsL_or, Nat.or_comm, ← Nat.or_assoc, Nat.or_self]
      · exact ih (g ||| y) h
  exact abs l 0 hx
theorem flags_nat (l : List Int) : ∃ m : List Nat, l.map flagOf = m.map (fun x : Nat => (x : Int)) ∧ ∀ x ∈ m, x < 256 := by
  refine ⟨l.map fun x => (flagOf x).toNat, ?_, ?_⟩
  · rw [List.map_map]
    refine List.map_congr_left fun x _ => ?_
    have := flagOf_bd x
    simp
    omega
  · intro y hy
    obtain ⟨x, _, rfl⟩ := List.mem_map.1 hy
    have := flagOf_bd x
    omega
theorem ors_twice (l : List Int) : C.ors (C.ors 0 (l.map flagOf)) (l.map flagOf) = C.ors 0 (l.map flagOf) := by
  obtain ⟨m, hm, hb⟩ := flags_nat l
  rw [hm]
  have e := ors_nat m 0 (by omega) hb
  rw [show ((0 : Nat) : Int) = 0 from rfl] at e
  rw [e, ors_nat m _ (norsL_lt m 0 (by omega) hb) hb, norsL_twice]
theorem ors_one (x : Int) : C.ors 0 [flagOf x] = flagOf x := by
  have hb := flagOf_bd x
  obtain ⟨n, hn⟩ := Int.eq_ofNat_of_zero_le (a := flagOf x) (by omega)
  rw [hn]
  have := ors_nat [n] 0 (by omega) (by intro y hy; simp at hy; omega)
  simpa [norsL] using this
def i64s (l : List Int) : List Value := l.map (Value.int .i64)
set_option maxRecDepth 100000 in
set_option maxHeartbeats 8000000 in
theorem cellFlags_t (a0 a1 a2 pf pb pg : Int) (A : Option Addr) (n c : Nat) (l : List Int) (w : World) (hA : Arg .i64 w A n c l) (hs : Spans w)
    (PC : Hid (∀ w', Calls Tryd.prog 16 #[.agg #[.int .i64 a0, .int .i64 a1, .int .i64 a2]] w' fun e w'' => e = .returned (.agg #[.int .i64 pf, .int .i64 pb, .int .i64 pg]) ∧ Below w'.heap.size w' w''))
    (HR : ∀ f : Int, 0 ≤ f → f ≤ 255 → Hid (C.right pf pb f = true)) :
    Calls Tryd.prog 7 #[.agg #[.int .i64 a0, .int .i64 a1, .int .i64 a2], .slice A n c] w fun e w' => e = .returned (.bool true) ∧ Below w.heap.size w w' := by
  obtain ⟨i0, hi, hz0, hz1, hz2⟩ := parts_of_info info_i64
  have hn0 := Nat.le_trans hA.le hA.cap
  unfold maxLen at hn0
  have HA := hide hA
  have HSP := hide hs
  have HRR := hide HR
  clear hA hs HR
  go_enter Tryd.func7, Tryd.ntmps7
  go_wp2_with fail
  refine (PC.out _).mono ?_
  rintro e w1 ⟨rfl, bb⟩
  have bel1 : Below w.heap.size w w1 := ((Below.refl _ _).alloc (Nat.le_refl _) _).trans (bb.mono (by simp))
  have sz1 := bel1.size
  clear bb
  go_wp2_with fail
  go_loopw [7, 8, 9] (fun v a i wr => ∃ k : Nat, k ≤ n ∧ k ≤ 8 ∧ i = .int .i64 k ∧ wr.ownsRow w.heap.size 3 1 v k (i64s ((l.take k).map flagOf)) ∧ a = .int .i64 (C.ors 0 ((l.take k).map flagOf)) ∧
      Box wr w1.heap.size 26 #[.int .i64 pf, .int .i64 pb, .int .i64 pg] ∧ Box wr (w1.heap.size + 1) 26 #[.int .i64 pf, .int .i64 pb, .int .i64 0] ∧ Below w.heap.size w wr)
    (fun _ _ i _ => 8 - (intOf i).toNat)
  case atStart => exact ⟨0, Nat.zero_le _, by omega, rfl, World.ownsRow_nil _ _ _ _, rfl, (Box.new w1 _ _).alloc _, Box.fresh (by simp), (bel1.alloc sz1 _).alloc (by simp; omega) _⟩
  case round =>
    obtain ⟨k, hk, hk8, rfl, hown, rfl, hp, hq, b0⟩ := hrel
    by_cases hlt : k < n ∧ k < 8
    · obtain ⟨hlt, hlt8⟩ := hlt
      obtain ⟨ad, u, rfl, _, hu, hc⟩ := (HA.out.seen.below b0).at_ hlt
      rw [List.getElem?_map] at hu
      obtain ⟨x, hx, rfl⟩ := Option.map_eq_some_iff.1 hu
      have hxr := bounds_i64 (HA.out.wf x (List.mem_of_getElem? hx))
      have hs : (l.take (k + 1)).map flagOf = (l.take k).map flagOf ++ [flagOf x] := by rw [List.take_add_one, hx]; simp
      have hfc := flagOf_cases x
      generalize flagOf x = f at hs hfc
      rcases hfc with ⟨hd, rfl⟩ | ⟨hd, rfl⟩ | ⟨hd, rfl⟩ | ⟨hd, rfl⟩ | ⟨hd, rfl⟩ | ⟨hd, rfl⟩ | ⟨hd, rfl⟩ | ⟨hd, rfl⟩
      · have cw := fun w' => within_is x 0 7 0 (by omega) w' hxr.1 hxr.2 (by omega) (by omega) (by omega)
        have CW := hide cw
        have HS := hide hs
        generalize hal : C.ors 0 ((l.take k).map flagOf) = al
        have HAL := hide hal
        clear hal
        clear hu hx hs cw hd hxr
        go_wp2_with (first
          | (go_at_call 18; go_must (refine (CW.out _).mono ?_); rintro e w' ⟨rfl, rfl⟩)
          | (at_builtin; go_must (refine wpList_app1 rfl (.tmp 37) (.tmp 39) 33 rfl w.heap.size 3 i0 _ 8 Tryd.underlying33 hi hz0 hz1 hz2 rfl u7 k _ rfl hown _ _ _ rfl rfl rfl (by omega) (by omega) b0.size ?_); intro v' w1 hown1 hg1 hm1))
        go_roundw
        case rel =>
            have hne1 := hp.notOwn hown (by decide)
            have hne2 := hq.notOwn hown (by decide)
            refine ⟨k + 1, by omega, by omega, by go_num, ?_, ?_, hp.grown hg1 hne1, hq.grown hg1 hne2, b0.grown hg1 b0.size (fun g hg => (hown.lt g hg).1)⟩
            · rw [HS.out]
              simpa [i64s] using hown1
            · rw [HS.out, C.ors_snoc, HAL.out]
        case measure => simp [intOf]; omega
      · have cw := fun w' => within_is x 0 7 1 (by omega) w' hxr.1 hxr.2 (by omega) (by omega) (by omega)
        have CW := hide cw
        have HS := hide hs
        generalize hal : C.ors 0 ((l.take k).map flagOf) = al
        have HAL := hide hal
        clear hal
        clear hu hx hs cw hd hxr
        go_wp2_with (first
          | (go_at_call 18; go_must (refine (CW.out _).mono ?_); rintro e w' ⟨rfl, rfl⟩)
          | (at_builtin; go_must (refine wpList_app1 rfl (.tmp 37) (.tmp 39) 33 rfl w.heap.size 3 i0 _ 8 Tryd.underlying33 hi hz0 hz1 hz2 rfl u7 k _ rfl hown _ _ _ rfl rfl rfl (by omega) (by omega) b0.size ?_); intro v' w1 hown1 hg1 hm1))
        go_roundw
        case rel =>
            have hne1 := hp.notOwn hown (by decide)
            have hne2 := hq.notOwn hown (by decide)
            refine ⟨k + 1, by omega, by omega, by go_num, ?_, ?_, hp.grown hg1 hne1, hq.grown hg1 hne2, b0.grown hg1 b0.size (fun g hg => (hown.lt g hg).1)⟩
            · rw [HS.out]
              simpa [i64s] using hown1
            · rw [HS.out, C.ors_snoc, HAL.out]
        case measure => simp [intOf]; omega
      · have cw := fun w' => within_is x 0 7 2 (by omega) w' hxr.1 hxr.2 (by omega) (by omega) (by omega)
        have CW := hide cw
        have HS := hide hs
        generalize hal : C.ors 0 ((l.take k).map flagOf) = al
        have HAL := hide hal
        clear hal
        clear hu hx hs cw hd hxr
        go_wp2_with (first
          | (go_at_call 18; go_must (refine (CW.out _).mono ?_); rintro e w' ⟨rfl, rfl⟩)
          | (at_builtin; go_must (refine wpList_app1 rfl (.tmp 37) (.tmp 39) 33 rfl w.heap.size 3 i0 _ 8 Tryd.underlying33 hi hz0 hz1 hz2 rfl u7 k _ rfl hown _ _ _ rfl rfl rfl (by omega) (by omega) b0.size ?_); intro v' w1 hown1 hg1 hm1))
        go_roundw
        case rel =>
            have hne1 := hp.notOwn hown (by decide)
            have hne2 := hq.notOwn hown (by decide)
            refine ⟨k + 1, by omega, by omega, by go_num, ?_, ?_, hp.grown hg1 hne1, hq.grown hg1 hne2, b0.grown hg1 b0.size (fun g hg => (hown.lt g hg).1)⟩
            · rw [HS.out]
              simpa [i64s] using hown1
            · rw [HS.out, C.ors_snoc, HAL.out]
        case measure => simp [intOf]; omega
      · have cw := fun w' => within_is x 0 7 3 (by omega) w' hxr.1 hxr.2 (by omega) (by omega) (by omega)
        have CW := hide cw
        have HS := hide hs
        generalize hal : C.ors 0 ((l.take k).map flagOf) = al
        have HAL := hide hal
        clear hal
        clear hu hx hs cw hd hxr
        go_wp2_with (first
          | (go_at_call 18; go_must (refine (CW.out _).mono ?_); rintro e w' ⟨rfl, rfl⟩)
          | (at_builtin; go_must (refine wpList_app1 rfl (.tmp 37) (.tmp 39) 33 rfl w.heap.size 3 i0 _ 8 Tryd.underlying33 hi hz0 hz1 hz2 rfl u7 k _ rfl hown _ _ _ rfl rfl rfl (by omega) (by omega) b0.size ?_); intro v' w1 hown1 hg1 hm1))
        go_roundw
        case rel =>
            have hne1 := hp.notOwn hown (by decide)
            have hne2 := hq.notOwn hown (by decide)
            refine ⟨k + 1, by omega, by omega, by go_num, ?_, ?_, hp.grown hg1 hne1, hq.grown hg1 hne2, b0.grown hg1 b0.size (fun g hg => (hown.lt g hg).1)⟩
            · rw [HS.out]
              simpa [i64s] using hown1
            · rw [HS.out, C.ors_snoc, HAL.out]
        case measure => simp [intOf]; omega
      · have cw := fun w' => within_is x 0 7 4 (by omega) w' hxr.1 hxr.2 (by omega) (by omega) (by omega)
        have CW := hide cw
        have HS := hide hs
        generalize hal : C.ors 0 ((l.take k).map flagOf) = al
        have HAL := hide hal
        clear hal
        clear hu hx hs cw hd hxr
        go_wp2_with (first
          | (go_at_call 18; go_must (refine (CW.out _).mono ?_); rintro e w' ⟨rfl, rfl⟩)
          | (at_builtin; go_must (refine wpList_app1 rfl (.tmp 37) (.tmp 39) 33 rfl w.heap.size 3 i0 _ 8 Tryd.underlying33 hi hz0 hz1 hz2 rfl u7 k _ rfl hown _ _ _ rfl rfl rfl (by omega) (by omega) b0.size ?_); intro v' w1 hown1 hg1 hm1))
        go_roundw
        case rel =>
            have hne1 := hp.notOwn hown (by decide)
            have hne2 := hq.notOwn hown (by decide)
            refine ⟨k + 1, by omega, by omega, by go_num, ?_, ?_, hp.grown hg1 hne1, hq.grown hg1 hne2, b0.grown hg1 b0.size (fun g hg => (hown.lt g hg).1)⟩
            · rw [HS.out]
              simpa [i64s] using hown1
            · rw [HS.out, C.ors_snoc, HAL.out]
        case measure => simp [intOf]; omega
      · have cw := fun w' => within_is x 0 7 5 (by omega) w' hxr.1 hxr.2 (by omega) (by omega) (by omega)
        have CW := hide cw
        have HS := hide hs
        generalize hal : C.ors 0 ((l.take k).map flagOf) = al
        have HAL := hide hal
        clear hal
        clear hu hx hs cw hd hxr
        go_wp2_with (first
          | (go_at_call 18; go_must (refine (CW.out _).mono ?_); rintro e w' ⟨rfl, rfl⟩)
          | (at_builtin; go_must (refine wpList_app1 rfl (.tmp 37) (.tmp 39) 33 rfl w.heap.size 3 i0 _ 8 Tryd.underlying33 hi hz0 hz1 hz2 rfl u7 k _ rfl hown _ _ _ rfl rfl rfl (by omega) (by omega) b0.size ?_); intro v' w1 hown1 hg1 hm1))
        go_roundw
        case rel =>
            have hne1 := hp.notOwn hown (by decide)
            have hne2 := hq.notOwn hown (by decide)
            refine ⟨k + 1, by omega, by omega, by go_num, ?_, ?_, hp.grown hg1 hne1, hq.grown hg1 hne2, b0.grown hg1 b0.size (fun g hg => (hown.lt g hg).1)⟩
            · rw [HS.out]
              simpa [i64s] using hown1
            · rw [HS.out, C.ors_snoc, HAL.out]
        case measure => simp [intOf]; omega
      · have cw := fun w' => within_is x 0 7 6 (by omega) w' hxr.1 hxr.2 (by omega) (by omega) (by omega)
        have CW := hide cw
        have HS := hide hs
        generalize hal : C.ors 0 ((l.take k).map flagOf) = al
        have HAL := hide hal
        clear hal
        clear hu hx hs cw hd hxr
        go_wp2_with (first
          | (go_at_call 18; go_must (refine (CW.out _).mono ?_); rintro e w' ⟨rfl, rfl⟩)
          | (at_builtin; go_must (refine wpList_app1 rfl (.tmp 37) (.tmp 39) 33 rfl w.heap.size 3 i0 _ 8 Tryd.underlying33 hi hz0 hz1 hz2 rfl u7 k _ rfl hown _ _ _ rfl rfl rfl (by omega) (by omega) b0.size ?_); intro v' w1 hown1 hg1 hm1))
        go_roundw
        case rel =>
            have hne1 := hp.notOwn hown (by decide)
            have hne2 := hq.notOwn hown (by decide)
            refine ⟨k + 1, by omega, by omega, by go_num, ?_, ?_, hp.grown hg1 hne1, hq.grown hg1 hne2, b0.grown hg1 b0.size (fun g hg => (hown.lt g hg).1)⟩
            · rw [HS.out]
              simpa [i64s] using hown1
            · rw [HS.out, C.ors_snoc, HAL.out]
        case measure => simp [intOf]; omega
      · have cw := fun w' => within_is x 0 7 7 (by omega) w' hxr.1 hxr.2 (by omega) (by omega) (by omega)
        have CW := hide cw
        have HS := hide hs
        generalize hal : C.ors 0 ((l.take k).map flagOf) = al
        have HAL := hide hal
        clear hal
        clear hu hx hs cw hd hxr
        go_wp2_with (first
          | (go_at_call 18; go_must (refine (CW.out _).mono ?_); rintro e w' ⟨rfl, rfl⟩)
          | (at_builtin; go_must (refine wpList_app1 rfl (.tmp 37) (.tmp 39) 33 rfl w.heap.size 3 i0 _ 8 Tryd.underlying33 hi hz0 hz1 hz2 rfl u7 k _ rfl hown _ _ _ rfl rfl rfl (by omega) (by omega) b0.size ?_); intro v' w1 hown1 hg1 hm1))
        go_roundw
        case rel =>
            have hne1 := hp.notOwn hown (by decide)
            have hne2 := hq.notOwn hown (by decide)
            refine ⟨k + 1, by omega, by omega, by go_num, ?_, ?_, hp.grown hg1 hne1, hq.grown hg1 hne2, b0.grown hg1 b0.size (fun g hg => (hown.lt g hg).1)⟩
            · rw [HS.out]
              simpa [i64s] using hown1
            · rw [HS.out, C.ors_snoc, HAL.out]
        case measure => simp [intOf]; omega
    · have hL : ((l.take k).map flagOf).length = k := by have := HA.out.len; simp; omega
      have hTW := ors_twice (l.take k)
      have hEL : ∀ f ∈ (l.take k).map flagOf, 1 ≤ f ∧ f ≤ 128 ∧ C.ors 0 [f] = f := by
        intro f hf
        obtain ⟨x, _, rfl⟩ := List.mem_map.1 hf
        have := flagOf_bd x
        exact ⟨this.1, this.2, ors_one x⟩
      obtain ⟨Ao, co, rfl, hco, _, _⟩ := own_form hown
      have hS := Seen.of_own hown
      unfold i64s at hS
      generalize (l.take k).map flagOf = L at hL hTW hEL hS
      generalize hal : C.ors 0 L = al at hTW
      have HAL := hide hal
      have HTW := hide hTW
      have HEL := hide hEL
      have HS := hide hS
      have HL := hide hL
      clear hown hal hTW hEL hS hL
      have hno : ¬ (k < n ∧ k < 8) := hlt
      have hR0 := HRR.out 0 (by omega) (by omega)
      have HN0 : Hid (C.pack pf pb 0 = C.num pf pb 0) := hide (C.pack_right hR0.out)
      have hNb := C.num_bd hR0.out
      have hNf : ∀ f : Int, C.num pf pb f = C.num pf pb 0 + f := by intro f; unfold C.num; omega
      have HNF := hide hNf
      generalize C.num pf pb 0 = N at HN0 hNb HNF
      obtain ⟨n0, n1⟩ := hNb
      clear hNf
      obtain ⟨q0, q1, q2, _, _, _⟩ := hq.three
      have hk' : (k < n ∧ ¬ (k < 8)) ∨ ¬ (k < n) := by omega
      clear hno hlt
      rcases hk' with ⟨hk', hk''⟩ | hk'
      all_goals
        go_wp2_with fail
        refine (with_is pf pb 0 al Ao k co wr.heap.size L _ HAL.out (Nat.le_refl _) HS.out (by omega)).mono ?_
        rintro e w3 ⟨rfl, bb⟩
        have i3 : InReg wr w3 := bb
        clear bb q0 q1 q2
        have i3' := i3.alloc (.cells #[.int .i64 pf, .int .i64 pb, .int .i64 al] 26)
        have hr3 := Box.new w3 26 #[.int .i64 pf, .int .i64 pb, .int .i64 al]
        obtain ⟨q0, q1, q2, _, _, _⟩ := (i3'.box hq).three
        go_wp2_with fail
        refine (pack_is pf pb 0 N HN0.out _).mono ?_
        rintro e w4 ⟨rfl, bb⟩
        have i4 := i3'.call bb
        have hr4 := hr3.below bb hr3.lt
        clear bb q0 q1 q2 hr3 i3 i3'
        have hq4 := i4.box hq
        have hp4 := i4.box hp
        have bel4 := b0.trans (Below.mono i4 b0.size)
        have HS4 := hide (HS.out.below i4)
        have l4 := i4.size
        clear i4 hq hp HS b0
        go_wp2_with fail
        go_loopw [51] (fun i wx => ∃ j : Nat, j ≤ k ∧ i = .int .i64 j ∧ InReg w4 wx) (fun i _ => k - (intOf i).toNat)
        case atStart => exact ⟨0, Nat.zero_le _, rfl, InReg.refl _⟩
        case round =>
          obtain ⟨j, hj, rfl, ix⟩ := hrel
          by_cases hlt2 : j < k
          · obtain ⟨ad, u, rfl, _, hu, hc⟩ := ((HS4.out.more l4).below ix).at_ hlt2
            rw [List.getElem?_map] at hu
            obtain ⟨f, hf, rfl⟩ := Option.map_eq_some_iff.1 hu
            obtain ⟨f0, f1, fo⟩ := HEL.out f (List.mem_of_getElem? hf)
            have HFO := hide fo
            have hRf := HRR.out f (by omega) (by omega)
            have HM := hide ((C.pack_right hRf.out).trans (HNF.out f))
            clear hu hf fo hRf
            obtain ⟨q0, q1, q2, _, _, _⟩ := (ix.box hq4).three
            go_wp2_with fail
            have ix1 := ix.alloc (.cells #[.int .i64 f] 3)
            have hsn : Seen (wr.alloc (.cells #[.int .i64 f] 3)) (wr.heap.size + 1) (some ⟨wr.heap.size, 0, none⟩) 1 ([f].map (Value.int .i64)) := Seen.of_box (Box.new wr _ _) rfl rfl (Nat.lt_succ_self _)
            have hwc := with_is pf pb 0 f (some ⟨wr.heap.size, 0, none⟩) 1 1 (wr.heap.size + 1) [f] (wr.alloc (.cells #[.int .i64 f] 3)) HFO.out (by simp) hsn (by omega)
            clear hsn
            (with_reducible refine hwc.mono ?_)
            rintro e w5 ⟨rfl, bb⟩
            have ix2 := ix1.call bb
            clear bb ix1 q0 q1 q2
            go_wp2_with fail
            refine (pack_is pf pb f (N + f) HM.out _).mono ?_
            rintro e w6 ⟨rfl, bb⟩
            have ix3 := ix2.call bb
            have m1 : N < N + f := by omega
            have m2 : N + f - N = f := by omega
            clear bb ix2
            go_wp2_with fail
            go_roundw
            case rel => exact ⟨j + 1, by omega, by go_num, ix3⟩
            case measure => simp [intOf]; omega
          · obtain rfl : j = k := by omega
            go_wp2_with fail
            have hrx := ix.box hr4
            have hpx := ix.box hp4
            have HSX := hide (((HS4.out.more l4).below ix).more ix.size)
            have belx := hide (bel4.trans (Below.mono ix bel4.size))
            have Rr0 : ∀ w', InReg wr w' → w'.cell? ⟨w3.heap.size, 0, none⟩ = some (.int .i64 pf) := fun w' h => (h.cell hrx.lt).trans (hrx.cell 0)
            have Rr1 : ∀ w', InReg wr w' → w'.cell? ⟨w3.heap.size, 1, none⟩ = some (.int .i64 pb) := fun w' h => (h.cell hrx.lt).trans (hrx.cell 1)
            have Rr2 : ∀ w', InReg wr w' → w'.cell? ⟨w3.heap.size, 2, none⟩ = some (.int .i64 al) := fun w' h => (h.cell hrx.lt).trans (hrx.cell 2)
            have Rp0 : ∀ w', InReg wr w' → w'.cell? ⟨w1.heap.size, 0, none⟩ = some (.int .i64 pf) := fun w' h => (h.cell hpx.lt).trans (hpx.cell 0)
            have Rp1 : ∀ w', InReg wr w' → w'.cell? ⟨w1.heap.size, 1, none⟩ = some (.int .i64 pb) := fun w' h => (h.cell hpx.lt).trans (hpx.cell 1)
            have Rp2 : ∀ w', InReg wr w' → w'.cell? ⟨w1.heap.size, 2, none⟩ = some (.int .i64 pg) := fun w' h => (h.cell hpx.lt).trans (hpx.cell 2)
            have hd : InReg wr wr.drew := (InReg.refl _).drew
            have ep := eql_pen
            have fk := cell_kind
            have fp := cell_pen
            clear hrx hpx hr4 hp4 hq4 HS4 bel4 ix l4 bel1 sz1 hi hz0 hz1 hz2
            go_region_held3 (fun w' => InReg wr w')
              (first | with_reducible exact hd | with_reducible exact hX.out)
              (first | (go_at_call_of 15 (Value.agg #[Value.int IntKind.i64 pf, Value.int IntKind.i64 pb, Value.int IntKind.i64 pg]); refine (with_is pf pb pg pg none 0 0 0 [] _ rfl (Nat.zero_le _) (Seen.nil_ _ _ _) ?_).mono ?_; omega; rintro e wA ⟨rfl, bb⟩; have hX := Lib.hid (InReg.call (by assumption) bb)) | (go_at_call_of 15 (Value.agg #[Value.int IntKind.i64 pf, Value.int IntKind.i64 pb, Value.int IntKind.i64 al]); refine (with_is pf pb al al Ao _ co wr.heap.size L _ HTW.out (InReg.size (by assumption)) (HSX.out.below (show InReg wr _ from by assumption)) ?_).mono ?_; omega; rintro e wA ⟨rfl, bb⟩; have hX := Lib.hid (InReg.call (by assumption) bb)) | (go_at_call 12; refine (blank_any pf pb al _).mono ?_; rintro e wA ⟨rfl, bb⟩; have hX := Lib.hid (InReg.call (by assumption) bb)) | (go_at_call 3; refine (cellRuns_any _ (HSP.out.below (belx.out.trans (Below.mono (show InReg wr _ from by assumption) belx.out.size)) HSP.out.lt)).mono ?_; rintro e wA ⟨rfl, bb⟩; have hX := Lib.hid (InReg.call (by assumption) bb)))
            all_goals
              go_wp2_with fail
              go_ret
              exact ⟨rfl, belx.out.trans (Below.mono (show InReg wr _ from by assumption) belx.out.size)⟩
theorem cellFlags_any (a0 a1 a2 : Int) (A : Option Addr) (n c : Nat) (l : List Int) (w : World) (wa0 : (Lit.int .i64 a0).wf = true) (wa1 : (Lit.int .i64 a1).wf = true) (wa2 : (Lit.int .i64 a2).wf = true) (hA : Arg .i64 w A n c l) (hs : Spans w) :
    Calls Tryd.prog 7 #[.agg #[.int .i64 a0, .int .i64 a1, .int .i64 a2], .slice A n c] w fun e w' => e = .returned (.bool true) ∧ Below w.heap.size w w' := by
  obtain ⟨a00, a01⟩ := bounds_i64 wa0
  obtain ⟨a10, a11⟩ := bounds_i64 wa1
  obtain ⟨a20, a21⟩ := bounds_i64 wa2
  have PC := fun w' => keepPen_is a0 a1 a2 _ _ _ rfl rfl rfl w' a00 a01 a10 a11 a20 a21
  exact cellFlags_t a0 a1 a2 _ _ _ A n c l w hA hs (hide PC) (fun f h0 h1 => hide (C.right_iff.2 ⟨C.kcol_col _, C.kcol_col _, h0, h1⟩))
end Go.Proofs.YtcadaeidcdnldaaDoor
