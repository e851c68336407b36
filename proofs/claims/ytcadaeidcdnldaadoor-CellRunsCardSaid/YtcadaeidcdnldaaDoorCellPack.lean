/- Contracts of Pack, Unpack and With. -/
import Derived.Test.YtcadaeidcdnldaaDoorCellSmall
import Derived.Test.YtcadaeidcdnldaaDoorBits
import Derived.Test.YtcadaeidcdnldaaDoorArgs
namespace Go.Proofs.YtcadaeidcdnldaaDoor
open Go.RowKit
set_option linter.unusedVariables false
theorem c_ret {v u : Value} (h : v = u) : Ending.returned v = .returned u := by rw [h]
set_option maxHeartbeats 400000 in
theorem pack_any (f b g : Int) (w : World) : Calls Tryd.prog 9 #[.agg #[.int .i64 f, .int .i64 b, .int .i64 g]] w fun e w' => e = .returned (.int .u64 (C.pack f b g)) ∧ Below w.heap.size w w' := by
  rcases h : C.right f b g with _ | _
  · have c1 := fun w' => right_is f b g _ h w'
    have e := Lib.hid (C.pack_wrong h)
    clear h
    go_enter Tryd.func9, Tryd.ntmps9
    go_wp2_with fail
    refine (c1 _).mono ?_
    rintro e w' ⟨rfl, rfl⟩
    go_wp2_with fail
    go_ret
    exact ⟨c_int e.out.symm, ((Below.refl _ _).alloc (Nat.le_refl _) _).alloc (by simp) _⟩
  · have c1 := fun w' => right_is f b g _ h w'
    obtain ⟨k1, k2, g0, g1⟩ := C.right_iff.1 h
    obtain ⟨f0, f1⟩ := C.col_bd k1
    obtain ⟨b0, b1⟩ := C.col_bd k2
    have e := C.pack_right h
    have j1 := u64_join 8 g ((f + 1) * 256) (by omega) (by omega) g0 (by omega) (by omega)
    have j2 := u64_join 34 (g + (f + 1) * 256) ((b + 1) * 17179869184) (by omega) (by omega) (by omega) (by omega) (by omega)
    have E : Hid (bits .or .u64 (bits .or .u64 g ((f + 1) * 256)) ((b + 1) * 17179869184) = C.pack f b g) := hide (by rw [j1, j2, e]; rfl)
    clear h k1 k2 e j1 j2
    go_enter Tryd.func9, Tryd.ntmps9
    go_wp2_with fail
    refine (c1 _).mono ?_
    rintro e w' ⟨rfl, rfl⟩
    go_wp2_with fail
    go_ret
    exact ⟨c_int E.out, ((Below.refl _ _).alloc (Nat.le_refl _) _).alloc (by simp) _⟩
/-- what Unpack says of a number -/
def unp (n : Int) : Value := if C.right (C.fo n) (C.ba n) (C.fl n) = true then .tuple #[.agg #[.int .i64 (C.fo n), .int .i64 (C.ba n), .int .i64 (C.fl n)], .bool true] else .tuple #[.agg #[.int .i64 0, .int .i64 0, .int .i64 0], .bool false]
set_option maxHeartbeats 400000 in
theorem unpack_any (n : Int) (w : World) (n0 : 0 ≤ n) (n1 : n < 18446744073709551616) : Calls Tryd.prog 17 #[.int .u64 n] w fun e w' => e = .returned (unp n) ∧ Below w.heap.size w w' := by
  have m1 : bits .and .u64 (n / 256) 67108863 = C.fo n + 1 := by
    have := u64_mask 26 (by omega) (n / 256) (by omega) (by omega)
    unfold C.fo
    simp at this
    omega
  have m2 : bits .and .u64 n 255 = C.fl n := by
    have := u64_mask 8 (by omega) n (by omega) (by omega)
    unfold C.fl
    simpa using this
  have m3 : n / 17179869184 = C.ba n + 1 := by unfold C.ba; omega
  have f0 : -1 ≤ C.fo n := by unfold C.fo; omega
  have f1 : C.fo n ≤ 67108863 := by unfold C.fo; omega
  have b0 : -1 ≤ C.ba n := by unfold C.ba; omega
  have b1 : C.ba n ≤ 1073741823 := by unfold C.ba; omega
  have g0 : 0 ≤ C.fl n := by unfold C.fl; omega
  have g1 : C.fl n ≤ 255 := by unfold C.fl; omega
  have hu : unp n = if C.right (C.fo n) (C.ba n) (C.fl n) = true then .tuple #[.agg #[.int .i64 (C.fo n), .int .i64 (C.ba n), .int .i64 (C.fl n)], .bool true] else .tuple #[.agg #[.int .i64 0, .int .i64 0, .int .i64 0], .bool false] := rfl
  generalize C.fo n = f at m1 f0 f1 hu
  generalize C.ba n = b at m3 b0 b1 hu
  generalize C.fl n = g at m2 g0 g1 hu
  rcases h : C.right f b g with _ | _
  · rw [h] at hu
    have E := hide hu
    have c1 := fun w' => right_is f b g _ h w'
    clear h hu
    go_enter Tryd.func17, Tryd.ntmps17
    go_wp2_with fail
    refine (c1 _).mono ?_
    rintro e w' ⟨rfl, rfl⟩
    go_wp2_with fail
    refine bodyPost_ret (v := .tuple #[.agg #[.int .i64 0, .int .i64 0, .int .i64 0], .bool false]) (by simp [results, Tryd.results17, go_sem]) rfl ⟨c_ret (by rw [E.out]; rfl), ?_⟩
    repeat (first | exact Below.refl _ _ | refine Below.setCell ?_ (by first | omega | (simp; done) | (simp; omega)) _ | refine Below.alloc ?_ (by first | omega | (simp; done) | (simp; omega)) _)
  · rw [h] at hu
    have E := hide hu
    have c1 := fun w' => right_is f b g _ h w'
    clear h hu
    go_enter Tryd.func17, Tryd.ntmps17
    go_wp2_with fail
    refine (c1 _).mono ?_
    rintro e w' ⟨rfl, rfl⟩
    go_wp2_with fail
    refine bodyPost_ret (v := .tuple #[.agg #[.int .i64 f, .int .i64 b, .int .i64 g], .bool true]) (by simp [results, Tryd.results17, go_sem]) rfl ⟨c_ret (by rw [E.out]; rfl), ?_⟩
    repeat (first | exact Below.refl _ _ | refine Below.setCell ?_ (by first | omega | (simp; done) | (simp; omega)) _ | refine Below.alloc ?_ (by first | omega | (simp; done) | (simp; omega)) _)
set_option maxHeartbeats 400000 in
theorem with_any (f b g : Int) (A : Option Addr) (n c : Nat) (l : List Int) (w : World) (hA : Seen w w.heap.size A n (l.map (Value.int .i64))) (hn : n ≤ 1099511627776) :
    Calls Tryd.prog 15 #[.agg #[.int .i64 f, .int .i64 b, .int .i64 g], .slice A n c] w fun e w' => e = .returned (.agg #[.int .i64 f, .int .i64 b, .int .i64 (C.ors g l)]) ∧ Below w.heap.size w w' := by
  have hlen : l.length = n := by simpa using hA.1
  have HA := hide hA
  have HL := hide hlen
  clear hA hlen
  go_enter Tryd.func15, Tryd.ntmps15
  go_wp2
  go_loopw [9] (fun i wr => ∃ k : Nat, k ≤ n ∧ i = .int .i64 k ∧ Box wr w.heap.size 26 #[.int .i64 f, .int .i64 b, .int .i64 (C.ors g (l.take k))] ∧ Box wr (w.heap.size + 1) 26 #[.int .i64 0, .int .i64 0, .int .i64 0] ∧ Below w.heap.size w wr)
    (fun i _ => n - (intOf i).toNat)
  case atStart => exact ⟨0, Nat.zero_le _, rfl, (Box.new w _ _).alloc _, by have h := Box.new (w.alloc (.cells #[.int .i64 f, .int .i64 b, .int .i64 g] 26)) 26 #[.int .i64 0, .int .i64 0, .int .i64 0]; rw [World.size_alloc] at h; exact h, ((Below.refl _ _).alloc (Nat.le_refl _) _).alloc (by simp) _⟩
  case round =>
    obtain ⟨k, hk, rfl, hb, hr, hbel⟩ := hrel
    by_cases hlt : k < n
    · obtain ⟨ad, u, rfl, _, hu, hc⟩ := (HA.out.below hbel).at_ hlt
      rw [List.getElem?_map] at hu
      obtain ⟨x, hx, rfl⟩ := Option.map_eq_some_iff.1 hu
      have ho := C.ors_snoc g (l.take k) x
      rw [show l.take k ++ [x] = l.take (k + 1) from by rw [List.take_add_one, hx]; rfl] at ho
      have HO := hide ho
      clear hu hx ho
      generalize C.ors g (l.take k) = z at hb HO
      obtain ⟨k0, k1, k2, k3, k4, k5⟩ := hb.three
      go_wp2
      go_roundw
      case rel =>
        refine ⟨k + 1, by omega, by go_num, ?_, Box.far hr (by simp) _, hbel.setCell (Nat.le_refl _) _⟩
        rw [HO.out]
        exact hb.set 2 _
      case measure => simp [intOf]; omega
    · obtain rfl : k = n := by omega
      rw [List.take_of_length_le (by rw [HL.out]; omega)] at hb
      generalize hz : C.ors g l = z at hb
      have HZ := hide hz
      clear hz
      obtain ⟨k0, k1, k2, k3, k4, k5⟩ := hb.three
      obtain ⟨j0, j1, j2, j3, j4, j5⟩ := hr.three
      go_wp2
      refine bodyPost_ret (v := .agg #[.int .i64 f, .int .i64 b, .int .i64 z]) (by simp [results, Tryd.results15, go_sem, j0, j1, j2]) rfl ⟨c_ret (by rw [HZ.out]), ?_⟩
      repeat (first | exact hbel | refine Below.setCell ?_ (by first | omega | (simp; done) | (simp; omega)) _)
end Go.Proofs.YtcadaeidcdnldaaDoor
