/- Contracts of Pack, Unpack and With. -/
import Derived.Test.YtnjkongbccblaaaDoorCellSmall
import Derived.Test.YtnjkongbccblaaaDoorBits
import Derived.Test.YtnjkongbccblaaaDoorArgs
namespace Go.Proofs.YtnjkongbccblaaaDoor
open Go.RowKit
set_option linter.unusedVariables false
theorem c_ret {v u : Value} (h : v = u) : Ending.returned v = .returned u := by rw [h]
/-- what Unpack says of a number -/
def unp (n : Int) : Value := if C.right (C.fo n) (C.ba n) (C.fl n) = true then .tuple #[.agg #[.int .i64 (C.fo n), .int .i64 (C.ba n), .int .i64 (C.fl n)], .bool true] else .tuple #[.agg #[.int .i64 0, .int .i64 0, .int .i64 0], .bool false]
set_option maxHeartbeats 400000 in
theorem with_any (f b g : Int) (A : Option Addr) (n c : Nat) (l : List Int) (w : World) (hA : Seen w w.heap.size A n (l.map (Value.int .i64))) (hn : n ≤ 1099511627776) :
    Calls Tryd.prog 26 #[.agg #[.int .i64 f, .int .i64 b, .int .i64 g], .slice A n c] w fun e w' => e = .returned (.agg #[.int .i64 f, .int .i64 b, .int .i64 (C.ors g l)]) ∧ Below w.heap.size w w' := by
  have hlen : l.length = n := by simpa using hA.1
  have HA := hide hA
  have HL := hide hlen
  clear hA hlen
  go_enter Tryd.func26, Tryd.ntmps26
  go_wp2
  go_loopw [9] (fun i wr => ∃ k : Nat, k ≤ n ∧ i = .int .i64 k ∧ Box wr w.heap.size 23 #[.int .i64 f, .int .i64 b, .int .i64 (C.ors g (l.take k))] ∧ Box wr (w.heap.size + 1) 23 #[.int .i64 0, .int .i64 0, .int .i64 0] ∧ Below w.heap.size w wr)
    (fun i _ => n - (intOf i).toNat)
  case atStart => exact ⟨0, Nat.zero_le _, rfl, (Box.new w _ _).alloc _, by have h := Box.new (w.alloc (.cells #[.int .i64 f, .int .i64 b, .int .i64 g] 23)) 23 #[.int .i64 0, .int .i64 0, .int .i64 0]; rw [World.size_alloc] at h; exact h, ((Below.refl _ _).alloc (Nat.le_refl _) _).alloc (by simp) _⟩
  case round =>
    obtain ⟨k, hk, rfl, hb, hr, hbel⟩ := hrel
    by_cases hlt : k < n
    · obtain ⟨ad, u, rfl, _, hu, hc⟩ := (HA.out.below hbel).at_ hlt
      rw [List.getElem?_map] at hu
      obtain ⟨x, hx, rfl⟩ := Option.map_eq_some_iff.1 hu
      have ho := C.ors_snoc g (l.take k) x
      rw [show l.take k ++ [x] = l.take (k + 1) from by rw [List.take_add_one, hx]; rfl] at ho
      have HO := hide ho
      clear hu hx ho
      generalize C.ors g (l.take k) = z at hb HO
      obtain ⟨k0, k1, k2, k3, k4, k5⟩ := hb.three
      go_wp2
      go_roundw
      case rel =>
        refine ⟨k + 1, by omega, by go_num, ?_, Box.far hr (by simp) _, hbel.setCell (Nat.le_refl _) _⟩
        rw [HO.out]
        exact hb.set 2 _
      case measure => simp [intOf]; omega
    · obtain rfl : k = n := by omega
      rw [List.take_of_length_le (by rw [HL.out]; omega)] at hb
      generalize hz : C.ors g l = z at hb
      have HZ := hide hz
      clear hz
      obtain ⟨k0, k1, k2, k3, k4, k5⟩ := hb.three
      obtain ⟨j0, j1, j2, j3, j4, j5⟩ := hr.three
      go_wp2
      refine bodyPost_ret (v := .agg #[.int .i64 f, .int .i64 b, .int .i64 z]) (by simp [results, Tryd.results26, go_sem, j0, j1, j2]) rfl ⟨c_ret (by rw [HZ.out]), ?_⟩
      repeat (first | exact hbel | refine Below.setCell ?_ (by first | omega | (simp; done) | (simp; omega)) _)
end Go.Proofs.YtnjkongbccblaaaDoor
