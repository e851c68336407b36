/- linguistbook's Roomy and Intact, of ints: room6 behind a list, and that it is untouched. -/
import Derived.Test.YtnjkongbccblaaaDoorInfoInt
import Derived.Test.YtnjkongbccblaaaDoorSame64
import Derived.Laws.CopyOwn
set_option maxRecDepth 100000
namespace Go.Proofs.YtnjkongbccblaaaDoor
open Go.RowKit
set_option linter.unusedVariables false
def j64s (l : List Int) : List Value := l.map (Value.int .i64)
theorem j64s_one (l : List Int) : ∀ u ∈ j64s l, u.oneCell' = true := ints_one _ _
theorem j64s_len (l : List Int) : (j64s l).length = l.length := by simp [j64s]
theorem same64_is (l : List Int) (A A' : Option Addr) (B B' n c m c' : Nat) (w : World) (hx : Seen w B A n (j64s l)) (hy : Seen w B' A' m (j64s l)) (hn : n ≤ 1099511627776) :
    Calls Tryd.prog 10 #[.slice A n c, .slice A' m c'] w fun e w' => e = .returned (.bool true) ∧ Below w.heap.size w w' :=
  (same_i64 l A A' B B' n c m c' w hx hy hn).mono fun e w' ⟨h, q, hq⟩ => ⟨h, by subst hq; exact ⟨rfl, rfl, rfl, Nat.le_refl _, fun _ _ => rfl⟩⟩
theorem own_box6 {w : World} {base n g : Nat} {e : TypeId} {xs : List Value} (h : w.ownsRow base e 1 (.slice (some ⟨g, 0, none⟩) n n) n xs) : Box w g e xs.toArray ∧ base ≤ g := by
  rcases h.2 with ⟨h', _⟩ | ⟨g', cap, cur, h', hb, hg, _, _, hcs, ht⟩
  · simp at h'
  · simp only [Value.slice.injEq, Option.some.injEq, Addr.mk.injEq, and_true, true_and] at h'
    obtain ⟨rfl, rfl⟩ := h'
    rw [Nat.mul_one, List.take_of_length_le (by simp [hcs])] at ht
    subst ht
    exact ⟨by simpa [Box] using hg, hb⟩
/-- the room6's cells when k of them are written -/
def room6 (l : List Int) (m : Int) (k : Nat) : List Value := j64s l ++ (List.replicate k (.int .i64 m) ++ List.replicate (80 - k) (.int .i64 0))
theorem room6_len (l : List Int) (m : Int) (k : Nat) (hk : k ≤ 80) : (room6 l m k).length = l.length + 80 := by simp [room6, j64s]; omega
theorem room6_set (l : List Int) (m : Int) (k : Nat) (hk : k < 80) : (room6 l m k).toArray.setIfInBounds (l.length + k) (.int .i64 m) = (room6 l m (k + 1)).toArray := by
  have e : 80 - k = (80 - (k + 1)) + 1 := by omega
  simp only [room6, List.setIfInBounds_toArray]
  congr 1
  rw [List.set_append, if_neg (by simp [j64s]), j64s_len, Nat.add_sub_cancel_left, List.set_append, if_neg (by simp), List.length_replicate, Nat.sub_self, e, List.replicate_succ (n := 80 - (k + 1)), List.set_cons_zero, List.replicate_succ' (n := k), List.append_assoc]
  rfl
set_option maxHeartbeats 1000000 in
theorem roomy6_any (A : Option Addr) (n c : Nat) (l : List Int) (m : Int) (w : World) (hA : Seen w w.heap.size A n (j64s l)) (hn : n ≤ 1048576) :
    Calls Tryd.prog 14 #[.slice A n c, .int .i64 m] w (Gives w (fun v => v) (n + 80) (j64s l ++ List.replicate 80 (.int .i64 m))) := by
  obtain ⟨i0, hi, hz0, hz1, hz2⟩ := info_parts info_int9
  have hlen : l.length = n := by simpa [j64s] using hA.1
  have HA := hide hA
  have HN := hide hlen
  clear hA hlen
  go_enter Tryd.func14, Tryd.ntmps14
  have hsz64 : (Tryd.prog.info? 3).map (·.size) = some 1 := by rw [hi]; simp [hz1]
  have HSZ := hide hsz64
  clear hsz64
  go_wp2_with (first
    | (at_make; go_must (refine wpList_make_full _ rfl (.tmp 9) (.tmp 9) 27 rfl w.heap.size 3 i0 _ 1 Tryd.underlying27 hi hz0 hz1 .i64 .i64 _ _ (n + 80) rfl rfl (by omega) (by omega) (by rw [hz2]; omega) (by simp only [maxLen]; omega) (Nat.le_refl _) ?_); intro w1 hown1 hg1; have hb1 : Box w1 w.heap.size 3 (List.replicate (n + 80) (.int .i64 0)).toArray := by
        have := (own_box6 hown1).1
        rwa [show (Value.int .i64 0).cells = #[Value.int .i64 0] from rfl, toList_madeCells_one, Nat.mul_one] at this)
    | (refine wpList_copy_splice (o := ⟨some 13, _, _, _, _, _⟩) rfl (.tmp 11) (.tmp 12) 27 27 rfl 3 Tryd.underlying27 HSZ.out (some ⟨w.heap.size, 0, none⟩) A (n + 80) (n + 80) n c rfl rfl w.heap.size 0 (List.replicate (n + 80) (.int .i64 0)) 3 hb1 (j64s l) (by rw [j64s_len, HN.out]; simp) ?hpos (by rw [j64s_len, HN.out]; simp) (j64s_one l) w.heap.size w (below_of_grown hg1 (Nat.le_refl _) (fun g h => by cases h)) (Nat.le_refl _) ?_; rotate_right; intro w2 HG2 hB2))
  case hpos =>
    intro h0
    rw [j64s_len, HN.out] at h0
    try refine ⟨rfl, ?_⟩
    obtain ⟨ad, _, e, _⟩ := HA.out.at_ h0
    refine ⟨ad, e, fun j v hv => ?_⟩
    obtain ⟨ad', e', hb, hc⟩ := HA.out.2 j v hv
    rw [e] at e'
    obtain rfl := Option.some.inj e'
    rw [World.cell?_of_block (w := w) (hg1.block _ (by rw [addBlock]; exact hb) (by simp))]
    exact hc
  have hb2 : Box w2 w.heap.size 3 (room6 l m 0).toArray := by
    have h2 := HG2.out
    unfold Box
    rw [h2, splice, room6, j64s_len, HN.out]
    simp
  clear HG2 hb1 hown1 hg1
  go_wp2
  go_loopw [6] (fun i wr => ∃ k : Nat, k ≤ 80 ∧ i = .int .i64 ((n + k : Nat) : Int) ∧ Box wr w.heap.size 3 (room6 l m k).toArray ∧ Below w.heap.size w wr) (fun i _ => n + 80 - (intOf i).toNat)
  case atStart => exact ⟨0, Nat.zero_le _, rfl, hb2, hB2⟩
  case round =>
    obtain ⟨k, hk, rfl, hb, b0⟩ := hrel
    by_cases hlt : k < 80
    · have hc : wr.cell? ⟨w.heap.size, n + k, none⟩ = (room6 l m k).toArray[n + k]? := hb.cell (n + k)
      have hf := hb.frozen (n + k)
      have hl := room6_len l m k hk
      have HN2 := HN.out
      obtain ⟨u, hu⟩ : ∃ u, (room6 l m k).toArray[n + k]? = some u := ⟨_, Array.getElem?_eq_getElem (by rw [List.size_toArray, hl]; omega)⟩
      rw [hu] at hc
      have hset := hb.set (n + k) (.int .i64 m)
      rw [← HN2, room6_set l m k hlt, HN2] at hset
      have HS := hide hset
      clear hu hl hset HN2
      go_wp2
      go_roundw
      case rel => exact ⟨k + 1, by omega, by go_num, HS.out, b0.setCell (Nat.le_refl _) _⟩
      case measure => simp [intOf]; omega
    · obtain rfl : k = 80 := by omega
      go_wp2
      go_ret
      refine ⟨_, _, rfl, Nat.le_refl _, ?_, b0⟩
      exact Seen.of_box hb (by simp [room6]) (by rw [List.length_append, j64s_len, HN.out, List.length_replicate]) (by have := hb.lt; omega)
set_option maxHeartbeats 1000000 in
theorem intact6_any (A A' : Option Addr) (B B' n c c' : Nat) (l : List Int) (m : Int) (w : World) (hA : Seen w B A (n + 80) (j64s l ++ List.replicate 80 (.int .i64 m))) (hA' : Seen w B' A' n (j64s l)) (hc : n + 80 ≤ c) (hn : n ≤ 1048576) :
    Calls Tryd.prog 17 #[.slice A (n + 80) c, .slice A' n c', .int .i64 m] w fun e w' => e = .returned (.bool true) ∧ Below w.heap.size w w' := by
  have hlen : l.length = n := by simpa [j64s] using hA'.1
  have hA1 := hA.take (k := n) (by omega)
  rw [List.take_left' (by rw [j64s_len, hlen])] at hA1
  have HA := hide hA
  have HA1 := hide hA1
  have HA' := hide hA'
  have HN := hide hlen
  have hc1 : n ≤ c := by omega
  clear hA hA' hA1 hlen
  go_enter Tryd.func17, Tryd.ntmps17
  go_wp2_with (go_at_call 10; go_must (refine (same64_is l _ _ B B' _ _ _ _ _ HA1.out HA'.out (by omega)).mono ?_); rintro e w1 ⟨rfl, bb⟩)
  go_loopw [7] (fun i wr => ∃ k : Nat, k ≤ 80 ∧ i = .int .i64 ((n + k : Nat) : Int) ∧ wr = w1) (fun i _ => n + 80 - (intOf i).toNat)
  case atStart => exact ⟨0, Nat.zero_le _, rfl, rfl⟩
  case round =>
    obtain ⟨k, hk, rfl, rfl⟩ := hrel
    by_cases hlt : k < 80
    · obtain ⟨ad, u, rfl, had, hu, hcell⟩ := HA.out.at_ (k := n + k) (by omega)
      rw [List.getElem?_append_right (by rw [j64s_len, HN.out]; omega), List.getElem?_replicate] at hu
      split at hu
      · obtain rfl := Option.some.inj hu
        have hcell1 : wr.cell? (ad.add (n + k)) = some (.int .i64 m) := by
          rw [← hcell]
          exact World.cell?_of_block (w := w) (bb.block _ (World.block_lt_of_cell? w _ hcell))
        clear hu hcell
        go_wp2
        go_roundw
        case rel => exact ⟨k + 1, by omega, by go_num, by first | rfl | trivial⟩
        case measure => simp [intOf]; omega
      · cases hu
    · obtain rfl : k = 80 := by omega
      go_wp2
      go_ret
      exact ⟨rfl, bb⟩
end Go.Proofs.YtnjkongbccblaaaDoor
