/- The contract of package grid's own New. -/
import Derived.Test.YtfeapcneebofjaaDoorGridClone
set_option maxRecDepth 100000
namespace Go.Proofs.YtfeapcneebofjaaDoor
open Go.RowKit
set_option linter.unusedVariables false
set_option maxHeartbeats 2000000 in
theorem new_any (r c : Int) (R K : Nat) (p : PG.Pn) (w : World) (hr0 : -9223372036854775808 ≤ r) (hr1 : r ≤ 9223372036854775807) (hc0 : -9223372036854775808 ≤ c) (hc1 : c ≤ 9223372036854775807)
    (hR : (R = 1 ∧ r < 1) ∨ ((R : Int) = r ∧ 1 ≤ r ∧ r ≤ 40) ∨ (R = 40 ∧ 40 < r)) (hK : (K = 1 ∧ c < 1) ∨ ((K : Int) = c ∧ 1 ≤ c ∧ c ≤ 60) ∨ (K = 60 ∧ 60 < c)) :
    Calls Tryd.prog 9 #[.int .i64 r, .int .i64 c, pv p] w (MadeG w R K (R * K) (List.replicate (R * K) (PG.blank p))) := by
  obtain ⟨i0, hi, hz0, hz1, hz2⟩ := info_parts info_cell
  have BC : ∀ (p : PG.Pn) (w' : World), Calls Tryd.prog 31 #[.agg #[.int .i64 p.1, .int .i64 p.2.1, .int .i64 p.2.2]] w' fun e w'' => e = .returned (.agg #[.int .i32 32, .int .i64 0, .int .i64 p.1, .int .i64 p.2.1, .int .i64 p.2.2]) ∧ Below w'.heap.size w' w'' := fun p w' => blank_any _ _ _ w'
  have BC := hide BC
  have hR1 : 1 ≤ R ∧ R ≤ 40 := by omega
  have hK1 : 1 ≤ K ∧ K ≤ 60 := by omega
  have eRK : (R : Int) * (K : Int) = ((R * K : Nat) : Int) := by simp
  have hn1 : 1 ≤ R * K := Nat.mul_le_mul hR1.1 hK1.1
  have hn2 : R * K ≤ 2400 := Nat.mul_le_mul hR1.2 hK1.2
  have hby := hide (show i0.bytes * (R * K) ≤ 281474976710656 by rw [hz2]; omega)
  obtain ⟨r1, e1⟩ : ∃ r1, (if r < 1 then (1 : Int) else r) = r1 := ⟨_, rfl⟩
  obtain ⟨c1, e3⟩ : ∃ c1, (if c < 1 then (1 : Int) else c) = c1 := ⟨_, rfl⟩
  have e2 : (if (40 : Int) < r1 then (40 : Int) else r1) = (R : Int) := by rw [← e1]; split <;> split <;> omega
  have e4 : (if (60 : Int) < c1 then (60 : Int) else c1) = (K : Int) := by rw [← e3]; split <;> split <;> omega
  clear hR hK hz2
  generalize R * K = n at *
  unfold MadeG pv gv
  go_enter Tryd.func9, Tryd.ntmps9
  go_wp2_with (
    at_make
    go_must (refine wpList_make_full _ rfl (.tmp 17) (.tmp 17) 24 rfl w.heap.size 32 i0 _ 5 Tryd.underlying24 hi hz0 hz1 .i64 .i64 _ _ n rfl rfl (by omega) (by omega) hby.out (by simp only [maxLen]; omega) (by simp; omega) ?_)
    intro w1 hown1 hg1
    rw [made_cells, World.size_alloc, World.size_alloc] at hown1
    obtain ⟨x0, x1, bb⟩ := boxes2b (below_of_grown hg1 (Nat.le_refl _) (by simp))
    have hown1 := hide hown1
    clear hg1 e1 e2 e3 e4)
  go_loopw [21] (fun i wr => ∃ k : Nat, k ≤ n ∧ i = .int .i64 k ∧ Box wr w.heap.size 23 #[.int .i64 p.1, .int .i64 p.2.1, .int .i64 p.2.2] ∧ Box wr (w.heap.size + 1) 26 #[.int .i64 0, .int .i64 0, .slice none 0 0] ∧
      wr.ownsRow w.heap.size 32 5 (.slice (some ⟨w.heap.size + 1 + 1, 0, none⟩) n n) n (ccells (List.replicate k (PG.blank p) ++ List.replicate (n - k) PG.none)) ∧ Below w.heap.size w wr)
    (fun i _ => n - (intOf i).toNat)
  case atStart => exact ⟨0, Nat.zero_le _, rfl, x0, x1, by rw [List.replicate_zero, List.nil_append, Nat.sub_zero]; exact hown1.out, bb⟩
  case round =>
    clear hown1 bb x0 x1 hby
    obtain ⟨k, hk, rfl, x0, x1, ho, hb⟩ := hrel
    obtain ⟨y0, y1, y2, _⟩ := x0.three
    have l0 := x0.lt
    have l2 : w.heap.size + 1 + 1 < wr.heap.size := (ho.lt _ rfl).2
    have lb : w.heap.size ≤ wr.heap.size := hb.size
    by_cases hlt : k < n
    · have hll : (List.replicate k (PG.blank p) ++ List.replicate (n - k) PG.none).length = n := by simp; omega
      have hck : (List.replicate k (PG.blank p) ++ List.replicate (n - k) PG.none)[k]? = some PG.none := by
        rw [List.getElem?_append_right (by simp), List.length_replicate, Nat.sub_self, List.getElem?_replicate, if_pos (by omega)]
      have FIN : ∀ w3, Below wr.heap.size wr w3 →
          (w3.cell? ⟨w.heap.size + 1 + 1, k * 5, none⟩ = some (.int .i32 (PG.rn PG.none)) ∧ w3.cell? ⟨w.heap.size + 1 + 1, k * 5 + 1, none⟩ = some (.int .i64 (PG.kd PG.none)) ∧ w3.cell? ⟨w.heap.size + 1 + 1, k * 5 + 2, none⟩ = some (.int .i64 (PG.pn PG.none).1) ∧ w3.cell? ⟨w.heap.size + 1 + 1, k * 5 + 3, none⟩ = some (.int .i64 (PG.pn PG.none).2.1) ∧ w3.cell? ⟨w.heap.size + 1 + 1, k * 5 + 4, none⟩ = some (.int .i64 (PG.pn PG.none).2.2) ∧
            w3.frozen? ⟨w.heap.size + 1 + 1, k * 5, none⟩ = false ∧ w3.frozen? ⟨w.heap.size + 1 + 1, k * 5 + 1, none⟩ = false ∧ w3.frozen? ⟨w.heap.size + 1 + 1, k * 5 + 2, none⟩ = false ∧ w3.frozen? ⟨w.heap.size + 1 + 1, k * 5 + 3, none⟩ = false ∧ w3.frozen? ⟨w.heap.size + 1 + 1, k * 5 + 4, none⟩ = false) ∧
          Box (store5 w3 (w.heap.size + 1 + 1) (k * 5) (PG.blank p)) w.heap.size 23 #[.int .i64 p.1, .int .i64 p.2.1, .int .i64 p.2.2] ∧ Box (store5 w3 (w.heap.size + 1 + 1) (k * 5) (PG.blank p)) (w.heap.size + 1) 26 #[.int .i64 0, .int .i64 0, .slice none 0 0] ∧
          (store5 w3 (w.heap.size + 1 + 1) (k * 5) (PG.blank p)).ownsRow w.heap.size 32 5 (.slice (some ⟨w.heap.size + 1 + 1, 0, none⟩) n n) n (ccells (List.replicate (k + 1) (PG.blank p) ++ List.replicate (n - (k + 1)) PG.none)) ∧ Below w.heap.size w (store5 w3 (w.heap.size + 1 + 1) (k * 5) (PG.blank p)) := fun w3 h3 => by
        have o3 := ho.kept (grown_of_below h3 none) (by simp [Value.ownBlock])
        have S := own_store5 o3 (k := k) (PG.blank p) (by omega) hll
        have hs3 := h3.size
        refine ⟨own_five o3 hck, (x0.below h3 x0.lt).grown S.2 (fun e => by injection e with e; omega), (x1.below h3 x1.lt).grown S.2 (fun e => by injection e with e; omega), ?_, (hb.trans (h3.mono lb)).grown S.2 (by omega) (by rintro _ ⟨⟩; omega)⟩
        rw [← blanks_set p hlt]
        exact S.1
      have FIN := hide FIN
      clear ho hck x0 x1 hll
      go_wp2_with (
        go_at_call 31
        go_must (refine (BC.out p _).mono ?_)
        rintro e w3 ⟨rfl, b3⟩
        obtain ⟨⟨v0, v1, v2, v3, v4, f0, f1, f2, f3, f4⟩, G2⟩ := FIN.out _ b3
        have G2 := hide G2
        clear b3 FIN)
      go_roundw
      case rel => exact ⟨k + 1, by omega, by go_num, G2.out⟩
      case measure => simp [intOf]; omega
    · obtain rfl : k = n := by omega
      rw [Nat.sub_self, List.replicate_zero, List.append_nil] at ho
      have n1 := own_ne_box ho x1 (by decide)
      have X := x1.set3 (.int .i64 R) (.int .i64 K) (.slice (some ⟨w.heap.size + 1 + 1, 0, none⟩) k k)
      have O := ownsRow_setCell_other (ownsRow_setCell_other (ownsRow_setCell_other ho (a := ⟨w.heap.size + 1, 0, none⟩) n1 (.int .i64 R)) (a := ⟨w.heap.size + 1, 1, none⟩) n1 (.int .i64 K)) (a := ⟨w.heap.size + 1, 2, none⟩) n1 (.slice (some ⟨w.heap.size + 1 + 1, 0, none⟩) k k)
      have bz := below_set3 hb (show w.heap.size ≤ w.heap.size + 1 by omega) (.int .i64 R) (.int .i64 K) (.slice (some ⟨w.heap.size + 1 + 1, 0, none⟩) k k)
      obtain ⟨j0, j1, j2, _⟩ := X.three
      obtain ⟨q0, q1, q2, q3, q4, q5⟩ := x1.three
      have O := hide O
      have bz := hide bz
      clear ho BC
      go_wp2_with fail
      refine bodyPost_ret (v := .agg #[.int .i64 R, .int .i64 K, .slice (some ⟨w.heap.size + 1 + 1, 0, none⟩) k k]) (by simp [results, Tryd.results9, go_sem, j0, j1, j2]) rfl ⟨_, rfl, O.out, bz.out⟩
end Go.Proofs.YtfeapcneebofjaaDoor
