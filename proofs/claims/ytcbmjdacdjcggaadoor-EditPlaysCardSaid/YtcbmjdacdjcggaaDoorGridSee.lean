/- The contracts of package grid's own At, Same (of the same grids), Text. The contract of package grid's own Text. -/
import Derived.Test.YtcbmjdacdjcggaaDoorGridPure
import Derived.Test.YtcbmjdacdjcggaaDoorGridRune
import Derived.BigQuiet
import Derived.Deep.QuietTactic
set_option maxRecDepth 100000
namespace Go.Proofs.YtcbmjdacdjcggaaDoor
open Go.RowKit
set_option linter.unusedVariables false
/-- what At gives -/
def atv (c : PG.Cl) (b : Bool) : Value := .tuple #[cv c, .bool b]
theorem gat_in (G : PG.Gr) (n cp B r c : Nat) (A : Option Addr) (w : World) (hl : SeenC w B A n (PG.cells G)) (hB : B ≤ w.heap.size) (hn : n = G.rows * G.cols) (hnc : n ≤ cp) (hcp : cp ≤ maxLen) (hr : r < G.rows) (hc : c < G.cols) (g2 : G.rows ≤ 40) (g4 : G.cols ≤ 60) :
    Calls Tryd.prog 27 #[gv G.rows G.cols (.slice A n cp), .int .i64 r, .int .i64 c] w fun e w' => e = .returned (atv (G.f r c) true) ∧ Below w.heap.size w w' := by
  have g3 : 1 ≤ G.cols := by omega
  have hnn : r * G.cols + c < n := by rw [hn]; exact PG.place_lt hr hc
  obtain ⟨c0, hc0'⟩ : ∃ c0, (PG.cells G)[0]? = some c0 := ⟨_, List.getElem?_eq_getElem (by rw [PG.cells_len]; omega)⟩
  obtain ⟨ad, rfl, hadB, _⟩ := hl.at_ hc0'
  clear hc0' hnn
  have RW : ∀ (w' : World), Below w.heap.size w w' → Calls Tryd.prog 31 #[gv G.rows G.cols (.slice (some ad) n cp), .int .i64 r] w' fun e w'' => ∃ ad' c', e = .returned (.slice (some ad') G.cols c') ∧ G.cols ≤ c' ∧ SeenC w'' w.heap.size (some ad') G.cols ((List.range G.cols).map (G.f r)) ∧ Below w'.heap.size w' w'' := fun w' hb => by
    refine (row_any G.rows G.cols r n cp ad w' hn hnc hcp hr g2 g3 g4).mono ?_
    rintro e w'' ⟨⟨c', rfl, h1, h2⟩, bb⟩
    refine ⟨_, _, rfl, h1, ?_, bb⟩
    have h := (row_seen ((hl.below (hb.mono hB)).below (bb.mono (Nat.le_trans hB hb.size))) hn hr g3).more hB
    rw [PG.row_cut hr] at h
    exact h
  have RW := hide RW
  have HC := hide (PG.range_at (f := G.f r) hc)
  clear hl hn hnc hcp
  unfold atv cv
  unfold gv at *
  generalize hF : G.f r c = F at *
  clear hF
  go_enter Tryd.func27, Tryd.ntmps27
  go_wp2_with (
    go_at_call 31
    go_must (refine (RW.out _ (((Below.refl _ _).alloc (Nat.le_refl _) _).alloc (by simp) _)).mono ?_)
    rintro e w1 ⟨ad', c', rfl, hcc, hs, b1⟩
    obtain ⟨ad2, e2, hb2, d0, d1, d2, d3, d4⟩ := hs.five HC.out
    injection e2 with e2
    subst e2
    have bb := (((Below.refl w.heap.size w).alloc (Nat.le_refl _) (.cells #[.int .i64 G.rows, .int .i64 G.cols, .slice (some ad) n cp] 27)).alloc (by simp) (.cells #[.int .i32 0, .int .i64 0, .int .i64 0, .int .i64 0, .int .i64 0] 45)).trans (b1.mono (by simp; omega))
    have x1 := (Box.new (w.alloc (.cells #[.int .i64 G.rows, .int .i64 G.cols, .slice (some ad) n cp] 27)) 45 #[.int .i32 0, .int .i64 0, .int .i64 0, .int .i64 0, .int .i64 0]).below b1 (by simp)
    rw [World.size_alloc] at x1
    have q0 : w1.cell? ⟨w.heap.size + 1, 0, none⟩ = some (.int .i32 0) := x1.cell 0
    have q1 : w1.cell? ⟨w.heap.size + 1, 1, none⟩ = some (.int .i64 0) := x1.cell 1
    have q2 : w1.cell? ⟨w.heap.size + 1, 2, none⟩ = some (.int .i64 0) := x1.cell 2
    have q3 : w1.cell? ⟨w.heap.size + 1, 3, none⟩ = some (.int .i64 0) := x1.cell 3
    have q4 : w1.cell? ⟨w.heap.size + 1, 4, none⟩ = some (.int .i64 0) := x1.cell 4
    have f0 := x1.frozen 0
    have f1 := x1.frozen 1
    have f2 := x1.frozen 2
    have f3 := x1.frozen 3
    have f4 := x1.frozen 4
    have x1 := hide x1
    clear hs b1 RW)
  have X := ((((x1.out.set 0 (.int .i32 (PG.rn F))).set 1 (.int .i64 (PG.kd F))).set 2 (.int .i64 (PG.pn F).1)).set 3 (.int .i64 (PG.pn F).2.1)).set 4 (.int .i64 (PG.pn F).2.2)
  have j0 := X.cell 0
  have j1 := X.cell 1
  have j2 := X.cell 2
  have j3 := X.cell 3
  have j4 := X.cell 4
  refine bodyPost_ret (v := .tuple #[.agg #[.int .i32 (PG.rn F), .int .i64 (PG.kd F), .int .i64 (PG.pn F).1, .int .i64 (PG.pn F).2.1, .int .i64 (PG.pn F).2.2], .bool true]) (by simp [results, Tryd.results27, go_sem, j0, j1, j2, j3, j4]) rfl ⟨rfl, ?_⟩
  exact ((((bb.setCell (by simp) _).setCell (by simp) _).setCell (by simp) _).setCell (by simp) _).setCell (by simp) _
/-- the row, whatever is known of it: its length -/
theorem row_len (R K n cp : Nat) (r : Int) (ad : Addr) (hn : n = R * K) (hnc : n ≤ cp) (hcp : cp ≤ maxLen) (h1 : 1 ≤ R) (hR : R ≤ 40) (h0 : 1 ≤ K) (hK : K ≤ 60) :
    ∃ k : Nat, ((k = 0 ∧ (r < 0 ∨ (R : Int) ≤ r)) ∨ (k = K ∧ 0 ≤ r ∧ r < R)) ∧ ∀ w' : World, Calls Tryd.prog 31 #[gv R K (.slice (some ad) n cp), .int .i64 r] w' fun e w'' => (∃ U c', e = .returned (.slice U k c') ∧ k ≤ c' ∧ c' ≤ maxLen) ∧ Below w'.heap.size w' w'' := by
  by_cases hr : 0 ≤ r ∧ r < R
  · obtain ⟨q, rfl⟩ := Int.eq_ofNat_of_zero_le hr.1
    refine ⟨K, .inr ⟨rfl, hr⟩, fun w' => (row_any R K q n cp ad w' hn hnc hcp (by omega) hR h0 hK).mono ?_⟩
    rintro e w'' ⟨⟨c', he, h1, h2⟩, hb⟩
    exact ⟨⟨_, c', he, h1, h2⟩, hb⟩
  · refine ⟨0, .inl ⟨rfl, by omega⟩, fun w' => (row_out R K n cp r _ w' hn h1 (by omega) hR h0 hK).mono ?_⟩
    rintro e w'' ⟨he, hb⟩
    exact ⟨⟨none, 0, he, Nat.le_refl _, Nat.zero_le _⟩, hb⟩
theorem gat_out (R K n cp : Nat) (r c : Int) (ad : Addr) (w : World) (hn : n = R * K) (hnc : n ≤ cp) (hcp : cp ≤ maxLen) (h1 : 1 ≤ R) (hR : R ≤ 40) (h0 : 1 ≤ K) (hK : K ≤ 60) (ho : r < 0 ∨ (R : Int) ≤ r ∨ c < 0 ∨ (K : Int) ≤ c) :
    Calls Tryd.prog 27 #[gv R K (.slice (some ad) n cp), .int .i64 r, .int .i64 c] w fun e w' => e = .returned (atv PG.none false) ∧ Below w.heap.size w w' := by
  obtain ⟨k, hk, RW⟩ := row_len R K n cp r ad hn hnc hcp h1 hR h0 hK
  have RW := hide RW
  have hcs : c < 0 ∨ (0 ≤ c ∧ (k : Int) ≤ c) := by omega
  have hk60 : k ≤ 60 := by omega
  clear hn hnc hcp hk ho
  show Calls Tryd.prog 27 #[gv R K (.slice (some ad) n cp), .int .i64 r, .int .i64 c] w fun e w' => e = .returned (.tuple #[.agg #[.int .i32 0, .int .i64 0, .int .i64 0, .int .i64 0, .int .i64 0], .bool false]) ∧ Below w.heap.size w w'
  unfold gv at *
  have arm : ∀ w1 : World, Below ((w.alloc (.cells #[.int .i64 R, .int .i64 K, .slice (some ad) n cp] 27)).alloc (.cells #[.int .i32 0, .int .i64 0, .int .i64 0, .int .i64 0, .int .i64 0] 45)).heap.size ((w.alloc (.cells #[.int .i64 R, .int .i64 K, .slice (some ad) n cp] 27)).alloc (.cells #[.int .i32 0, .int .i64 0, .int .i64 0, .int .i64 0, .int .i64 0] 45)) w1 →
      Below w.heap.size w w1 ∧ Box w1 (w.heap.size + 1) 45 #[.int .i32 0, .int .i64 0, .int .i64 0, .int .i64 0, .int .i64 0] := fun w1 b1 => by
    refine ⟨(((Below.refl w.heap.size w).alloc (Nat.le_refl _) (.cells #[.int .i64 R, .int .i64 K, .slice (some ad) n cp] 27)).alloc (by simp) (.cells #[.int .i32 0, .int .i64 0, .int .i64 0, .int .i64 0, .int .i64 0] 45)).trans (b1.mono (by simp; omega)), ?_⟩
    have x1 := (Box.new (w.alloc (.cells #[.int .i64 R, .int .i64 K, .slice (some ad) n cp] 27)) 45 #[.int .i32 0, .int .i64 0, .int .i64 0, .int .i64 0, .int .i64 0]).below b1 (by simp)
    rw [World.size_alloc] at x1
    exact x1
  have arm := hide arm
  rcases hcs with hc | ⟨hc, hc'⟩
  all_goals
    go_enter Tryd.func27, Tryd.ntmps27
    go_wp2_with (
      go_at_call 31
      go_must (refine (RW.out _).mono ?_)
      rintro e w1 ⟨⟨U, c', rfl, hc1, hc2⟩, b1⟩
      obtain ⟨bb, x1⟩ := arm.out _ b1
      have q0 : w1.cell? ⟨w.heap.size + 1, 0, none⟩ = some (.int .i32 0) := x1.cell 0
      have q1 : w1.cell? ⟨w.heap.size + 1, 1, none⟩ = some (.int .i64 0) := x1.cell 1
      have q2 : w1.cell? ⟨w.heap.size + 1, 2, none⟩ = some (.int .i64 0) := x1.cell 2
      have q3 : w1.cell? ⟨w.heap.size + 1, 3, none⟩ = some (.int .i64 0) := x1.cell 3
      have q4 : w1.cell? ⟨w.heap.size + 1, 4, none⟩ = some (.int .i64 0) := x1.cell 4
      have f0 := x1.frozen 0
      have f1 := x1.frozen 1
      have f2 := x1.frozen 2
      have f3 := x1.frozen 3
      have f4 := x1.frozen 4
      have x1 := hide x1
      clear b1 RW arm)
    have X := ((((x1.out.set 0 (.int .i32 0)).set 1 (.int .i64 0)).set 2 (.int .i64 0)).set 3 (.int .i64 0)).set 4 (.int .i64 0)
    have j0 := X.cell 0
    have j1 := X.cell 1
    have j2 := X.cell 2
    have j3 := X.cell 3
    have j4 := X.cell 4
    refine bodyPost_ret (v := .tuple #[.agg #[.int .i32 0, .int .i64 0, .int .i64 0, .int .i64 0, .int .i64 0], .bool false]) (by simp [results, Tryd.results27, go_sem, j0, j1, j2, j3, j4]) rfl ⟨rfl, ?_⟩
    exact ((((bb.setCell (by simp) _).setCell (by simp) _).setCell (by simp) _).setCell (by simp) _).setCell (by simp) _
set_option maxHeartbeats 1000000 in
/-- slices.Equal of rows of cells that are the same: true -/
theorem equal_cells (l : List PG.Cl) (A A' : Option Addr) (B B' n c m c' : Nat) (w : World) (hx : SeenC w B A n l) (hy : SeenC w B' A' m l) (hn : n ≤ 1099511627776) :
    Calls Tryd.prog 53 #[.slice A n c, .slice A' m c'] w fun e w' => e = .returned (.bool true) ∧ ∃ q, w.drewN q = w' := by
  have e1 := hx.len
  have e2 := hy.len
  subst e1
  obtain rfl := e2
  generalize hN : l.length = n at *
  have HX := hide hx
  have HY := hide hy
  clear hx hy
  go_enter Tryd.func53, Tryd.ntmps53
  go_wp2
  go_loopw [13] (fun i wr => ∃ k q : Nat, k ≤ n ∧ i = .int .i64 k ∧ wr = w.drewN q) (fun i _ => n - (intOf i).toNat)
  case atStart => exact ⟨0, 0, Nat.zero_le _, rfl, rfl⟩
  case round =>
    obtain ⟨k, q, hk, rfl, rfl⟩ := hrel
    by_cases hlt : k < n
    · have hck : l[k]? = some l[k] := List.getElem?_eq_getElem (by omega)
      generalize l[k] = cc at hck
      obtain ⟨ad, rfl, _, d0, d1, d2, d3, d4⟩ := HX.out.five hck
      obtain ⟨ad', rfl, _, n0, n1, n2, n3, n4⟩ := HY.out.five hck
      generalize PG.rn cc = x0 at *
      generalize PG.kd cc = x1 at *
      generalize (PG.pn cc).1 = x2 at *
      generalize (PG.pn cc).2.1 = x3 at *
      generalize (PG.pn cc).2.2 = x4 at *
      clear hck
      go_wp2_with fail
      go_quiet (fail)
      go_wp2
      go_roundw
      case rel => exact ⟨k + 1, _, by omega, by go_num, rfl⟩
      case measure => simp [intOf]; omega
    · go_wp2
      go_ret
      exact ⟨rfl, q, rfl⟩
set_option maxHeartbeats 1000000 in
theorem gsame_any (R K : Nat) (l : List PG.Cl) (A A' : Option Addr) (B B' n c m c' : Nat) (w : World) (hx : SeenC w B A n l) (hy : SeenC w B' A' m l) (hB : B ≤ w.heap.size) (hB' : B' ≤ w.heap.size) (hn : n ≤ 1099511627776) :
    Calls Tryd.prog 28 #[gv R K (.slice A n c), gv R K (.slice A' m c')] w fun e w' => e = .returned (.bool true) ∧ Below w.heap.size w w' := by
  have SC := hide (fun w' (hb : Below w.heap.size w w') => equal_cells l A A' B B' n c m c' w' (hx.below (hb.mono hB)) (hy.below (hb.mono hB')) hn)
  clear hx hy
  unfold gv
  go_enter Tryd.func28, Tryd.ntmps28
  go_wp2_with (
    go_at_call 53
    go_must (refine (SC.out _ (((Below.refl _ _).alloc (Nat.le_refl _) _).alloc (by simp) _)).mono ?_)
    rintro e w1 ⟨rfl, q, rfl⟩)
  go_ret
  have b := ((Below.refl w.heap.size w).alloc (Nat.le_refl _) (.cells #[.int .i64 R, .int .i64 K, .slice A n c] 27)).alloc (by simp) (.cells #[.int .i64 R, .int .i64 K, .slice A' m c'] 27)
  exact ⟨rfl, ⟨b.os, b.tape, b.output, b.size, b.block⟩⟩
end Go.Proofs.YtcbmjdacdjcggaaDoor
set_option maxRecDepth 100000
namespace Go.Proofs.YtcbmjdacdjcggaaDoor
open Go.RowKit
set_option linter.unusedVariables false
theorem runes_step (f : Nat → PG.Cl) (k : Nat) : (PG.kd (f k) = 2 → PG.runes f (k + 1) = PG.runes f k) ∧ (PG.kd (f k) ≠ 2 → PG.runes f (k + 1) = PG.runes f k ++ [PG.rn (f k)]) := by
  rw [PG.runes_succ]
  exact ⟨fun h => by rw [if_neg (by omega), List.append_nil], fun h => by rw [if_pos h]⟩
set_option maxHeartbeats 2000000 in
/-- Text of whatever row reads as f's first m cells -/
theorem gtext_t (R K n cp m B : Nat) (A : Option Addr) (r : Int) (f : Nat → PG.Cl) (w : World)
    (RC : ∀ w', Below w.heap.size w w' → Calls Tryd.prog 31 #[gv R K (.slice A n cp), .int .i64 r] w' fun e w'' => ∃ U c', e = .returned (.slice U m c') ∧ m ≤ c' ∧ SeenC w'' w.heap.size U m ((List.range m).map f) ∧ Below w'.heap.size w' w'')
    (hm : m ≤ 60) (hr : ∀ x ∈ PG.runes f m, U.isR x = true) :
    Calls Tryd.prog 12 #[gv R K (.slice A n cp), .int .i64 r] w fun e w' => e = .returned (.string (strOfNums (PG.text f m))) ∧ Below w.heap.size w w' := by
  obtain ⟨i0, hi, hz0, hz1, hz2⟩ := info_parts info_i32
  have RC := hide RC
  have hr := hide hr
  unfold gv at *
  go_enter Tryd.func12, Tryd.ntmps12
  go_wp2_with (
    go_at_call 31
    go_must (refine (RC.out _ ((Below.refl _ _).alloc (Nat.le_refl _) _)).mono ?_)
    rintro e w1 ⟨U, c', rfl, hc', hs, b1⟩
    have bb := ((Below.refl w.heap.size w).alloc (Nat.le_refl _) (.cells #[.int .i64 R, .int .i64 K, .slice A n cp] 27)).trans (b1.mono (by simp))
    have hs1 := hide hs
    clear b1 RC hs)
  go_loopw [5, 12] (fun v i wr => ∃ k q : Nat, k ≤ m ∧ i = .int .i64 k ∧ q ≤ k ∧ wr.ownsRow w.heap.size 21 1 v q (i32s (PG.runes f k)) ∧ Below w.heap.size w wr ∧ SeenC wr w.heap.size U m ((List.range m).map f))
    (fun _ i _ => m - (intOf i).toNat)
  case atStart => exact ⟨0, 0, Nat.zero_le _, rfl, Nat.le_refl _, World.ownsRow_nil _ _ _ _, bb, hs1.out⟩
  case round =>
    clear hs1 bb
    obtain ⟨k, q, hk, rfl, hq, ho, hb, hs⟩ := hrel
    have hsz := hb.size
    by_cases hlt : k < m
    · have hck := PG.range_at (f := f) hlt
      obtain ⟨ad, rfl, hadB, d0, d1, d2, d3, d4⟩ := hs.five hck
      obtain ⟨s1, s2⟩ := runes_step f k
      have hs := hide hs
      clear hck
      generalize f k = F at *
      obtain ⟨Av, cv, rfl, _, _, hblk⟩ := own_form ho
      by_cases h2 : PG.kd F = 2
      · have s1 := hide (s1 h2)
        have HO := hide ho
        have HB := hide hb
        rw [h2] at d1
        clear s2 h2 ho hb hblk
        go_wp2_with fail
        go_roundw
        case rel => exact ⟨k + 1, q, by omega, by go_num, by omega, by rw [s1.out]; exact HO.out.alloc _, HB.out.alloc hsz _, hs.out.below ((Below.refl _ _).alloc hsz _)⟩
        case measure => simp [intOf]; omega
      · have s2 := hide (s2 h2)
        have hq2 : (PG.kd F != 2) = true := by simpa using h2
        have HO := hide (ho.alloc (.cells #[.int .i32 (PG.rn F), .int .i64 (PG.kd F), .int .i64 (PG.pn F).1, .int .i64 (PG.pn F).2.1, .int .i64 (PG.pn F).2.2] 45))
        have HB := hide (hb.alloc hsz (.cells #[.int .i32 (PG.rn F), .int .i64 (PG.kd F), .int .i64 (PG.pn F).1, .int .i64 (PG.pn F).2.1, .int .i64 (PG.pn F).2.2] 45))
        have hs := hide (hs.out.below ((Below.refl w.heap.size wr).alloc hsz (.cells #[.int .i32 (PG.rn F), .int .i64 (PG.kd F), .int .i64 (PG.pn F).1, .int .i64 (PG.pn F).2.1, .int .i64 (PG.pn F).2.2] 45)))
        have hblk := hide hblk
        clear s1 h2 ho hb
        go_wp2_with (
          at_builtin
          go_must (refine wpList_app1 rfl (.tmp 19) (.tmp 22) 62 rfl w.heap.size 21 i0 _ 4 Tryd.underlying62 hi hz0 hz1 hz2 rfl (.slice Av q cv) q (i32s (PG.runes f k)) rfl HO.out (.int .i32 (PG.rn F)) _ _ rfl (by simp) rfl (by omega) (by omega) (by simp; omega) ?_)
          intro v9 w9 o9 hg9 hm9
          have hn9 : ∀ g, (Value.slice Av q cv).ownBlock = some g → w.heap.size ≤ g := fun g hg => (hblk.out g hg).1
          have B9 := hide (HB.out.grown hg9 HB.out.size hn9)
          have S9 := hide (Seen.grown hs.out hg9 HB.out.size hn9)
          have o9 := hide o9
          clear hg9 hm9 hn9 HO HB hs hblk)
        go_roundw
        case rel => exact ⟨k + 1, q + 1, by omega, by go_num, by omega, by rw [s2.out, i32s_app]; exact o9.out, B9.out, S9.out⟩
        case measure => simp [intOf]; omega
    · obtain rfl : k = m := by omega
      obtain ⟨Av, cv, rfl, _⟩ := own_form ho
      have hcv := conv_runes (c := cv) (Seen.of_own ho) hr.out
      go_wp2_with fail
      go_ret
      exact ⟨rfl, hb⟩
theorem gtext_in (G : PG.Gr) (n cp B r : Nat) (A : Option Addr) (w : World) (hG : PG.RightG G) (hl : SeenC w B A n (PG.cells G)) (hB : B ≤ w.heap.size) (hn : n = G.rows * G.cols) (hnc : n ≤ cp) (hcp : cp ≤ maxLen) (hr : r < G.rows) :
    Calls Tryd.prog 12 #[gv G.rows G.cols (.slice A n cp), .int .i64 r] w fun e w' => e = .returned (.string (strOfNums (PG.text (G.f r) G.cols))) ∧ Below w.heap.size w w' := by
  obtain ⟨g1, g2, g3, g4, g5⟩ := hG
  have hnn : r * G.cols + 0 < n := by rw [hn]; exact PG.place_lt hr g3
  obtain ⟨c0, hc0'⟩ : ∃ c0, (PG.cells G)[0]? = some c0 := ⟨_, List.getElem?_eq_getElem (by rw [PG.cells_len]; omega)⟩
  obtain ⟨ad, rfl, hadB, _⟩ := hl.at_ hc0'
  refine gtext_t G.rows G.cols n cp G.cols B (some ad) r (G.f r) w (fun w' hb => ?_) g4 (PG.runes_isR (g5 r hr))
  refine (row_any G.rows G.cols r n cp ad w' hn hnc hcp hr g2 g3 g4).mono ?_
  rintro e w'' ⟨⟨c', rfl, h1, h2⟩, bb⟩
  refine ⟨_, _, rfl, h1, ?_, bb⟩
  have h := (row_seen ((hl.below (hb.mono hB)).below (bb.mono (Nat.le_trans hB hb.size))) hn hr g3).more hB
  rw [PG.row_cut hr] at h
  exact h
theorem gtext_out (R K n cp : Nat) (A : Option Addr) (r : Int) (w : World) (hn : n = R * K) (h1 : 1 ≤ R) (hR : R ≤ 40) (h0 : 1 ≤ K) (hK : K ≤ 60) (hr : r < 0 ∨ (R : Int) ≤ r) :
    Calls Tryd.prog 12 #[gv R K (.slice A n cp), .int .i64 r] w fun e w' => e = .returned (.string { data := #[] }) ∧ Below w.heap.size w w' := by
  have h := gtext_t R K n cp 0 0 A r (fun _ => PG.none) w (fun w' hb => by
    refine (row_out R K n cp r A w' hn h1 hr hR h0 hK).mono ?_
    rintro e w'' ⟨rfl, bb⟩
    exact ⟨_, _, rfl, Nat.le_refl _, SeenC.nil_ _ _ _, bb⟩) (by omega) (by intro x hx; simp [PG.runes] at hx)
  exact h
end Go.Proofs.YtcbmjdacdjcggaaDoor
