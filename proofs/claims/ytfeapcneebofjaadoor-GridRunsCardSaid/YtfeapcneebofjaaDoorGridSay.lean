/- The contract of package grid's own Text. -/
import Derived.Test.YtfeapcneebofjaaDoorGridSee
set_option maxRecDepth 100000
namespace Go.Proofs.YtfeapcneebofjaaDoor
open Go.RowKit
set_option linter.unusedVariables false
theorem runes_step (f : Nat → PG.Cl) (k : Nat) : (PG.kd (f k) = 2 → PG.runes f (k + 1) = PG.runes f k) ∧ (PG.kd (f k) ≠ 2 → PG.runes f (k + 1) = PG.runes f k ++ [PG.rn (f k)]) := by
  rw [PG.runes_succ]
  exact ⟨fun h => by rw [if_neg (by omega), List.append_nil], fun h => by rw [if_pos h]⟩
set_option maxHeartbeats 2000000 in
/-- Text of whatever row reads as f's first m cells -/
theorem gtext_t (R K n cp m B : Nat) (A : Option Addr) (r : Int) (f : Nat → PG.Cl) (w : World)
    (RC : ∀ w', Below w.heap.size w w' → Calls Tryd.prog 28 #[gv R K (.slice A n cp), .int .i64 r] w' fun e w'' => ∃ U c', e = .returned (.slice U m c') ∧ m ≤ c' ∧ SeenC w'' w.heap.size U m ((List.range m).map f) ∧ Below w'.heap.size w' w'')
    (hm : m ≤ 60) (hr : ∀ x ∈ PG.runes f m, U.isR x = true) :
    Calls Tryd.prog 10 #[gv R K (.slice A n cp), .int .i64 r] w fun e w' => e = .returned (.string (strOfNums (PG.text f m))) ∧ Below w.heap.size w w' := by
  obtain ⟨i0, hi, hz0, hz1, hz2⟩ := info_parts info_i32
  have RC := hide RC
  have hr := hide hr
  unfold gv at *
  go_enter Tryd.func10, Tryd.ntmps10
  go_wp2_with (
    go_at_call 28
    go_must (refine (RC.out _ ((Below.refl _ _).alloc (Nat.le_refl _) _)).mono ?_)
    rintro e w1 ⟨U, c', rfl, hc', hs, b1⟩
    have bb := ((Below.refl w.heap.size w).alloc (Nat.le_refl _) (.cells #[.int .i64 R, .int .i64 K, .slice A n cp] 26)).trans (b1.mono (by simp))
    have hs1 := hide hs
    clear b1 RC hs)
  go_loopw [5, 12] (fun v i wr => ∃ k q : Nat, k ≤ m ∧ i = .int .i64 k ∧ q ≤ k ∧ wr.ownsRow w.heap.size 21 1 v q (i32s (PG.runes f k)) ∧ Below w.heap.size w wr ∧ SeenC wr w.heap.size U m ((List.range m).map f))
    (fun _ i _ => m - (intOf i).toNat)
  case atStart => exact ⟨0, 0, Nat.zero_le _, rfl, Nat.le_refl _, World.ownsRow_nil _ _ _ _, bb, hs1.out⟩
  case round =>
    clear hs1 bb
    obtain ⟨k, q, hk, rfl, hq, ho, hb, hs⟩ := hrel
    have hsz := hb.size
    by_cases hlt : k < m
    · have hck := PG.range_at (f := f) hlt
      obtain ⟨ad, rfl, hadB, d0, d1, d2, d3, d4⟩ := hs.five hck
      obtain ⟨s1, s2⟩ := runes_step f k
      have hs := hide hs
      clear hck
      generalize f k = F at *
      obtain ⟨Av, cv, rfl, _, _, hblk⟩ := own_form ho
      by_cases h2 : PG.kd F = 2
      · have s1 := hide (s1 h2)
        have HO := hide ho
        have HB := hide hb
        rw [h2] at d1
        clear s2 h2 ho hb hblk
        go_wp2_with fail
        go_roundw
        case rel => exact ⟨k + 1, q, by omega, by go_num, by omega, by rw [s1.out]; exact HO.out.alloc _, HB.out.alloc hsz _, hs.out.below ((Below.refl _ _).alloc hsz _)⟩
        case measure => simp [intOf]; omega
      · have s2 := hide (s2 h2)
        have hq2 : (PG.kd F != 2) = true := by simpa using h2
        have HO := hide (ho.alloc (.cells #[.int .i32 (PG.rn F), .int .i64 (PG.kd F), .int .i64 (PG.pn F).1, .int .i64 (PG.pn F).2.1, .int .i64 (PG.pn F).2.2] 32))
        have HB := hide (hb.alloc hsz (.cells #[.int .i32 (PG.rn F), .int .i64 (PG.kd F), .int .i64 (PG.pn F).1, .int .i64 (PG.pn F).2.1, .int .i64 (PG.pn F).2.2] 32))
        have hs := hide (hs.out.below ((Below.refl w.heap.size wr).alloc hsz (.cells #[.int .i32 (PG.rn F), .int .i64 (PG.kd F), .int .i64 (PG.pn F).1, .int .i64 (PG.pn F).2.1, .int .i64 (PG.pn F).2.2] 32)))
        have hblk := hide hblk
        clear s1 h2 ho hb
        go_wp2_with (
          at_builtin
          go_must (refine wpList_app1 rfl (.tmp 19) (.tmp 22) 47 rfl w.heap.size 21 i0 _ 4 Tryd.underlying47 hi hz0 hz1 hz2 rfl (.slice Av q cv) q (i32s (PG.runes f k)) rfl HO.out (.int .i32 (PG.rn F)) _ _ rfl (by simp) rfl (by omega) (by omega) (by simp; omega) ?_)
          intro v9 w9 o9 hg9 hm9
          have hn9 : ∀ g, (Value.slice Av q cv).ownBlock = some g → w.heap.size ≤ g := fun g hg => (hblk.out g hg).1
          have B9 := hide (HB.out.grown hg9 HB.out.size hn9)
          have S9 := hide (Seen.grown hs.out hg9 HB.out.size hn9)
          have o9 := hide o9
          clear hg9 hm9 hn9 HO HB hs hblk)
        go_roundw
        case rel => exact ⟨k + 1, q + 1, by omega, by go_num, by omega, by rw [s2.out, i32s_app]; exact o9.out, B9.out, S9.out⟩
        case measure => simp [intOf]; omega
    · obtain rfl : k = m := by omega
      obtain ⟨Av, cv, rfl, _⟩ := own_form ho
      have hcv := conv_runes (c := cv) (Seen.of_own ho) hr.out
      go_wp2_with fail
      go_ret
      exact ⟨rfl, hb⟩
theorem gtext_in (G : PG.Gr) (n cp B r : Nat) (A : Option Addr) (w : World) (hG : PG.RightG G) (hl : SeenC w B A n (PG.cells G)) (hB : B ≤ w.heap.size) (hn : n = G.rows * G.cols) (hnc : n ≤ cp) (hcp : cp ≤ maxLen) (hr : r < G.rows) :
    Calls Tryd.prog 10 #[gv G.rows G.cols (.slice A n cp), .int .i64 r] w fun e w' => e = .returned (.string (strOfNums (PG.text (G.f r) G.cols))) ∧ Below w.heap.size w w' := by
  obtain ⟨g1, g2, g3, g4, g5⟩ := hG
  have hnn : r * G.cols + 0 < n := by rw [hn]; exact PG.place_lt hr g3
  obtain ⟨c0, hc0'⟩ : ∃ c0, (PG.cells G)[0]? = some c0 := ⟨_, List.getElem?_eq_getElem (by rw [PG.cells_len]; omega)⟩
  obtain ⟨ad, rfl, hadB, _⟩ := hl.at_ hc0'
  refine gtext_t G.rows G.cols n cp G.cols B (some ad) r (G.f r) w (fun w' hb => ?_) g4 (PG.runes_isR (g5 r hr))
  refine (row_any G.rows G.cols r n cp ad w' hn hnc hcp hr g2 g3 g4).mono ?_
  rintro e w'' ⟨⟨c', rfl, h1, h2⟩, bb⟩
  refine ⟨_, _, rfl, h1, ?_, bb⟩
  have h := (row_seen ((hl.below (hb.mono hB)).below (bb.mono (Nat.le_trans hB hb.size))) hn hr g3).more hB
  rw [PG.row_cut hr] at h
  exact h
theorem gtext_out (R K n cp : Nat) (A : Option Addr) (r : Int) (w : World) (hn : n = R * K) (h1 : 1 ≤ R) (hR : R ≤ 40) (h0 : 1 ≤ K) (hK : K ≤ 60) (hr : r < 0 ∨ (R : Int) ≤ r) :
    Calls Tryd.prog 10 #[gv R K (.slice A n cp), .int .i64 r] w fun e w' => e = .returned (.string { data := #[] }) ∧ Below w.heap.size w w' := by
  have h := gtext_t R K n cp 0 0 A r (fun _ => PG.none) w (fun w' hb => by
    refine (row_out R K n cp r A w' hn h1 hr hR h0 hK).mono ?_
    rintro e w'' ⟨rfl, bb⟩
    exact ⟨_, _, rfl, Nat.le_refl _, SeenC.nil_ _ _ _, bb⟩) (by omega) (by intro x hx; simp [PG.runes] at hx)
  exact h
end Go.Proofs.YtfeapcneebofjaaDoor
