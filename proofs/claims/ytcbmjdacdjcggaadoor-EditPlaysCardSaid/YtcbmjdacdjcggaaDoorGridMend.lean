/- The contract of the document's own Mend. -/
import Derived.Test.YtcbmjdacdjcggaaDoorGridRef
namespace Go.Proofs.YtcbmjdacdjcggaaDoor
open Go.RowKit
set_option linter.unusedVariables false
def fnL (l : List PG.Cl) (j : Nat) : PG.Cl := (l[j]?).getD PG.none
def mendL (l : List PG.Cl) : List PG.Cl := (List.range l.length).map (PG.mend (fnL l) l.length)
theorem mendL_len (l : List PG.Cl) : (mendL l).length = l.length := by simp [mendL]
theorem mendL_at {l : List PG.Cl} {k : Nat} (hk : k < l.length) : (mendL l)[k]? = some (PG.mend (fnL l) l.length k) := by
  unfold mendL
  rw [List.getElem?_map, List.getElem?_range hk]
  rfl
/-- the first k of them mended -/
def halfM (l : List PG.Cl) (k : Nat) : List PG.Cl := (mendL l).take k ++ l.drop k
theorem halfM_zero (l : List PG.Cl) : halfM l 0 = l := by simp [halfM]
theorem halfM_all (l : List PG.Cl) : halfM l l.length = mendL l := by
  unfold halfM
  rw [List.take_of_length_le (by rw [mendL_len]; exact Nat.le_refl _), List.drop_of_length_le (Nat.le_refl _), List.append_nil]
theorem halfM_len {l : List PG.Cl} {k : Nat} (hk : k ≤ l.length) : (halfM l k).length = l.length := by
  unfold halfM
  rw [List.length_append, List.length_take, List.length_drop, mendL_len]
  omega
theorem halfM_set {l : List PG.Cl} {k : Nat} (hk : k < l.length) : (halfM l k).set k (PG.mend (fnL l) l.length k) = halfM l (k + 1) := by
  unfold halfM
  have e : ((mendL l).take k).length = k := by rw [List.length_take, mendL_len]; omega
  rw [List.set_append_right _ _ (by omega), e, Nat.sub_self, List.drop_eq_getElem_cons hk, List.set_cons_zero, List.take_add_one, mendL_at hk]
  simp
theorem halfM_keep {l : List PG.Cl} {k : Nat} {c : PG.Cl} (hk : l[k]? = some c) (h : PG.mend (fnL l) l.length k = c) : halfM l k = halfM l (k + 1) := by
  have hkl : k < l.length := (List.getElem?_eq_some_iff.1 hk).1
  rw [← halfM_set hkl, h]
  unfold halfM
  have e : ((mendL l).take k).length = k := by rw [List.length_take, mendL_len]; omega
  rw [List.set_append_right _ _ (by omega), e, Nat.sub_self, List.drop_eq_getElem_cons hkl, List.set_cons_zero]
  rw [List.getElem?_eq_getElem hkl] at hk
  rw [Option.some.inj hk]
theorem halfM_at {l : List PG.Cl} {k : Nat} {c : PG.Cl} (hk : l[k]? = some c) : (halfM l k)[k]? = some c := by
  have hkl : k < l.length := (List.getElem?_eq_some_iff.1 hk).1
  have e : ((mendL l).take k).length = k := by rw [List.length_take, mendL_len]; omega
  unfold halfM
  rw [List.getElem?_append_right (by omega), e, Nat.sub_self, List.getElem?_drop, Nat.add_zero]
  exact hk
theorem fnL_at {l : List PG.Cl} {k : Nat} {c : PG.Cl} (hk : l[k]? = some c) : fnL l k = c := by unfold fnL; rw [hk]; rfl
/-- what Mend makes of one of them -/
theorem mend_blank {l : List PG.Cl} {k : Nat} {c : PG.Cl} (hk : l[k]? = some c) (h : (PG.kd c = 1 ∧ (k + 1 = l.length ∨ ∃ d, l[k + 1]? = some d ∧ PG.kd d ≠ 2)) ∨ (PG.kd c = 2 ∧ (k = 0 ∨ ∃ d, 0 < k ∧ l[k - 1]? = some d ∧ PG.kd d ≠ 1))) : PG.mend (fnL l) l.length k = PG.blank (PG.pn c) := by
  unfold PG.mend
  rw [fnL_at hk, if_pos]
  rcases h with ⟨a, b⟩ | ⟨a, b⟩
  · left
    refine ⟨a, fun ⟨x, y⟩ => ?_⟩
    rcases b with b | ⟨d, b, e⟩
    · omega
    · rw [fnL_at b] at y; exact e y
  · right
    refine ⟨a, fun ⟨x, y⟩ => ?_⟩
    rcases b with b | ⟨d, _, b, e⟩
    · omega
    · rw [fnL_at b] at y; exact e y
theorem mend_stay {l : List PG.Cl} {k : Nat} {c : PG.Cl} (hk : l[k]? = some c) (h : (PG.kd c ≠ 1 ∧ PG.kd c ≠ 2) ∨ (PG.kd c = 1 ∧ ∃ d, l[k + 1]? = some d ∧ PG.kd d = 2) ∨ (PG.kd c = 2 ∧ ∃ d, 0 < k ∧ l[k - 1]? = some d ∧ PG.kd d = 1)) : PG.mend (fnL l) l.length k = c := by
  unfold PG.mend
  rw [fnL_at hk, if_neg]
  rintro (⟨a, b⟩ | ⟨a, b⟩)
  · rcases h with h | ⟨_, d, e, f⟩ | ⟨h, _⟩
    · exact h.1 a
    · exact b ⟨(List.getElem?_eq_some_iff.1 e).1, by rw [fnL_at e]; exact f⟩
    · omega
  · rcases h with h | ⟨h, _⟩ | ⟨_, d, p, e, f⟩
    · exact h.2 a
    · omega
    · exact b ⟨p, by rw [fnL_at e]; exact f⟩
/-- a box, and a row behind it that grew -/
theorem boxes0 {w w1 : World} {t2 : TypeId} {es : Array Value} (hg : (w.alloc (.cells es t2)).grownBy w1 (some w.heap.size)) : Below w.heap.size w w1 :=
  ((Below.refl _ _).alloc (Nat.le_refl _) _).grown hg (by simp) (by rintro g ⟨⟩; omega)
set_option maxHeartbeats 4000000 in
theorem rmend_any (n c B : Nat) (A : Option Addr) (l : List PG.Cl) (w : World) (hl : SeenC w B A n l) (hB : B ≤ w.heap.size) (hn0 : 0 < n) (hn : n ≤ 1099511627776) :
    Calls Tryd.prog 43 #[.slice A n c] w fun e w' => ∃ v, e = .returned v ∧ w'.ownsRow w.heap.size 45 5 v n (ccells (mendL l)) ∧ Below w.heap.size w w' := by
  obtain ⟨i0, hi, hz0, hz1, hz2⟩ := info_parts info_cell
  have hlen := hl.len
  have BC : ∀ (p : PG.Pn) (w' : World), Calls Tryd.prog 41 #[.agg #[.int .i64 p.1, .int .i64 p.2.1, .int .i64 p.2.2]] w' fun e w'' => e = .returned (.agg #[.int .i32 32, .int .i64 0, .int .i64 p.1, .int .i64 p.2.1, .int .i64 p.2.2]) ∧ Below w'.heap.size w' w'' := fun p w' => rblank_any p w'
  have BC := hide BC
  go_enter Tryd.func43, Tryd.ntmps43
  go_wp2_with (
    at_builtin
    go_must (refine wpList_appC rfl (.tmp 8) (.tmp 9) 25 rfl w.heap.size 45 i0 _ 40 Tryd.underlying25 hi hz0 hz1 hz2 rfl (.slice (some ⟨w.heap.size, 0, none⟩) 0 0) 0 [] rfl (own_lit5 _ rfl (Nat.le_refl _)) B A n c l rfl (hl.below ((Below.refl _ _).alloc hB _)) (by omega) (by omega) (by simp) ?_)
    intro v1 w1 hown1 hg1 hm1
    have bb := boxes0 hg1
    simp only [Nat.zero_add, List.nil_append] at hown1
    obtain ⟨g, cap, rfl, hgb, hgc, hgm⟩ := own_at hown1 hn0
    clear hg1 hm1)
  go_loopw [13] (fun i wr => ∃ k : Nat, k ≤ n ∧ i = .int .i64 k ∧ wr.ownsRow w.heap.size 45 5 (.slice (some ⟨g, 0, none⟩) n cap) n (ccells (halfM l k)) ∧ Below w.heap.size w wr)
    (fun i _ => n - (intOf i).toNat)
  case atStart => exact ⟨0, Nat.zero_le _, rfl, by rw [halfM_zero]; exact hown1, bb⟩
  case round =>
    clear hown1 bb
    obtain ⟨k, hk, rfl, ho, hb⟩ := hrel
    by_cases hlt : k < n
    · have hck : l[k]? = some l[k] := List.getElem?_eq_getElem (by omega)
      generalize l[k] = cc at hck
      obtain ⟨ad, rfl, hadB, d0, d1, d2, d3, d4⟩ := (hl.below (hb.mono hB)).five hck
      have hold := halfM_at hck
      have hhl := halfM_len (l := l) (k := k) (by omega)
      obtain ⟨v0, v1, v2, v3, v4, f0, f1, f2, f3, f4⟩ := own_five ho hold
      have l2 : g < wr.heap.size := (ho.lt g rfl).2
      have lb : w.heap.size ≤ wr.heap.size := hb.size
      have la : ad.block < wr.heap.size := by omega
      -- the round's end, nothing written, or a blank
      have FIN0 : PG.mend (fnL l) l.length k = cc → ∀ o, (wr.alloc o).ownsRow w.heap.size 45 5 (.slice (some ⟨g, 0, none⟩) n cap) n (ccells (halfM l (k + 1))) ∧ Below w.heap.size w (wr.alloc o) := fun e o =>
        ⟨by rw [← halfM_keep hck e]; exact ho.alloc o, hb.alloc lb o⟩
      have FIN1 : PG.mend (fnL l) l.length k = PG.blank (PG.pn cc) → ∀ o w2, Below (wr.alloc o).heap.size (wr.alloc o) w2 →
          (w2.cell? ⟨g, k * 5, none⟩ = some (.int .i32 (PG.rn cc)) ∧ w2.cell? ⟨g, k * 5 + 1, none⟩ = some (.int .i64 (PG.kd cc)) ∧ w2.cell? ⟨g, k * 5 + 2, none⟩ = some (.int .i64 (PG.pn cc).1) ∧ w2.cell? ⟨g, k * 5 + 3, none⟩ = some (.int .i64 (PG.pn cc).2.1) ∧ w2.cell? ⟨g, k * 5 + 4, none⟩ = some (.int .i64 (PG.pn cc).2.2) ∧
            w2.frozen? ⟨g, k * 5, none⟩ = false ∧ w2.frozen? ⟨g, k * 5 + 1, none⟩ = false ∧ w2.frozen? ⟨g, k * 5 + 2, none⟩ = false ∧ w2.frozen? ⟨g, k * 5 + 3, none⟩ = false ∧ w2.frozen? ⟨g, k * 5 + 4, none⟩ = false) ∧
          (store5 w2 g (k * 5) (PG.blank (PG.pn cc))).ownsRow w.heap.size 45 5 (.slice (some ⟨g, 0, none⟩) n cap) n (ccells (halfM l (k + 1))) ∧ Below w.heap.size w (store5 w2 g (k * 5) (PG.blank (PG.pn cc))) := fun e o w2 h2 => by
        have o2 := (ho.alloc o).kept (grown_of_below h2 none) (by simp [Value.ownBlock])
        have S := own_store5 o2 (k := k) (PG.blank (PG.pn cc)) hlt (by omega)
        have hs2 := h2.size
        rw [World.size_alloc] at hs2
        refine ⟨own_five o2 hold, ?_, ((hb.alloc lb o).trans (h2.mono (by rw [World.size_alloc]; omega))).grown S.2 (by omega) (by rintro _ ⟨⟩; omega)⟩
        rw [← halfM_set (by omega), e]
        exact S.1
      have FIN0 := hide FIN0
      have FIN1 := hide FIN1
      have HO := hide ho
      have HK := hide hck
      clear ho hck hold
      by_cases ha1 : PG.kd cc = 1
      · rw [ha1] at d1
        by_cases hend : k + 1 = n
        · have G := hide (FIN1.out (mend_blank HK.out (.inl ⟨ha1, .inl (by omega)⟩)))
          clear FIN0 FIN1
          go_wp2_with (
            go_at_call 41
            go_must (refine (BC.out (PG.pn cc) _).mono ?_)
            rintro e w2 ⟨rfl, b2⟩
            obtain ⟨⟨v0, v1, v2, v3, v4, f0, f1, f2, f3, f4⟩, G2⟩ := G.out _ _ b2
            have G2 := hide G2
            clear b2 BC G)
          go_roundw
          case rel => exact ⟨k + 1, by omega, by go_num, G2.out.1, G2.out.2⟩
          case measure => simp [intOf]; omega
        · have hend1 : k + 1 < n := by omega
          have hnx : l[k + 1]? = some l[k + 1] := List.getElem?_eq_getElem (by omega)
          generalize l[k + 1] = cn at hnx
          obtain ⟨ad', e', _, n0, n1, n2, n3, n4⟩ := (hl.below (hb.mono hB)).five hnx
          injection e' with e'
          subst e'
          have la1 : (ad.add ((k + 1) * 5)).block < wr.heap.size := by rw [addBlock]; exact la
          have HN := hide hnx
          clear hnx
          by_cases hb2 : PG.kd cn = 2
          · have G := hide (FIN0.out (mend_stay HK.out (.inr (.inl ⟨ha1, cn, HN.out, hb2⟩))))
            rw [hb2] at n1
            clear FIN0 FIN1 BC
            go_wp2_with fail
            go_roundw
            case rel => exact ⟨k + 1, by omega, by go_num, (G.out _).1, (G.out _).2⟩
            case measure => simp [intOf]; omega
          · have G := hide (FIN1.out (mend_blank HK.out (.inl ⟨ha1, .inr ⟨cn, HN.out, hb2⟩⟩)))
            clear FIN0 FIN1
            go_wp2_with (
              go_at_call 41
              go_must (refine (BC.out (PG.pn cc) _).mono ?_)
              rintro e w2 ⟨rfl, b2⟩
              obtain ⟨⟨v0, v1, v2, v3, v4, f0, f1, f2, f3, f4⟩, G2⟩ := G.out _ _ b2
              have G2 := hide G2
              clear b2 BC G)
            go_roundw
            case rel => exact ⟨k + 1, by omega, by go_num, G2.out.1, G2.out.2⟩
            case measure => simp [intOf]; omega
      · by_cases ha2 : PG.kd cc = 2
        · rw [ha2] at d1
          by_cases hk0 : k < 1
          · have G := hide (FIN1.out (mend_blank HK.out (.inr ⟨ha2, .inl (by omega)⟩)))
            have hz : ((k : Int) == 0) = true := by simp; omega
            clear hk0
            clear FIN0 FIN1
            go_wp2_with (
              go_at_call 41
              go_must (refine (BC.out (PG.pn cc) _).mono ?_)
              rintro e w2 ⟨rfl, b2⟩
              obtain ⟨⟨v0, v1, v2, v3, v4, f0, f1, f2, f3, f4⟩, G2⟩ := G.out _ _ b2
              have G2 := hide G2
              clear b2 BC G)
            go_roundw
            case rel => exact ⟨k + 1, by omega, by go_num, G2.out.1, G2.out.2⟩
            case measure => simp [intOf]; omega
          · have hk1 : 0 < k := by omega
            have hnx : l[k - 1]? = some l[k - 1] := List.getElem?_eq_getElem (by omega)
            generalize l[k - 1] = cn at hnx
            obtain ⟨ad', e', _, n0, n1, n2, n3, n4⟩ := (hl.below (hb.mono hB)).five hnx
            injection e' with e'
            subst e'
            have la1 : (ad.add ((k - 1) * 5)).block < wr.heap.size := by rw [addBlock]; exact la
            have HN := hide hnx
            clear hnx
            by_cases hb1 : PG.kd cn = 1
            · have G := hide (FIN0.out (mend_stay HK.out (.inr (.inr ⟨ha2, cn, hk1, HN.out, hb1⟩))))
              rw [hb1] at n1
              clear FIN0 FIN1 BC
              go_wp2_with fail
              go_roundw
              case rel => exact ⟨k + 1, by omega, by go_num, (G.out _).1, (G.out _).2⟩
              case measure => simp [intOf]; omega
            · have G := hide (FIN1.out (mend_blank HK.out (.inr ⟨ha2, .inr ⟨cn, hk1, HN.out, hb1⟩⟩)))
              have hq : (PG.kd cn != 1) = true := by simpa using hb1
              clear FIN0 FIN1
              go_wp2_with (
                go_at_call 41
                go_must (refine (BC.out (PG.pn cc) _).mono ?_)
                rintro e w2 ⟨rfl, b2⟩
                obtain ⟨⟨v0, v1, v2, v3, v4, f0, f1, f2, f3, f4⟩, G2⟩ := G.out _ _ b2
                have G2 := hide G2
                clear b2 BC G)
              go_roundw
              case rel => exact ⟨k + 1, by omega, by go_num, G2.out.1, G2.out.2⟩
              case measure => simp [intOf]; omega
        · have G := hide (FIN0.out (mend_stay HK.out (.inl ⟨ha1, ha2⟩)))
          clear FIN0 FIN1 BC
          go_wp2_with fail
          go_roundw
          case rel => exact ⟨k + 1, by omega, by go_num, (G.out _).1, (G.out _).2⟩
          case measure => simp [intOf]; omega
    · obtain rfl : k = n := by omega
      rw [← hlen, halfM_all, hlen] at ho
      have ho := hide ho
      have hb := hide hb
      clear BC
      go_wp2_with fail
      go_ret
      exact ⟨_, rfl, ho.out, hb.out⟩
end Go.Proofs.YtcbmjdacdjcggaaDoor
