/- The contracts of package grid's own Mend, clone, cellsOf, New. -/
import Derived.Test.YtfeapcneebofjaaDoorGridSmall
import Derived.Test.YtfeapcneebofjaaDoorCellWidth
set_option maxRecDepth 100000
namespace Go.Proofs.YtfeapcneebofjaaDoor
open Go.RowKit
set_option linter.unusedVariables false
/-- the first k of a row that was just made, mended -/
def halfN (l : List PG.Cl) (k : Nat) : List PG.Cl := (mendL l).take k ++ List.replicate (l.length - k) PG.none
theorem halfN_zero (l : List PG.Cl) : halfN l 0 = List.replicate l.length PG.none := by simp [halfN]
theorem halfN_all (l : List PG.Cl) : halfN l l.length = mendL l := by
  unfold halfN
  rw [List.take_of_length_le (by rw [mendL_len]; exact Nat.le_refl _), Nat.sub_self, List.replicate_zero, List.append_nil]
theorem halfN_len {l : List PG.Cl} {k : Nat} (hk : k ≤ l.length) : (halfN l k).length = l.length := by
  unfold halfN
  rw [List.length_append, List.length_take, List.length_replicate, mendL_len]
  omega
theorem halfN_set {l : List PG.Cl} {k : Nat} (hk : k < l.length) : (halfN l k).set k (PG.mend (fnL l) l.length k) = halfN l (k + 1) := by
  unfold halfN
  have e : ((mendL l).take k).length = k := by rw [List.length_take, mendL_len]; omega
  rw [List.set_append_right _ _ (by omega), e, Nat.sub_self, show l.length - k = (l.length - (k + 1)) + 1 by omega, List.replicate_succ, List.set_cons_zero, List.take_add_one, mendL_at hk]
  simp
theorem halfN_at {l : List PG.Cl} {k : Nat} (hk : k < l.length) : (halfN l k)[k]? = some PG.none := by
  have e : ((mendL l).take k).length = k := by rw [List.length_take, mendL_len]; omega
  unfold halfN
  rw [List.getElem?_append_right (by omega), e, Nat.sub_self, List.getElem?_replicate, if_pos (by omega)]
/-- what a store of one struct into a row of the call's own leaves, for the walk -/
theorem own_five_set {w : World} {base n g cap k : Nat} {c : PG.Cl} {e : TypeId} {l : List PG.Cl} (h : w.ownsRow base e 5 (.slice (some ⟨g, 0, none⟩) n cap) n (ccells (l.set k c))) (hk : k < l.length) :
    w.cell? ⟨g, k * 5, none⟩ = some (.int .i32 (PG.rn c)) ∧ w.cell? ⟨g, k * 5 + 1, none⟩ = some (.int .i64 (PG.kd c)) ∧ w.cell? ⟨g, k * 5 + 2, none⟩ = some (.int .i64 (PG.pn c).1) ∧ w.cell? ⟨g, k * 5 + 3, none⟩ = some (.int .i64 (PG.pn c).2.1) ∧ w.cell? ⟨g, k * 5 + 4, none⟩ = some (.int .i64 (PG.pn c).2.2) ∧
    w.frozen? ⟨g, k * 5, none⟩ = false ∧ w.frozen? ⟨g, k * 5 + 1, none⟩ = false ∧ w.frozen? ⟨g, k * 5 + 2, none⟩ = false ∧ w.frozen? ⟨g, k * 5 + 3, none⟩ = false ∧ w.frozen? ⟨g, k * 5 + 4, none⟩ = false :=
  own_five h (by rw [List.getElem?_set_self hk])
set_option maxHeartbeats 4000000 in
theorem gmend_any (n c B : Nat) (A : Option Addr) (l : List PG.Cl) (w : World) (hl : SeenC w B A n l) (hB : B ≤ w.heap.size) (hn : n ≤ 1048576) :
    Calls Tryd.prog 30 #[.slice A n c] w fun e w' => ∃ g, e = .returned (.slice (some ⟨g, 0, none⟩) n n) ∧ w'.ownsRow w.heap.size 32 5 (.slice (some ⟨g, 0, none⟩) n n) n (ccells (mendL l)) ∧ Below w.heap.size w w' := by
  obtain ⟨i0, hi, hz0, hz1, hz2⟩ := info_parts info_cell
  have hlen := hl.len
  have BC : ∀ (p : PG.Pn) (w' : World), Calls Tryd.prog 31 #[.agg #[.int .i64 p.1, .int .i64 p.2.1, .int .i64 p.2.2]] w' fun e w'' => e = .returned (.agg #[.int .i32 32, .int .i64 0, .int .i64 p.1, .int .i64 p.2.1, .int .i64 p.2.2]) ∧ Below w'.heap.size w' w'' := fun p w' => blank_any _ _ _ w'
  have BC := hide BC
  have AL := hide (fun w' k b (e : aloneB l k = b) (hb : Below w.heap.size w w') (hk : k < n) => alone_is l n c B k b e A w' (hl.below (hb.mono hB)) (by omega) hk)
  have hby := hide (show i0.bytes * n ≤ 281474976710656 by rw [hz2]; omega)
  clear hz2
  go_enter Tryd.func30, Tryd.ntmps30
  go_wp2_with (
    at_make
    go_must (refine wpList_make_full _ rfl (.tmp 6) (.tmp 6) 24 rfl w.heap.size 32 i0 _ 5 Tryd.underlying24 hi hz0 hz1 .i64 .i64 _ _ n rfl rfl (by omega) (by omega) hby.out (by simp only [maxLen]; omega) (Nat.le_refl _) ?_)
    intro w1 hown1 hg1
    rw [made_cells, ← hlen, ← halfN_zero, hlen] at hown1
    have bb : Below w.heap.size w w1 := below_of_grown hg1 (Nat.le_refl _) (by simp)
    clear hg1)
  go_loopw [10] (fun i wr => ∃ k : Nat, k ≤ n ∧ i = .int .i64 k ∧ wr.ownsRow w.heap.size 32 5 (.slice (some ⟨w.heap.size, 0, none⟩) n n) n (ccells (halfN l k)) ∧ Below w.heap.size w wr)
    (fun i _ => n - (intOf i).toNat)
  case atStart => exact ⟨0, Nat.zero_le _, rfl, hown1, bb⟩
  case round =>
    clear hown1 bb hby
    obtain ⟨k, hk, rfl, ho, hb⟩ := hrel
    by_cases hlt : k < n
    · have hck : l[k]? = some l[k] := List.getElem?_eq_getElem (by omega)
      generalize l[k] = cc at hck
      obtain ⟨ad, rfl, hadB, d0, d1, d2, d3, d4⟩ := (hl.below (hb.mono hB)).five hck
      have hold := halfN_at (l := l) (k := k) (by omega)
      have hhl := halfN_len (l := l) (k := k) (by omega)
      obtain ⟨v0, v1, v2, v3, v4, f0, f1, f2, f3, f4⟩ := own_five ho hold
      have l2 : w.heap.size < wr.heap.size := (ho.lt w.heap.size rfl).2
      have la : ad.block < w.heap.size := by omega
      -- what the first store leaves
      have S1 : ∀ w2, Below (store5 wr w.heap.size (k * 5) cc).heap.size (store5 wr w.heap.size (k * 5) cc) w2 →
          (w2.cell? (ad.add (k * 5)) = some (.int .i32 (PG.rn cc)) ∧ w2.cell? ⟨(ad.add (k * 5)).block, (ad.add (k * 5)).off + 1, none⟩ = some (.int .i64 (PG.kd cc)) ∧
            w2.cell? ⟨(ad.add (k * 5)).block, (ad.add (k * 5)).off + 2, none⟩ = some (.int .i64 (PG.pn cc).1) ∧ w2.cell? ⟨(ad.add (k * 5)).block, (ad.add (k * 5)).off + 3, none⟩ = some (.int .i64 (PG.pn cc).2.1) ∧ w2.cell? ⟨(ad.add (k * 5)).block, (ad.add (k * 5)).off + 4, none⟩ = some (.int .i64 (PG.pn cc).2.2)) ∧
          w2.ownsRow w.heap.size 32 5 (.slice (some ⟨w.heap.size, 0, none⟩) n n) n (ccells ((halfN l k).set k cc)) ∧ Below w.heap.size w w2 := fun w2 h2 => by
        have S := own_store5 ho (k := k) cc hlt (by omega)
        have B1 := hb.grown S.2 hb.size (by rintro _ ⟨⟩; exact Nat.le_refl _)
        have B2 := B1.trans (h2.mono B1.size)
        obtain ⟨ad', e', _, q0, q1, q2, q3, q4⟩ := (hl.below (B2.mono hB)).five hck
        injection e' with e'
        subst e'
        exact ⟨⟨q0, q1, q2, q3, q4⟩, S.1.kept (grown_of_below h2 none) (by simp [Value.ownBlock]), B2⟩
      have B0 : Below w.heap.size w (store5 wr w.heap.size (k * 5) cc) := hb.grown (own_store5 ho (k := k) cc hlt (by omega)).2 hb.size (by rintro _ ⟨⟩; exact Nat.le_refl _)
      have S1 := hide S1
      have B0 := hide B0
      have HK := hide hck
      have HL := hide hl
      have hfk := hide (fnL_at hck)
      clear ho hck hold hl
      rcases hal : aloneB l k with _ | _
      · have hm : PG.mend (fnL l) l.length k = cc := by rw [mend_alone, hal, hfk.out]; rfl
        have hset : (halfN l k).set k cc = halfN l (k + 1) := by rw [← hm]; exact halfN_set (by omega)
        have hset := hide hset
        have hal := hide hal
        clear hm BC
        go_wp2_with (
          go_at_call 44
          go_must (refine (AL.out _ _ _ hal.out B0.out hlt).mono ?_)
          rintro e w2 ⟨rfl, b2⟩
          obtain ⟨_, o2, b2⟩ := S1.out _ b2
          have o2 := hide o2
          clear S1 B0 d0 d1 d2 d3 d4 v0 v1 v2 v3 v4 f0 f1 f2 f3 f4)
        go_roundw
        case rel => exact ⟨k + 1, by omega, by go_num, by rw [← hset.out]; exact o2.out, b2⟩
        case measure => simp [intOf]; omega
      · have hm : PG.mend (fnL l) l.length k = PG.blank (PG.pn cc) := by rw [mend_alone, hal, hfk.out]; rfl
        have hset : ((halfN l k).set k cc).set k (PG.blank (PG.pn cc)) = halfN l (k + 1) := by rw [List.set_set, ← hm]; exact halfN_set (by omega)
        have hset := hide hset
        have hal := hide hal
        clear hm
        go_wp2_with (first
          | (go_at_call 44
             go_must (refine (AL.out _ _ _ hal.out B0.out hlt).mono ?_)
             rintro e w2 ⟨rfl, b2⟩
             obtain ⟨⟨q0, q1, q2, q3, q4⟩, o2, b2⟩ := S1.out _ b2
             have l3 : w.heap.size < w2.heap.size := (o2.lt w.heap.size rfl).2
             have la1 : (ad.add (k * 5)).block < w2.heap.size := by rw [addBlock]; omega
             have o2 := hide o2
             clear S1 B0 d0 d1 d2 d3 d4 v0 v1 v2 v3 v4 f0 f1 f2 f3 f4)
          | (go_at_call 31
             go_must (refine (BC.out (PG.pn cc) _).mono ?_)
             rintro e w3 ⟨rfl, b3⟩
             have o3 := o2.out.kept (grown_of_below b3 none) (by simp [Value.ownBlock])
             have b3 := b2.trans (b3.mono b2.size)
             obtain ⟨v0, v1, v2, v3, v4, f0, f1, f2, f3, f4⟩ := own_five_set o3 (by omega)
             have S := own_store5 o3 (k := k) (PG.blank (PG.pn cc)) hlt (by rw [List.length_set]; omega)
             have B3 := hide (b3.grown S.2 b3.size (by rintro _ ⟨⟩; exact Nat.le_refl _))
             have O3 := hide S.1
             clear S o3 o2 b3 b2))
        go_roundw
        case rel => exact ⟨k + 1, by omega, by go_num, by rw [← hset.out]; exact O3.out, B3.out⟩
        case measure => simp [intOf]; omega
    · obtain rfl : k = n := by omega
      rw [← hlen, halfN_all, hlen] at ho
      have ho := hide ho
      have hb := hide hb
      clear BC AL
      go_wp2_with fail
      go_ret
      exact ⟨_, rfl, ho.out, hb.out⟩
end Go.Proofs.YtfeapcneebofjaaDoor
