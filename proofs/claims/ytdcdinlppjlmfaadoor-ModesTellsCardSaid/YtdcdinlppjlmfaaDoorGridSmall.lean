/- The contracts of package grid's own small functions: sized, row, is, alone. The contracts of package grid's own Mend, clone, cellsOf, New. The contracts of package grid's own clone, cellsOf, New. The contract of package grid's own New. -/
import Derived.Test.YtdcdinlppjlmfaaDoorGridMem
import Derived.WalkSpells
import Derived.WalkLawsBesides
import Derived.Test.YtdcdinlppjlmfaaDoorCellWidth
set_option maxRecDepth 100000
namespace Go.Proofs.YtdcdinlppjlmfaaDoor
open Go.RowKit
set_option linter.unusedVariables false
set_option maxHeartbeats 1000000 in
theorem sized_any (R K n c : Nat) (A : Option Addr) (w : World) (hn : n = R * K) (h1 : 1 ≤ R) (hR : R ≤ 40) (h0 : 1 ≤ K) (hK : K ≤ 60) :
    Calls Tryd.prog 62 #[gv R K (.slice A n c)] w fun e w' => e = .returned (.bool true) ∧ Below w.heap.size w w' := by
  have e1 : (R : Int) * (K : Int) = (n : Int) := by rw [hn]; simp
  have hn5 : n ≤ 2400 := by rw [hn]; exact Nat.mul_le_mul hR hK
  have q1 : ((R : Int) ≥ 1) := by omega
  clear hn
  unfold gv
  go_enter Tryd.func62, Tryd.ntmps62
  go_wp2_with fail
  go_ret
  exact ⟨rfl, (Below.refl _ _).alloc (Nat.le_refl _) _⟩
set_option maxHeartbeats 1000000 in
theorem row_any (R K r n c : Nat) (ad : Addr) (w : World) (hn : n = R * K) (hnc : n ≤ c) (hc : c ≤ maxLen) (hr : r < R) (hR : R ≤ 40) (h0 : 1 ≤ K) (hK : K ≤ 60) :
    Calls Tryd.prog 64 #[gv R K (.slice (some ad) n c), .int .i64 r] w fun e w' => (∃ c', e = .returned (.slice (some (ad.add (r * K * 5))) K c') ∧ K ≤ c' ∧ c' ≤ maxLen) ∧ Below w.heap.size w w' := by
  have SZ := hide (fun w' => sized_any R K n c (some ad) w' hn (by omega) hR h0 hK)
  have hle : r * K + K ≤ R * K := by rw [← Nat.succ_mul]; exact Nat.mul_le_mul_right K hr
  have hRK : R * K ≤ 2400 := Nat.mul_le_mul hR hK
  have e1 : (r : Int) * (K : Int) = ((r * K : Nat) : Int) := by simp
  have e2 : ((r : Int) + 1) * (K : Int) = ((r * K + K : Nat) : Int) := by rw [Int.add_mul, e1]; simp
  unfold gv at SZ
  generalize r * K = x at *
  rw [← hn] at hle hRK
  clear hn
  unfold gv
  go_enter Tryd.func64, Tryd.ntmps64
  go_wp2_with (
    go_at_call 62
    go_must (refine (SZ.out _).mono ?_)
    rintro e w1 ⟨rfl, b1⟩
    have x1 := (Box.new w 24 #[.int .i64 R, .int .i64 K, .slice (some ad) n c]).below b1 (by simp)
    obtain ⟨y0, y1, y2, _⟩ := x1.three
    have b2 := ((Below.refl w.heap.size w).alloc (Nat.le_refl _) (.cells #[.int .i64 R, .int .i64 K, .slice (some ad) n c] 24)).trans (b1.mono (by simp))
    clear b1 SZ)
  go_ret
  refine ⟨⟨c - x, ?_, by omega, by omega⟩, b2⟩
  first | rfl | (show Ending.returned (.slice _ (x + K - x) _) = _; rw [Nat.add_sub_cancel_left])
/-- what such a row reads -/
theorem row_seen {w : World} {B n R K r : Nat} {ad : Addr} {l : List PG.Cl} (hl : SeenC w B (some ad) n l) (hn : n = R * K) (hr : r < R) (h0 : 1 ≤ K) : SeenC w B (some (ad.add (r * K * 5))) K ((l.drop (r * K)).take K) := by
  have hle : r * K + K ≤ R * K := by rw [← Nat.succ_mul]; exact Nat.mul_le_mul_right K hr
  have h := (hl.drop (k := r * K) (cap := n) (by omega) (Nat.le_refl _)).take (k := K) (by omega)
  rw [if_neg (by omega)] at h
  exact h
set_option maxHeartbeats 1000000 in
theorem row_out (R K n c : Nat) (r : Int) (A : Option Addr) (w : World) (hn : n = R * K) (h1 : 1 ≤ R) (hr : r < 0 ∨ (R : Int) ≤ r) (hR : R ≤ 40) (h0 : 1 ≤ K) (hK : K ≤ 60) :
    Calls Tryd.prog 64 #[gv R K (.slice A n c), .int .i64 r] w fun e w' => e = .returned (.slice none 0 0) ∧ Below w.heap.size w w' := by
  have SZ := hide (fun w' => sized_any R K n c A w' hn h1 hR h0 hK)
  unfold gv at SZ
  clear hn
  unfold gv
  rcases hr with hr | hr
  · go_enter Tryd.func64, Tryd.ntmps64
    go_wp2_with (
      go_at_call 62
      go_must (refine (SZ.out _).mono ?_)
      rintro e w1 ⟨rfl, b1⟩
      have x1 := (Box.new w 24 #[.int .i64 R, .int .i64 K, .slice A n c]).below b1 (by simp)
      obtain ⟨y0, y1, y2, _⟩ := x1.three
      have b2 := ((Below.refl w.heap.size w).alloc (Nat.le_refl _) (.cells #[.int .i64 R, .int .i64 K, .slice A n c] 24)).trans (b1.mono (by simp))
      clear b1 SZ)
    go_ret
    exact ⟨rfl, b2⟩
  · have hr0 : 0 ≤ r := by omega
    go_enter Tryd.func64, Tryd.ntmps64
    go_wp2_with (
      go_at_call 62
      go_must (refine (SZ.out _).mono ?_)
      rintro e w1 ⟨rfl, b1⟩
      have x1 := (Box.new w 24 #[.int .i64 R, .int .i64 K, .slice A n c]).below b1 (by simp)
      obtain ⟨y0, y1, y2, _⟩ := x1.three
      have b2 := ((Below.refl w.heap.size w).alloc (Nat.le_refl _) (.cells #[.int .i64 R, .int .i64 K, .slice A n c] 24)).trans (b1.mono (by simp))
      clear b1 SZ)
    go_ret
    exact ⟨rfl, b2⟩
set_option maxHeartbeats 1000000 in
/-- is there a cell of kind k at place j? -/
theorem is_at (l : List PG.Cl) (n c B : Nat) (j k : Int) (b : Bool) (A : Option Addr) (w : World) (hl : SeenC w B A n l) (hn : n ≤ 1099511627776)
    (hb : (b = true ∧ ∃ q : Nat, j = q ∧ ∃ d, l[q]? = some d ∧ PG.kd d = k) ∨ (b = false ∧ (j < 0 ∨ (n : Int) ≤ j ∨ ∃ q : Nat, j = q ∧ ∃ d, l[q]? = some d ∧ PG.kd d ≠ k))) :
    Calls Tryd.prog 87 #[.slice A n c, .int .i64 j, .int .i64 k] w fun e w' => e = .returned (.bool b) ∧ w = w' := by
  have hlen := hl.len
  rcases hb with ⟨rfl, q, rfl, d, hd, rfl⟩ | ⟨rfl, h | h | ⟨q, rfl, d, hd, hk⟩⟩
  · have hq : q < n := by rw [← hlen]; exact (List.getElem?_eq_some_iff.1 hd).1
    obtain ⟨ad, rfl, _, d0, d1, _⟩ := hl.five hd
    clear hl hd hlen
    generalize PG.kd d = k at *
    go_enter Tryd.func87, Tryd.ntmps87
    go_wp2_with fail
    go_ret
    exact ⟨c_bool (by simp), rfl⟩
  · clear hl hlen
    go_enter Tryd.func87, Tryd.ntmps87
    go_wp2_with fail
    go_ret
    exact ⟨rfl, rfl⟩
  · have h0 : 0 ≤ j := by omega
    clear hl hlen
    go_enter Tryd.func87, Tryd.ntmps87
    go_wp2_with fail
    go_ret
    exact ⟨rfl, rfl⟩
  · have hq : q < n := by rw [← hlen]; exact (List.getElem?_eq_some_iff.1 hd).1
    obtain ⟨ad, rfl, _, d0, d1, _⟩ := hl.five hd
    clear hl hd hlen
    have hz : (PG.kd d == k) = false := by simpa using hk
    generalize PG.kd d = kk at *
    clear hk
    go_enter Tryd.func87, Tryd.ntmps87
    go_wp2_with fail
    go_ret
    exact ⟨rfl, rfl⟩
/-- is it half of a wide rune without the other half? -/
def aloneB (l : List PG.Cl) (k : Nat) : Bool := decide ((PG.kd (fnL l k) = 1 ∧ ¬ (k + 1 < l.length ∧ PG.kd (fnL l (k + 1)) = 2)) ∨ (PG.kd (fnL l k) = 2 ∧ ¬ (0 < k ∧ PG.kd (fnL l (k - 1)) = 1)))
theorem mend_alone (l : List PG.Cl) (k : Nat) : PG.mend (fnL l) l.length k = if aloneB l k = true then PG.blank (PG.pn (fnL l k)) else fnL l k := by
  unfold PG.mend aloneB
  simp only [decide_eq_true_eq]
set_option maxHeartbeats 1000000 in
theorem alone_any (l : List PG.Cl) (n c B k : Nat) (A : Option Addr) (w : World) (hl : SeenC w B A n l) (hn : n ≤ 1099511627776) (hk : k < n) :
    Calls Tryd.prog 81 #[.slice A n c, .int .i64 k] w fun e w' => e = .returned (.bool (aloneB l k)) ∧ w = w' := by
  have hlen := hl.len
  have IS := hide (fun j q b hb => is_at l n c B j q b A w hl hn hb)
  have hck : l[k]? = some l[k] := List.getElem?_eq_getElem (by omega)
  generalize l[k] = cc at hck
  have hf := fnL_at hck
  obtain ⟨ad, rfl, _, d0, d1, _⟩ := hl.five hck
  by_cases h1 : PG.kd cc = 1
  · by_cases h2 : k + 1 < l.length ∧ PG.kd (fnL l (k + 1)) = 2
    · have e : aloneB l k = false := by unfold aloneB; rw [hf, decide_eq_false_iff_not]; rintro (⟨_, x⟩ | ⟨x, _⟩); exact x h2; omega
      have I := hide (IS.out ((k : Int) + 1) 2 true (.inl ⟨rfl, k + 1, by omega, _, List.getElem?_eq_getElem h2.1, by rw [← fnL_at (List.getElem?_eq_getElem h2.1)]; exact h2.2⟩))
      rw [e]
      rw [h1] at d1
      clear hl hck hlen IS h2 e hf h1 d0
      go_enter Tryd.func81, Tryd.ntmps81
      go_wp2_with (go_at_call 87; go_must (refine (I.out).mono ?_); rintro e w1 ⟨rfl, rfl⟩)
      go_ret
      exact ⟨rfl, rfl⟩
    · have e : aloneB l k = true := by unfold aloneB; rw [hf, decide_eq_true_eq]; exact .inl ⟨h1, h2⟩
      have I := hide (IS.out ((k : Int) + 1) 2 false (.inr ⟨rfl, by
        by_cases h3 : k + 1 < l.length
        · exact .inr (.inr ⟨k + 1, by omega, _, List.getElem?_eq_getElem h3, fun h4 => h2 ⟨h3, by rw [fnL_at (List.getElem?_eq_getElem h3)]; exact h4⟩⟩)
        · exact .inr (.inl (by omega))⟩))
      rw [e]
      rw [h1] at d1
      clear hl hck hlen IS h2 e hf h1 d0
      go_enter Tryd.func81, Tryd.ntmps81
      go_wp2_with (go_at_call 87; go_must (refine (I.out).mono ?_); rintro e w1 ⟨rfl, rfl⟩)
      go_ret
      exact ⟨rfl, rfl⟩
  · by_cases h3 : PG.kd cc = 2
    · by_cases h2 : 0 < k ∧ PG.kd (fnL l (k - 1)) = 1
      · have e : aloneB l k = false := by unfold aloneB; rw [hf, decide_eq_false_iff_not]; rintro (⟨x, _⟩ | ⟨_, x⟩); exact h1 x; exact x h2
        have hp : l[k - 1]? = some l[k - 1] := List.getElem?_eq_getElem (by omega)
        have I := hide (IS.out ((k : Int) - 1) 1 true (.inl ⟨rfl, k - 1, by omega, _, hp, by rw [← fnL_at hp]; exact h2.2⟩))
        rw [e]
        rw [h3] at d1
        clear hl hck hlen IS h2 e hf h1 h3 d0 hp
        go_enter Tryd.func81, Tryd.ntmps81
        go_wp2_with (go_at_call 87; go_must (refine (I.out).mono ?_); rintro e w1 ⟨rfl, rfl⟩)
        go_ret
        exact ⟨rfl, rfl⟩
      · have e : aloneB l k = true := by unfold aloneB; rw [hf, decide_eq_true_eq]; exact .inr ⟨h3, h2⟩
        have I := hide (IS.out ((k : Int) - 1) 1 false (.inr ⟨rfl, by
          by_cases h4 : 0 < k
          · have hp : l[k - 1]? = some l[k - 1] := List.getElem?_eq_getElem (by omega)
            exact .inr (.inr ⟨k - 1, by omega, _, hp, fun h5 => h2 ⟨h4, by rw [fnL_at hp]; exact h5⟩⟩)
          · exact .inl (by omega)⟩))
        rw [e]
        rw [h3] at d1
        clear hl hck hlen IS h2 e hf h1 h3 d0
        go_enter Tryd.func81, Tryd.ntmps81
        go_wp2_with (go_at_call 87; go_must (refine (I.out).mono ?_); rintro e w1 ⟨rfl, rfl⟩)
        go_ret
        exact ⟨rfl, rfl⟩
    · have e : aloneB l k = false := by unfold aloneB; rw [hf, decide_eq_false_iff_not]; rintro (⟨x, _⟩ | ⟨x, _⟩); exact h1 x; exact h3 x
      have q1 : (PG.kd cc == 1) = false := by simpa using h1
      have q2 : (PG.kd cc == 2) = false := by simpa using h3
      rw [e]
      clear hl hck hlen IS e hf d0 h1 h3
      go_enter Tryd.func81, Tryd.ntmps81
      go_wp2_with fail
      go_ret
      exact ⟨rfl, rfl⟩
theorem alone_is (l : List PG.Cl) (n c B k : Nat) (b : Bool) (e : aloneB l k = b) (A : Option Addr) (w : World) (hl : SeenC w B A n l) (hn : n ≤ 1099511627776) (hk : k < n) :
    Calls Tryd.prog 81 #[.slice A n c, .int .i64 k] w fun e w' => e = .returned (.bool b) ∧ Below w.heap.size w w' := by
  subst e
  refine (alone_any l n c B k A w hl hn hk).mono ?_
  rintro e w' ⟨rfl, rfl⟩
  exact ⟨rfl, Below.refl _ _⟩
end Go.Proofs.YtdcdinlppjlmfaaDoor
set_option maxRecDepth 100000
namespace Go.Proofs.YtdcdinlppjlmfaaDoor
open Go.RowKit
set_option linter.unusedVariables false
/-- the first k of a row that was just made, mended -/
def halfN (l : List PG.Cl) (k : Nat) : List PG.Cl := (mendL l).take k ++ List.replicate (l.length - k) PG.none
theorem halfN_zero (l : List PG.Cl) : halfN l 0 = List.replicate l.length PG.none := by simp [halfN]
theorem halfN_all (l : List PG.Cl) : halfN l l.length = mendL l := by
  unfold halfN
  rw [List.take_of_length_le (by rw [mendL_len]; exact Nat.le_refl _), Nat.sub_self, List.replicate_zero, List.append_nil]
theorem halfN_len {l : List PG.Cl} {k : Nat} (hk : k ≤ l.length) : (halfN l k).length = l.length := by
  unfold halfN
  rw [List.length_append, List.length_take, List.length_replicate, mendL_len]
  omega
theorem halfN_set {l : List PG.Cl} {k : Nat} (hk : k < l.length) : (halfN l k).set k (PG.mend (fnL l) l.length k) = halfN l (k + 1) := by
  unfold halfN
  have e : ((mendL l).take k).length = k := by rw [List.length_take, mendL_len]; omega
  rw [List.set_append_right _ _ (by omega), e, Nat.sub_self, show l.length - k = (l.length - (k + 1)) + 1 by omega, List.replicate_succ, List.set_cons_zero, List.take_add_one, mendL_at hk]
  simp
theorem halfN_at {l : List PG.Cl} {k : Nat} (hk : k < l.length) : (halfN l k)[k]? = some PG.none := by
  have e : ((mendL l).take k).length = k := by rw [List.length_take, mendL_len]; omega
  unfold halfN
  rw [List.getElem?_append_right (by omega), e, Nat.sub_self, List.getElem?_replicate, if_pos (by omega)]
/-- what a store of one struct into a row of the call's own leaves, for the walk -/
theorem own_five_set {w : World} {base n g cap k : Nat} {c : PG.Cl} {e : TypeId} {l : List PG.Cl} (h : w.ownsRow base e 5 (.slice (some ⟨g, 0, none⟩) n cap) n (ccells (l.set k c))) (hk : k < l.length) :
    w.cell? ⟨g, k * 5, none⟩ = some (.int .i32 (PG.rn c)) ∧ w.cell? ⟨g, k * 5 + 1, none⟩ = some (.int .i64 (PG.kd c)) ∧ w.cell? ⟨g, k * 5 + 2, none⟩ = some (.int .i64 (PG.pn c).1) ∧ w.cell? ⟨g, k * 5 + 3, none⟩ = some (.int .i64 (PG.pn c).2.1) ∧ w.cell? ⟨g, k * 5 + 4, none⟩ = some (.int .i64 (PG.pn c).2.2) ∧
    w.frozen? ⟨g, k * 5, none⟩ = false ∧ w.frozen? ⟨g, k * 5 + 1, none⟩ = false ∧ w.frozen? ⟨g, k * 5 + 2, none⟩ = false ∧ w.frozen? ⟨g, k * 5 + 3, none⟩ = false ∧ w.frozen? ⟨g, k * 5 + 4, none⟩ = false :=
  own_five h (by rw [List.getElem?_set_self hk])
end Go.Proofs.YtdcdinlppjlmfaaDoor
set_option maxRecDepth 100000
namespace Go.Proofs.YtdcdinlppjlmfaaDoor
open Go.RowKit
set_option linter.unusedVariables false
/-- a call gives a grid back, its n cells in new memory, as many as there is room for -/
def MadeG (w : World) (R K n : Nat) (l : List PG.Cl) (e : Ending) (w' : World) : Prop := ∃ g, e = .returned (gv R K (.slice (some ⟨g, 0, none⟩) n n)) ∧ w'.ownsRow w.heap.size 58 5 (.slice (some ⟨g, 0, none⟩) n n) n (ccells l) ∧ Below w.heap.size w w'
/-- what x takes in a row -/
def putCells (x : Int) (p : PG.Pn) : List PG.Cl := if C.width x = 1 then [(x, 0, p)] else if C.width x = 2 then [(x, 1, p), (0, 2, p)] else []
theorem putCells_len (x : Int) (p : PG.Pn) : ((putCells x p).length : Int) = C.width x := by
  unfold putCells
  rcases PG.width_bd x with h | h | h <;> rw [h] <;> rfl
theorem blanks_set {n k : Nat} (p : PG.Pn) (hk : k < n) : (List.replicate k (PG.blank p) ++ List.replicate (n - k) PG.none).set k (PG.blank p) = List.replicate (k + 1) (PG.blank p) ++ List.replicate (n - (k + 1)) PG.none := by
  rw [List.set_append_right _ _ (by simp), List.length_replicate, Nat.sub_self, show n - k = (n - (k + 1)) + 1 by omega, List.replicate_succ (n := n - (k + 1)), List.set_cons_zero, List.replicate_succ' (n := k)]
  simp
end Go.Proofs.YtdcdinlppjlmfaaDoor
set_option maxRecDepth 100000
namespace Go.Proofs.YtdcdinlppjlmfaaDoor
open Go.RowKit
set_option linter.unusedVariables false
set_option maxHeartbeats 2000000 in
theorem new_any (r c : Int) (R K : Nat) (p : PG.Pn) (w : World) (hr0 : -9223372036854775808 ≤ r) (hr1 : r ≤ 9223372036854775807) (hc0 : -9223372036854775808 ≤ c) (hc1 : c ≤ 9223372036854775807)
    (hR : (R = 1 ∧ r < 1) ∨ ((R : Int) = r ∧ 1 ≤ r ∧ r ≤ 40) ∨ (R = 40 ∧ 40 < r)) (hK : (K = 1 ∧ c < 1) ∨ ((K : Int) = c ∧ 1 ≤ c ∧ c ≤ 60) ∨ (K = 60 ∧ 60 < c)) :
    Calls Tryd.prog 22 #[.int .i64 r, .int .i64 c, pv p] w (MadeG w R K (R * K) (List.replicate (R * K) (PG.blank p))) := by
  obtain ⟨i0, hi, hz0, hz1, hz2⟩ := info_parts info_cell
  have BC : ∀ (p : PG.Pn) (w' : World), Calls Tryd.prog 39 #[.agg #[.int .i64 p.1, .int .i64 p.2.1, .int .i64 p.2.2]] w' fun e w'' => e = .returned (.agg #[.int .i32 32, .int .i64 0, .int .i64 p.1, .int .i64 p.2.1, .int .i64 p.2.2]) ∧ Below w'.heap.size w' w'' := fun p w' => blank_any _ _ _ w'
  have BC := hide BC
  have hR1 : 1 ≤ R ∧ R ≤ 40 := by omega
  have hK1 : 1 ≤ K ∧ K ≤ 60 := by omega
  have eRK : (R : Int) * (K : Int) = ((R * K : Nat) : Int) := by simp
  have hn1 : 1 ≤ R * K := Nat.mul_le_mul hR1.1 hK1.1
  have hn2 : R * K ≤ 2400 := Nat.mul_le_mul hR1.2 hK1.2
  have hby := hide (show i0.bytes * (R * K) ≤ 281474976710656 by rw [hz2]; omega)
  obtain ⟨r1, e1⟩ : ∃ r1, (if r < 1 then (1 : Int) else r) = r1 := ⟨_, rfl⟩
  obtain ⟨c1, e3⟩ : ∃ c1, (if c < 1 then (1 : Int) else c) = c1 := ⟨_, rfl⟩
  have e2 : (if (40 : Int) < r1 then (40 : Int) else r1) = (R : Int) := by rw [← e1]; split <;> split <;> omega
  have e4 : (if (60 : Int) < c1 then (60 : Int) else c1) = (K : Int) := by rw [← e3]; split <;> split <;> omega
  clear hR hK hz2
  generalize R * K = n at *
  unfold MadeG pv gv
  go_enter Tryd.func22, Tryd.ntmps22
  go_wp2_with (
    at_make
    go_must (refine wpList_make_full _ rfl (.tmp 17) (.tmp 17) 22 rfl w.heap.size 58 i0 _ 5 Tryd.underlying22 hi hz0 hz1 .i64 .i64 _ _ n rfl rfl (by omega) (by omega) hby.out (by simp only [maxLen]; omega) (by simp; omega) ?_)
    intro w1 hown1 hg1
    rw [made_cells, World.size_alloc, World.size_alloc] at hown1
    obtain ⟨x0, x1, bb⟩ := boxes2b (below_of_grown hg1 (Nat.le_refl _) (by simp))
    have hown1 := hide hown1
    clear hg1 e1 e2 e3 e4)
  go_loopw [21] (fun i wr => ∃ k : Nat, k ≤ n ∧ i = .int .i64 k ∧ Box wr w.heap.size 26 #[.int .i64 p.1, .int .i64 p.2.1, .int .i64 p.2.2] ∧ Box wr (w.heap.size + 1) 24 #[.int .i64 0, .int .i64 0, .slice none 0 0] ∧
      wr.ownsRow w.heap.size 58 5 (.slice (some ⟨w.heap.size + 1 + 1, 0, none⟩) n n) n (ccells (List.replicate k (PG.blank p) ++ List.replicate (n - k) PG.none)) ∧ Below w.heap.size w wr)
    (fun i _ => n - (intOf i).toNat)
  case atStart => exact ⟨0, Nat.zero_le _, rfl, x0, x1, by rw [List.replicate_zero, List.nil_append, Nat.sub_zero]; exact hown1.out, bb⟩
  case round =>
    clear hown1 bb x0 x1 hby
    obtain ⟨k, hk, rfl, x0, x1, ho, hb⟩ := hrel
    obtain ⟨y0, y1, y2, _⟩ := x0.three
    have l0 := x0.lt
    have l2 : w.heap.size + 1 + 1 < wr.heap.size := (ho.lt _ rfl).2
    have lb : w.heap.size ≤ wr.heap.size := hb.size
    by_cases hlt : k < n
    · have hll : (List.replicate k (PG.blank p) ++ List.replicate (n - k) PG.none).length = n := by simp; omega
      have hck : (List.replicate k (PG.blank p) ++ List.replicate (n - k) PG.none)[k]? = some PG.none := by
        rw [List.getElem?_append_right (by simp), List.length_replicate, Nat.sub_self, List.getElem?_replicate, if_pos (by omega)]
      have FIN : ∀ w3, Below wr.heap.size wr w3 →
          (w3.cell? ⟨w.heap.size + 1 + 1, k * 5, none⟩ = some (.int .i32 (PG.rn PG.none)) ∧ w3.cell? ⟨w.heap.size + 1 + 1, k * 5 + 1, none⟩ = some (.int .i64 (PG.kd PG.none)) ∧ w3.cell? ⟨w.heap.size + 1 + 1, k * 5 + 2, none⟩ = some (.int .i64 (PG.pn PG.none).1) ∧ w3.cell? ⟨w.heap.size + 1 + 1, k * 5 + 3, none⟩ = some (.int .i64 (PG.pn PG.none).2.1) ∧ w3.cell? ⟨w.heap.size + 1 + 1, k * 5 + 4, none⟩ = some (.int .i64 (PG.pn PG.none).2.2) ∧
            w3.frozen? ⟨w.heap.size + 1 + 1, k * 5, none⟩ = false ∧ w3.frozen? ⟨w.heap.size + 1 + 1, k * 5 + 1, none⟩ = false ∧ w3.frozen? ⟨w.heap.size + 1 + 1, k * 5 + 2, none⟩ = false ∧ w3.frozen? ⟨w.heap.size + 1 + 1, k * 5 + 3, none⟩ = false ∧ w3.frozen? ⟨w.heap.size + 1 + 1, k * 5 + 4, none⟩ = false) ∧
          Box (store5 w3 (w.heap.size + 1 + 1) (k * 5) (PG.blank p)) w.heap.size 26 #[.int .i64 p.1, .int .i64 p.2.1, .int .i64 p.2.2] ∧ Box (store5 w3 (w.heap.size + 1 + 1) (k * 5) (PG.blank p)) (w.heap.size + 1) 24 #[.int .i64 0, .int .i64 0, .slice none 0 0] ∧
          (store5 w3 (w.heap.size + 1 + 1) (k * 5) (PG.blank p)).ownsRow w.heap.size 58 5 (.slice (some ⟨w.heap.size + 1 + 1, 0, none⟩) n n) n (ccells (List.replicate (k + 1) (PG.blank p) ++ List.replicate (n - (k + 1)) PG.none)) ∧ Below w.heap.size w (store5 w3 (w.heap.size + 1 + 1) (k * 5) (PG.blank p)) := fun w3 h3 => by
        have o3 := ho.kept (grown_of_below h3 none) (by simp [Value.ownBlock])
        have S := own_store5 o3 (k := k) (PG.blank p) (by omega) hll
        have hs3 := h3.size
        refine ⟨own_five o3 hck, (x0.below h3 x0.lt).grown S.2 (fun e => by injection e with e; omega), (x1.below h3 x1.lt).grown S.2 (fun e => by injection e with e; omega), ?_, (hb.trans (h3.mono lb)).grown S.2 (by omega) (by rintro _ ⟨⟩; omega)⟩
        rw [← blanks_set p hlt]
        exact S.1
      have FIN := hide FIN
      clear ho hck x0 x1 hll
      go_wp2_with (
        go_at_call 39
        go_must (refine (BC.out p _).mono ?_)
        rintro e w3 ⟨rfl, b3⟩
        obtain ⟨⟨v0, v1, v2, v3, v4, f0, f1, f2, f3, f4⟩, G2⟩ := FIN.out _ b3
        have G2 := hide G2
        clear b3 FIN)
      go_roundw
      case rel => exact ⟨k + 1, by omega, by go_num, G2.out⟩
      case measure => simp [intOf]; omega
    · obtain rfl : k = n := by omega
      rw [Nat.sub_self, List.replicate_zero, List.append_nil] at ho
      have n1 := own_ne_box ho x1 (by decide)
      have X := x1.set3 (.int .i64 R) (.int .i64 K) (.slice (some ⟨w.heap.size + 1 + 1, 0, none⟩) k k)
      have O := ownsRow_setCell_other (ownsRow_setCell_other (ownsRow_setCell_other ho (a := ⟨w.heap.size + 1, 0, none⟩) n1 (.int .i64 R)) (a := ⟨w.heap.size + 1, 1, none⟩) n1 (.int .i64 K)) (a := ⟨w.heap.size + 1, 2, none⟩) n1 (.slice (some ⟨w.heap.size + 1 + 1, 0, none⟩) k k)
      have bz := below_set3 hb (show w.heap.size ≤ w.heap.size + 1 by omega) (.int .i64 R) (.int .i64 K) (.slice (some ⟨w.heap.size + 1 + 1, 0, none⟩) k k)
      obtain ⟨j0, j1, j2, _⟩ := X.three
      obtain ⟨q0, q1, q2, q3, q4, q5⟩ := x1.three
      have O := hide O
      have bz := hide bz
      clear ho BC
      go_wp2_with fail
      refine bodyPost_ret (v := .agg #[.int .i64 R, .int .i64 K, .slice (some ⟨w.heap.size + 1 + 1, 0, none⟩) k k]) (by simp [results, Tryd.results22, go_sem, j0, j1, j2]) rfl ⟨_, rfl, O.out, bz.out⟩
end Go.Proofs.YtdcdinlppjlmfaaDoor
