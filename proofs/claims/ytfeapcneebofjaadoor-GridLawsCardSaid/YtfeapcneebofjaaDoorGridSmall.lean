/- The contracts of package grid's own small functions: sized, row, is, alone. -/
import Derived.Test.YtfeapcneebofjaaDoorGridCopy
import Derived.Test.YtfeapcneebofjaaDoorGridMend
import Derived.WalkSpells
import Derived.WalkLawsBesides
set_option maxRecDepth 100000
namespace Go.Proofs.YtfeapcneebofjaaDoor
open Go.RowKit
set_option linter.unusedVariables false
set_option maxHeartbeats 1000000 in
theorem sized_any (R K n c : Nat) (A : Option Addr) (w : World) (hn : n = R * K) (h1 : 1 ≤ R) (hR : R ≤ 40) (h0 : 1 ≤ K) (hK : K ≤ 60) :
    Calls Tryd.prog 32 #[gv R K (.slice A n c)] w fun e w' => e = .returned (.bool true) ∧ Below w.heap.size w w' := by
  have e1 : (R : Int) * (K : Int) = (n : Int) := by rw [hn]; simp
  have hn5 : n ≤ 2400 := by rw [hn]; exact Nat.mul_le_mul hR hK
  have q1 : ((R : Int) ≥ 1) := by omega
  clear hn
  unfold gv
  go_enter Tryd.func32, Tryd.ntmps32
  go_wp2_with fail
  go_ret
  exact ⟨rfl, (Below.refl _ _).alloc (Nat.le_refl _) _⟩
set_option maxHeartbeats 1000000 in
theorem row_any (R K r n c : Nat) (ad : Addr) (w : World) (hn : n = R * K) (hnc : n ≤ c) (hc : c ≤ maxLen) (hr : r < R) (hR : R ≤ 40) (h0 : 1 ≤ K) (hK : K ≤ 60) :
    Calls Tryd.prog 28 #[gv R K (.slice (some ad) n c), .int .i64 r] w fun e w' => (∃ c', e = .returned (.slice (some (ad.add (r * K * 5))) K c') ∧ K ≤ c' ∧ c' ≤ maxLen) ∧ Below w.heap.size w w' := by
  have SZ := hide (fun w' => sized_any R K n c (some ad) w' hn (by omega) hR h0 hK)
  have hle : r * K + K ≤ R * K := by rw [← Nat.succ_mul]; exact Nat.mul_le_mul_right K hr
  have hRK : R * K ≤ 2400 := Nat.mul_le_mul hR hK
  have e1 : (r : Int) * (K : Int) = ((r * K : Nat) : Int) := by simp
  have e2 : ((r : Int) + 1) * (K : Int) = ((r * K + K : Nat) : Int) := by rw [Int.add_mul, e1]; simp
  unfold gv at SZ
  generalize r * K = x at *
  rw [← hn] at hle hRK
  clear hn
  unfold gv
  go_enter Tryd.func28, Tryd.ntmps28
  go_wp2_with (
    go_at_call 32
    go_must (refine (SZ.out _).mono ?_)
    rintro e w1 ⟨rfl, b1⟩
    have x1 := (Box.new w 26 #[.int .i64 R, .int .i64 K, .slice (some ad) n c]).below b1 (by simp)
    obtain ⟨y0, y1, y2, _⟩ := x1.three
    have b2 := ((Below.refl w.heap.size w).alloc (Nat.le_refl _) (.cells #[.int .i64 R, .int .i64 K, .slice (some ad) n c] 26)).trans (b1.mono (by simp))
    clear b1 SZ)
  go_ret
  refine ⟨⟨c - x, ?_, by omega, by omega⟩, b2⟩
  first | rfl | (show Ending.returned (.slice _ (x + K - x) _) = _; rw [Nat.add_sub_cancel_left])
/-- what such a row reads -/
theorem row_seen {w : World} {B n R K r : Nat} {ad : Addr} {l : List PG.Cl} (hl : SeenC w B (some ad) n l) (hn : n = R * K) (hr : r < R) (h0 : 1 ≤ K) : SeenC w B (some (ad.add (r * K * 5))) K ((l.drop (r * K)).take K) := by
  have hle : r * K + K ≤ R * K := by rw [← Nat.succ_mul]; exact Nat.mul_le_mul_right K hr
  have h := (hl.drop (k := r * K) (cap := n) (by omega) (Nat.le_refl _)).take (k := K) (by omega)
  rw [if_neg (by omega)] at h
  exact h
set_option maxHeartbeats 1000000 in
theorem row_out (R K n c : Nat) (r : Int) (A : Option Addr) (w : World) (hn : n = R * K) (h1 : 1 ≤ R) (hr : r < 0 ∨ (R : Int) ≤ r) (hR : R ≤ 40) (h0 : 1 ≤ K) (hK : K ≤ 60) :
    Calls Tryd.prog 28 #[gv R K (.slice A n c), .int .i64 r] w fun e w' => e = .returned (.slice none 0 0) ∧ Below w.heap.size w w' := by
  have SZ := hide (fun w' => sized_any R K n c A w' hn h1 hR h0 hK)
  unfold gv at SZ
  clear hn
  unfold gv
  rcases hr with hr | hr
  · go_enter Tryd.func28, Tryd.ntmps28
    go_wp2_with (
      go_at_call 32
      go_must (refine (SZ.out _).mono ?_)
      rintro e w1 ⟨rfl, b1⟩
      have x1 := (Box.new w 26 #[.int .i64 R, .int .i64 K, .slice A n c]).below b1 (by simp)
      obtain ⟨y0, y1, y2, _⟩ := x1.three
      have b2 := ((Below.refl w.heap.size w).alloc (Nat.le_refl _) (.cells #[.int .i64 R, .int .i64 K, .slice A n c] 26)).trans (b1.mono (by simp))
      clear b1 SZ)
    go_ret
    exact ⟨rfl, b2⟩
  · have hr0 : 0 ≤ r := by omega
    go_enter Tryd.func28, Tryd.ntmps28
    go_wp2_with (
      go_at_call 32
      go_must (refine (SZ.out _).mono ?_)
      rintro e w1 ⟨rfl, b1⟩
      have x1 := (Box.new w 26 #[.int .i64 R, .int .i64 K, .slice A n c]).below b1 (by simp)
      obtain ⟨y0, y1, y2, _⟩ := x1.three
      have b2 := ((Below.refl w.heap.size w).alloc (Nat.le_refl _) (.cells #[.int .i64 R, .int .i64 K, .slice A n c] 26)).trans (b1.mono (by simp))
      clear b1 SZ)
    go_ret
    exact ⟨rfl, b2⟩
set_option maxHeartbeats 1000000 in
/-- is there a cell of kind k at place j? -/
theorem is_at (l : List PG.Cl) (n c B : Nat) (j k : Int) (b : Bool) (A : Option Addr) (w : World) (hl : SeenC w B A n l) (hn : n ≤ 1099511627776)
    (hb : (b = true ∧ ∃ q : Nat, j = q ∧ ∃ d, l[q]? = some d ∧ PG.kd d = k) ∨ (b = false ∧ (j < 0 ∨ (n : Int) ≤ j ∨ ∃ q : Nat, j = q ∧ ∃ d, l[q]? = some d ∧ PG.kd d ≠ k))) :
    Calls Tryd.prog 48 #[.slice A n c, .int .i64 j, .int .i64 k] w fun e w' => e = .returned (.bool b) ∧ w = w' := by
  have hlen := hl.len
  rcases hb with ⟨rfl, q, rfl, d, hd, rfl⟩ | ⟨rfl, h | h | ⟨q, rfl, d, hd, hk⟩⟩
  · have hq : q < n := by rw [← hlen]; exact (List.getElem?_eq_some_iff.1 hd).1
    obtain ⟨ad, rfl, _, d0, d1, _⟩ := hl.five hd
    clear hl hd hlen
    generalize PG.kd d = k at *
    go_enter Tryd.func48, Tryd.ntmps48
    go_wp2_with fail
    go_ret
    exact ⟨c_bool (by simp), rfl⟩
  · clear hl hlen
    go_enter Tryd.func48, Tryd.ntmps48
    go_wp2_with fail
    go_ret
    exact ⟨rfl, rfl⟩
  · have h0 : 0 ≤ j := by omega
    clear hl hlen
    go_enter Tryd.func48, Tryd.ntmps48
    go_wp2_with fail
    go_ret
    exact ⟨rfl, rfl⟩
  · have hq : q < n := by rw [← hlen]; exact (List.getElem?_eq_some_iff.1 hd).1
    obtain ⟨ad, rfl, _, d0, d1, _⟩ := hl.five hd
    clear hl hd hlen
    have hz : (PG.kd d == k) = false := by simpa using hk
    generalize PG.kd d = kk at *
    clear hk
    go_enter Tryd.func48, Tryd.ntmps48
    go_wp2_with fail
    go_ret
    exact ⟨rfl, rfl⟩
/-- is it half of a wide rune without the other half? -/
def aloneB (l : List PG.Cl) (k : Nat) : Bool := decide ((PG.kd (fnL l k) = 1 ∧ ¬ (k + 1 < l.length ∧ PG.kd (fnL l (k + 1)) = 2)) ∨ (PG.kd (fnL l k) = 2 ∧ ¬ (0 < k ∧ PG.kd (fnL l (k - 1)) = 1)))
theorem mend_alone (l : List PG.Cl) (k : Nat) : PG.mend (fnL l) l.length k = if aloneB l k = true then PG.blank (PG.pn (fnL l k)) else fnL l k := by
  unfold PG.mend aloneB
  simp only [decide_eq_true_eq]
set_option maxHeartbeats 1000000 in
theorem alone_any (l : List PG.Cl) (n c B k : Nat) (A : Option Addr) (w : World) (hl : SeenC w B A n l) (hn : n ≤ 1099511627776) (hk : k < n) :
    Calls Tryd.prog 44 #[.slice A n c, .int .i64 k] w fun e w' => e = .returned (.bool (aloneB l k)) ∧ w = w' := by
  have hlen := hl.len
  have IS := hide (fun j q b hb => is_at l n c B j q b A w hl hn hb)
  have hck : l[k]? = some l[k] := List.getElem?_eq_getElem (by omega)
  generalize l[k] = cc at hck
  have hf := fnL_at hck
  obtain ⟨ad, rfl, _, d0, d1, _⟩ := hl.five hck
  by_cases h1 : PG.kd cc = 1
  · by_cases h2 : k + 1 < l.length ∧ PG.kd (fnL l (k + 1)) = 2
    · have e : aloneB l k = false := by unfold aloneB; rw [hf, decide_eq_false_iff_not]; rintro (⟨_, x⟩ | ⟨x, _⟩); exact x h2; omega
      have I := hide (IS.out ((k : Int) + 1) 2 true (.inl ⟨rfl, k + 1, by omega, _, List.getElem?_eq_getElem h2.1, by rw [← fnL_at (List.getElem?_eq_getElem h2.1)]; exact h2.2⟩))
      rw [e]
      rw [h1] at d1
      clear hl hck hlen IS h2 e hf h1 d0
      go_enter Tryd.func44, Tryd.ntmps44
      go_wp2_with (go_at_call 48; go_must (refine (I.out).mono ?_); rintro e w1 ⟨rfl, rfl⟩)
      go_ret
      exact ⟨rfl, rfl⟩
    · have e : aloneB l k = true := by unfold aloneB; rw [hf, decide_eq_true_eq]; exact .inl ⟨h1, h2⟩
      have I := hide (IS.out ((k : Int) + 1) 2 false (.inr ⟨rfl, by
        by_cases h3 : k + 1 < l.length
        · exact .inr (.inr ⟨k + 1, by omega, _, List.getElem?_eq_getElem h3, fun h4 => h2 ⟨h3, by rw [fnL_at (List.getElem?_eq_getElem h3)]; exact h4⟩⟩)
        · exact .inr (.inl (by omega))⟩))
      rw [e]
      rw [h1] at d1
      clear hl hck hlen IS h2 e hf h1 d0
      go_enter Tryd.func44, Tryd.ntmps44
      go_wp2_with (go_at_call 48; go_must (refine (I.out).mono ?_); rintro e w1 ⟨rfl, rfl⟩)
      go_ret
      exact ⟨rfl, rfl⟩
  · by_cases h3 : PG.kd cc = 2
    · by_cases h2 : 0 < k ∧ PG.kd (fnL l (k - 1)) = 1
      · have e : aloneB l k = false := by unfold aloneB; rw [hf, decide_eq_false_iff_not]; rintro (⟨x, _⟩ | ⟨_, x⟩); exact h1 x; exact x h2
        have hp : l[k - 1]? = some l[k - 1] := List.getElem?_eq_getElem (by omega)
        have I := hide (IS.out ((k : Int) - 1) 1 true (.inl ⟨rfl, k - 1, by omega, _, hp, by rw [← fnL_at hp]; exact h2.2⟩))
        rw [e]
        rw [h3] at d1
        clear hl hck hlen IS h2 e hf h1 h3 d0 hp
        go_enter Tryd.func44, Tryd.ntmps44
        go_wp2_with (go_at_call 48; go_must (refine (I.out).mono ?_); rintro e w1 ⟨rfl, rfl⟩)
        go_ret
        exact ⟨rfl, rfl⟩
      · have e : aloneB l k = true := by unfold aloneB; rw [hf, decide_eq_true_eq]; exact .inr ⟨h3, h2⟩
        have I := hide (IS.out ((k : Int) - 1) 1 false (.inr ⟨rfl, by
          by_cases h4 : 0 < k
          · have hp : l[k - 1]? = some l[k - 1] := List.getElem?_eq_getElem (by omega)
            exact .inr (.inr ⟨k - 1, by omega, _, hp, fun h5 => h2 ⟨h4, by rw [fnL_at hp]; exact h5⟩⟩)
          · exact .inl (by omega)⟩))
        rw [e]
        rw [h3] at d1
        clear hl hck hlen IS h2 e hf h1 h3 d0
        go_enter Tryd.func44, Tryd.ntmps44
        go_wp2_with (go_at_call 48; go_must (refine (I.out).mono ?_); rintro e w1 ⟨rfl, rfl⟩)
        go_ret
        exact ⟨rfl, rfl⟩
    · have e : aloneB l k = false := by unfold aloneB; rw [hf, decide_eq_false_iff_not]; rintro (⟨x, _⟩ | ⟨x, _⟩); exact h1 x; exact h3 x
      have q1 : (PG.kd cc == 1) = false := by simpa using h1
      have q2 : (PG.kd cc == 2) = false := by simpa using h3
      rw [e]
      clear hl hck hlen IS e hf d0 h1 h3
      go_enter Tryd.func44, Tryd.ntmps44
      go_wp2_with fail
      go_ret
      exact ⟨rfl, rfl⟩
theorem alone_is (l : List PG.Cl) (n c B k : Nat) (b : Bool) (e : aloneB l k = b) (A : Option Addr) (w : World) (hl : SeenC w B A n l) (hn : n ≤ 1099511627776) (hk : k < n) :
    Calls Tryd.prog 44 #[.slice A n c, .int .i64 k] w fun e w' => e = .returned (.bool b) ∧ Below w.heap.size w w' := by
  subst e
  refine (alone_any l n c B k A w hl hn hk).mono ?_
  rintro e w' ⟨rfl, rfl⟩
  exact ⟨rfl, Below.refl _ _⟩
end Go.Proofs.YtfeapcneebofjaaDoor
