/- A row's text in plain Lean: how many runes, and the row built anew by Put from left to right. Names no function of a program. -/
import Derived.Test.YtfeapcneebofjaaDoorGridSpec
namespace Go.Proofs.YtfeapcneebofjaaDoor.PG
set_option linter.unusedVariables false
/-- the runes of a row's first n cells, but for Right ones -/
def runes (f : Nat → Cl) (n : Nat) : List Int := ((List.range n).filter fun j => kd (f j) ≠ 2).map fun j => rn (f j)
def wides (l : List Int) : Nat := (l.filter fun x => C.width x = 2).length
theorem runes_succ (f : Nat → Cl) (n : Nat) : runes f (n + 1) = runes f n ++ (if kd (f n) ≠ 2 then [rn (f n)] else []) := by
  unfold runes
  rw [List.range_succ, List.filter_append, List.map_append]
  congr 1
  by_cases h : kd (f n) = 2 <;> simp [h]
theorem runes_congr {f h : Nat → Cl} {n : Nat} (e : ∀ j, j < n → f j = h j) : runes f n = runes h n := by
  induction n with
  | zero => rfl
  | succ n ih => rw [runes_succ, runes_succ, ih fun j hj => e j (by omega), e n (by omega)]
theorem wides_append (a b : List Int) : wides (a ++ b) = wides a + wides b := by
  unfold wides
  rw [List.filter_append, List.length_append]
/-- as many runes as cells, less one for each wide one -/
theorem runes_count {f : Nat → Cl} {n : Nat} (h : RightRow f n) : ∀ c, c ≤ n → (runes f c).length + wides (runes f c) = c + (if 0 < c ∧ kd (f (c - 1)) = 1 then 1 else 0) := by
  intro c
  induction c with
  | zero => intro _; rfl
  | succ c ih =>
    intro hc
    have hi := ih (by omega)
    rw [runes_succ, List.length_append, wides_append]
    rcases (h c (by omega)).2 with ⟨k1, k2⟩ | ⟨k1, k2, _⟩ | ⟨k1, k2, k3, k4⟩
    · have hp : ¬ (0 < c ∧ kd (f (c - 1)) = 1) := fun ⟨a, b⟩ => by
        have := (h.left (j := c - 1) (by omega) b).2.2.1
        rw [show c - 1 + 1 = c from by omega] at this
        omega
      rw [if_neg hp] at hi
      have e : (if kd (f c) ≠ 2 then [rn (f c)] else []) = [rn (f c)] := if_pos (by omega)
      have e2 : wides [rn (f c)] = 0 := by simp [wides, k2]
      rw [e, e2, if_neg (by rw [Nat.add_sub_cancel]; omega)]
      simp only [List.length_singleton]
      omega
    · have hp : ¬ (0 < c ∧ kd (f (c - 1)) = 1) := fun ⟨a, b⟩ => by
        have := (h.left (j := c - 1) (by omega) b).2.2.1
        rw [show c - 1 + 1 = c from by omega] at this
        omega
      rw [if_neg hp] at hi
      have e : (if kd (f c) ≠ 2 then [rn (f c)] else []) = [rn (f c)] := if_pos (by omega)
      have e2 : wides [rn (f c)] = 1 := by simp [wides, k2]
      rw [e, e2, if_pos (by rw [Nat.add_sub_cancel]; omega)]
      simp only [List.length_singleton]
      omega
    · rw [if_pos ⟨k3, k4⟩] at hi
      have e : (if kd (f c) ≠ 2 then [rn (f c)] else []) = [] := if_neg (by omega)
      rw [e, if_neg (by rw [Nat.add_sub_cancel]; omega)]
      show _ + 0 + (_ + 0) = _
      omega
theorem runes_all {f : Nat → Cl} {n : Nat} (h : RightRow f n) : (runes f n).length + wides (runes f n) = n := by
  rw [runes_count h n (Nat.le_refl n), if_neg, Nat.add_zero]
  rintro ⟨a, b⟩
  have := (h.left (j := n - 1) (by omega) b).2.1
  omega
/-- each of them is one or two wide -/
theorem runes_wide {f : Nat → Cl} {n : Nat} (h : RightRow f n) {x : Int} (hx : x ∈ runes f n) : C.width x = 1 ∨ C.width x = 2 := by
  unfold runes at hx
  obtain ⟨j, hj, rfl⟩ := List.mem_map.1 hx
  obtain ⟨hj, hk⟩ := List.mem_filter.1 hj
  have hk : kd (f j) ≠ 2 := by simpa using hk
  rcases (h j (List.mem_range.1 hj)).2 with k | k | k
  · exact .inl k.2
  · exact .inr k.2.1
  · exact absurd k.1 hk
/-! built anew -/
/-- one column more: the law's round -/
def again (f : Nat → Cl) (r : Nat) (o : Gr) (c : Nat) : Gr := if kd (f c) ≠ 2 then putG o r c (rn (f c)) (pn (f c)) else o
/-- what stands there once c columns are done -/
structure Upto (f : Nat → Cl) (R n r c : Nat) (o : Gr) : Prop where
  rows : o.rows = R
  cols : o.cols = n
  done : ∀ j, j < n → o.f r j = if j < c ∨ (j = c ∧ 0 < c ∧ kd (f (c - 1)) = 1) then f j else blank plain
theorem upto_new (f : Nat → Cl) (R n r : Nat) : Upto f R n r 0 (newG R n plain) := ⟨rfl, rfl, fun j _ => by rw [if_neg (by omega)]; rfl⟩
theorem upto_again {f : Nat → Cl} {R n r c : Nat} {o : Gr} (h : RightRow f n) (hr : r < R) (hc : c < n) (u : Upto f R n r c o) : Upto f R n r (c + 1) (again f r o c) := by
  unfold again
  by_cases hk : kd (f c) = 2
  · rw [if_neg (by omega)]
    refine ⟨u.rows, u.cols, fun j hj => ?_⟩
    have hl := h.rightHalf hc hk
    rw [u.done j hj]
    by_cases h1 : j < c + 1
    · rw [if_pos (c := j < c + 1 ∨ _) (.inl h1)]
      by_cases h2 : j < c
      · rw [if_pos (.inl h2)]
      · rw [if_pos (.inr ⟨by omega, hl.2⟩)]
    · rw [if_neg (c := j < c ∨ _) (by omega), if_neg]
      rintro (a | ⟨a, b, d⟩)
      · exact h1 a
      · rw [Nat.add_sub_cancel] at d; omega
  · rw [if_pos hk]
    -- nothing of it stands there yet
    have hp : ¬ (0 < c ∧ kd (f (c - 1)) = 1) := fun ⟨a, b⟩ => by
      have := (h.left (j := c - 1) (by omega) b).2.2.1
      rw [show c - 1 + 1 = c from by omega] at this
      omega
    have hfree : ∀ j, c ≤ j → j < n → o.f r j = blank plain := fun j a b => by
      rw [u.done j b, if_neg]
      rintro (d | ⟨_, d⟩)
      · omega
      · exact hp d
    have hold : ∀ j, j < c → o.f r j = f j := fun j a => by rw [u.done j (by omega), if_pos (.inl a)]
    -- how wide it is
    have hw : C.width (rn (f c)) = 1 ∧ kd (f c) = 0 ∨ C.width (rn (f c)) = 2 ∧ kd (f c) = 1 ∧ c + 1 < n ∧ f (c + 1) = (0, 2, pn (f c)) := by
      rcases (h c hc).2 with ⟨k1, k2⟩ | ⟨k1, k2, k3, k4, k5⟩ | ⟨k1, _⟩
      · exact .inl ⟨k2, k1⟩
      · refine .inr ⟨k2, k1, k3, cl_ext ?_ k4 k5⟩
        exact (h.rightHalf k3 k4).1
      · exact absurd k1 hk
    have hfit : r < o.rows ∧ 1 ≤ C.width (rn (f c)) ∧ c + (C.width (rn (f c))).toNat ≤ o.cols := by
      rw [u.rows, u.cols]
      refine ⟨hr, ?_, ?_⟩ <;> rcases hw with ⟨a, _⟩ | ⟨a, _, b, _⟩ <;> rw [a] <;> first | omega | (show c + 1 ≤ n; omega) | (show c + 2 ≤ n; omega)
    refine ⟨(put_size ..).1.trans u.rows, (put_size ..).2.trans u.cols, fun j hj => ?_⟩
    unfold putG
    rw [if_pos hfit]
    simp only [if_true]
    unfold putRow
    rw [if_neg (c := j + 1 = c ∧ kd (o.f r c) = 2) (by rw [hfree c (Nat.le_refl c) hc, kd_blank]; omega)]
    rcases hw with ⟨a, k⟩ | ⟨a, k, hn, e⟩
    · rw [a]
      show (if j = c then (rn (f c), 0, pn (f c)) else if (1 = 2 ∧ j = c + 1) then _ else if (j = c + 1 ∧ kd (o.f r (c + 1 - 1)) = 1) then _ else o.f r j) = _
      rw [Nat.add_sub_cancel, if_neg (c := (1 : Nat) = 2 ∧ j = c + 1) (by omega), if_neg (c := j = c + 1 ∧ kd (o.f r c) = 1) (by rw [hfree c (Nat.le_refl c) hc, kd_blank]; omega)]
      by_cases h1 : j = c
      · subst h1
        rw [if_pos rfl, if_pos (.inl (by omega))]
        exact cl_ext rfl k.symm rfl
      · rw [if_neg h1]
        by_cases h2 : j < c
        · rw [if_pos (.inl (by omega)), hold j h2]
        · rw [if_neg, hfree j (by omega) hj]
          rintro (d | ⟨_, _, d⟩) <;> omega
    · rw [a]
      show (if j = c then (rn (f c), 1, pn (f c)) else if (2 = 2 ∧ j = c + 1) then (0, 2, pn (f c)) else if (j = c + 2 ∧ kd (o.f r (c + 2 - 1)) = 1) then _ else o.f r j) = _
      rw [show c + 2 - 1 = c + 1 from by omega, if_neg (c := j = c + 2 ∧ kd (o.f r (c + 1)) = 1) (by rw [hfree (c + 1) (by omega) hn, kd_blank]; omega)]
      by_cases h1 : j = c
      · subst h1
        rw [if_pos rfl, if_pos (.inl (by omega))]
        exact cl_ext rfl k.symm rfl
      · rw [if_neg h1]
        by_cases h2 : j = c + 1
        · subst h2
          rw [if_pos ⟨rfl, rfl⟩, if_pos (.inr ⟨rfl, by omega, by rw [Nat.add_sub_cancel]; exact k⟩), e]
        · rw [if_neg (by omega)]
          by_cases h3 : j < c
          · rw [if_pos (.inl (by omega)), hold j h3]
          · rw [if_neg (by omega), hfree j (by omega) hj]
theorem upto_row {f : Nat → Cl} {R n r : Nat} {o : Gr} (u : Upto f R n r n o) {j : Nat} (hj : j < n) : o.f r j = f j := by rw [u.done j hj, if_pos (.inl hj)]
/-- built anew a row's text is the same -/
theorem upto_runes {f : Nat → Cl} {R n r : Nat} {o : Gr} (u : Upto f R n r n o) : runes (o.f r) n = runes f n := runes_congr fun j hj => upto_row u hj
/-! the other laws -/
/-- both of two rows wiped whole, it is a new one -/
theorem wipe_both {g : Gr} (hr : g.rows = 2) (p : Pn) : Alike (wipeG (wipeG g 0 0 g.cols p) 1 0 g.cols p) (newG 2 g.cols p) := by
  have s1 := wipe_size g 0 0 g.cols p
  have s2 := wipe_size (wipeG g 0 0 g.cols p) 1 0 g.cols p
  refine ⟨by rw [s2.1, s1.1, hr]; rfl, by rw [s2.2, s1.2]; rfl, fun i j hi hj => ?_⟩
  rw [s2.1, s1.1, hr] at hi
  rw [s2.2, s1.2] at hj
  show _ = blank p
  have : i = 0 ∨ i = 1 := by omega
  rcases this with e | e
  · subst e
    rw [wipe_other (by omega)]
    exact wipe_all (by omega) p hj
  · subst e
    have := wipe_all (g := wipeG g 0 0 g.cols p) (r := 1) (by rw [s1.1]; omega) p (j := j) (by rw [s1.2]; exact hj)
    rw [s1.2] at this
    exact this
/-- a wide rune alone on a blank row -/
theorem wide_at {n k : Nat} {x : Int} {p q : Pn} (hx : C.width x = 2) (hk : k + 2 ≤ n) (j : Nat) : (putG (newG 1 n p) 0 k x q).f 0 j = if j = k then (x, 1, q) else if j = k + 1 then (0, 2, q) else blank p := by
  unfold putG
  rw [hx, if_pos ⟨by show 0 < 1; omega, by omega, by show k + 2 ≤ n; omega⟩]
  simp only [if_true]
  unfold putRow newG
  show (if j = k then (x, 1, q) else if (2 = 2 ∧ j = k + 1) then (0, 2, q) else if (j + 1 = k ∧ kd (blank p) = 2) then blank (pn (blank p)) else if (j = k + 2 ∧ kd (blank p) = 1) then blank (pn (blank p)) else blank p) = _
  rw [kd_blank, if_neg (c := j + 1 = k ∧ (0 : Int) = 2) (by omega), if_neg (c := j = k + 2 ∧ (0 : Int) = 1) (by omega)]
  by_cases h1 : j = k
  · rw [if_pos h1, if_pos h1]
  · rw [if_neg h1, if_neg h1]
    by_cases h2 : j = k + 1
    · rw [if_pos ⟨rfl, h2⟩, if_pos h2]
    · rw [if_neg (by omega), if_neg h2]
/-- one rune over one half of it: the other half is blank -/
theorem over_half {g : Gr} {n k : Nat} {x y : Int} {p q s : Pn} (hg : g = putG (newG 1 n p) 0 k x q) (hx : C.width x = 2) (hy : C.width y = 1) (hk : k + 2 ≤ n) : (putG g 0 k y s).f 0 (k + 1) = blank q ∧ (putG g 0 (k + 1) y s).f 0 k = blank q := by
  have hs : g.rows = 1 ∧ g.cols = n := by rw [hg]; exact put_size ..
  have hat : ∀ j, g.f 0 j = if j = k then (x, 1, q) else if j = k + 1 then (0, 2, q) else blank p := fun j => by rw [hg]; exact wide_at hx hk j
  have e0 : g.f 0 k = (x, 1, q) := by rw [hat, if_pos rfl]
  have e1 : g.f 0 (k + 1) = (0, 2, q) := by rw [hat, if_neg (by omega), if_pos rfl]
  constructor
  · unfold putG
    rw [hy, if_pos ⟨by omega, by omega, by rw [hs.2]; show k + 1 ≤ n; omega⟩]
    simp only [if_true]
    unfold putRow
    show (if k + 1 = k then _ else if ((1 : Nat) = 2 ∧ _) then _ else if (k + 1 + 1 = k ∧ _) then _ else if (k + 1 = k + 1 ∧ kd (g.f 0 (k + 1 - 1)) = 1) then blank (pn (g.f 0 (k + 1))) else _) = _
    rw [if_neg (by omega), if_neg (by omega), if_neg (by omega), Nat.add_sub_cancel, e0, e1, if_pos ⟨rfl, rfl⟩]
    rfl
  · unfold putG
    rw [hy, if_pos ⟨by omega, by omega, by rw [hs.2]; show k + 1 + 1 ≤ n; omega⟩]
    simp only [if_true]
    unfold putRow
    rw [if_neg (by omega), if_neg (by omega), e1, e0, if_pos ⟨rfl, rfl⟩]
    rfl
/-- wiped through its right half both are blank, each of its pen -/
theorem wipe_half {g : Gr} {n k : Nat} {x : Int} {p q s : Pn} (hg : g = putG (newG 1 n p) 0 k x q) (hx : C.width x = 2) (hk : k + 2 ≤ n) : (wipeG g 0 (k + 1) (k + 2) s).f 0 k = blank q ∧ (wipeG g 0 (k + 1) (k + 2) s).f 0 (k + 1) = blank s := by
  have hs : g.rows = 1 ∧ g.cols = n := by rw [hg]; exact put_size ..
  have hat : ∀ j, g.f 0 j = if j = k then (x, 1, q) else if j = k + 1 then (0, 2, q) else blank p := fun j => by rw [hg]; exact wide_at hx hk j
  have w0 : wiped (g.f 0) (k + 1) (k + 2) s k = (x, 1, q) := by unfold wiped; rw [if_neg (by omega), hat, if_pos rfl]
  have w1 : wiped (g.f 0) (k + 1) (k + 2) s (k + 1) = blank s := by unfold wiped; rw [if_pos (by omega)]
  have e : ∀ j, (wipeG g 0 (k + 1) (k + 2) s).f 0 j = mend (wiped (g.f 0) (k + 1) (k + 2) s) n j := fun j => by
    unfold wipeG
    rw [if_pos (by omega), hs.2]
    simp only [if_true]
  constructor
  · rw [e]
    unfold mend
    rw [w0, w1, if_pos]
    · rfl
    · left
      exact ⟨rfl, fun h => by rw [kd_blank] at h; omega⟩
  · rw [e]
    unfold mend
    rw [w1, if_neg]
    rw [kd_blank]
    omega
/-- cut through it, what is left is blank -/
theorem cut_half {g : Gr} {n k : Nat} {x : Int} {p q : Pn} (hg : g = putG (newG 1 n p) 0 k x q) (hx : C.width x = 2) (hk : k + 2 ≤ n) : (resizeG g 1 (k + 1)).f 0 k = blank q := by
  have hs : g.rows = 1 ∧ g.cols = n := by rw [hg]; exact put_size ..
  have e0 : g.f 0 k = (x, 1, q) := by rw [hg, wide_at hx hk, if_pos rfl]
  show mend (fun j => if 0 < g.rows ∧ j < g.cols then g.f 0 j else blank plain) (k + 1) k = _
  unfold mend
  have c0 : (0 < g.rows ∧ k < g.cols) := by omega
  simp only [c0, and_self, if_true, e0]
  rw [if_pos]
  · rfl
  · left
    exact ⟨rfl, fun h => by omega⟩
end Go.Proofs.YtfeapcneebofjaaDoor.PG
