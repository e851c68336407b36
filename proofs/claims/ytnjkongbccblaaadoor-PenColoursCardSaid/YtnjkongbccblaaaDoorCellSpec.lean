/- Package cell's functions as plain mathematics: how wide a rune is, right pens, a pen's number. -/
import Derived.WalkKit
import Derived.Laws.BitsAllLaws
namespace Go.Proofs.YtnjkongbccblaaaDoor
namespace C
/-- the runes that aren't one wide, between the first seen and the last one -/
def spans : List (Int × Int × Int) := [(127, 159, 0), (768, 879, 0), (4352, 4447, 2), (11904, 42191, 2), (44032, 55203, 2), (55296, 57343, 0), (63744, 64255, 2), (65072, 65135, 2), (65280, 65376, 2), (65504, 65510, 2), (127744, 129791, 2), (131072, 262141, 2)]
def find : List (Int × Int × Int) → Int → Int
  | [], _ => 1
  | s :: r, x => if s.1 ≤ x ∧ x ≤ s.2.1 then s.2.2 else find r x
def width (x : Int) : Int := if x < 32 ∨ 1114111 < x then 0 else find spans x
def wides : List (Int × Int) := [(4352, 4447), (11904, 42191), (44032, 55203), (63744, 64255), (65072, 65135), (65280, 65376), (65504, 65510), (127744, 129791), (131072, 262141)]
def isWide : List (Int × Int) → Int → Int
  | [], _ => 1
  | s :: r, x => if s.1 ≤ x ∧ x ≤ s.2 then 2 else isWide r x
def narrow (n : Int) : Prop := n < 32 ∨ (127 ≤ n ∧ n < 160) ∨ (768 ≤ n ∧ n ≤ 879) ∨ 1114111 < n ∨ (55296 ≤ n ∧ n ≤ 57343)
instance (n : Int) : Decidable (narrow n) := by unfold narrow; infer_instance
def refWidth (n : Int) : Int := if narrow n then 0 else isWide wides n
theorem find_cons_in {a b v x : Int} {r : List (Int × Int × Int)} (h : a ≤ x ∧ x ≤ b) : find ((a, b, v) :: r) x = v := by simp [find, h]
theorem find_cons_out {a b v x : Int} {r : List (Int × Int × Int)} (h : x < a ∨ b < x) : find ((a, b, v) :: r) x = find r x := by
  show (if a ≤ x ∧ x ≤ b then v else find r x) = _
  rw [if_neg (by omega)]
theorem isWide_in {a b x : Int} {r : List (Int × Int)} (h : a ≤ x ∧ x ≤ b) : isWide ((a, b) :: r) x = 2 := by simp [isWide, h]
theorem isWide_out {a b x : Int} {r : List (Int × Int)} (h : x < a ∨ b < x) : isWide ((a, b) :: r) x = isWide r x := by
  show (if a ≤ x ∧ x ≤ b then 2 else isWide r x) = _
  rw [if_neg (by omega)]
theorem width_ref (n : Int) : width n = refWidth n := by
  unfold width refWidth
  by_cases h0 : n < 32 ∨ 1114111 < n
  · rw [if_pos h0, if_pos (show narrow n from by unfold narrow; omega)]
  rw [if_neg h0]
  unfold spans wides
  have go : ∀ (a b v : Int) (r : List (Int × Int × Int)) (y : Int), (a ≤ n ∧ n ≤ b → v = y) → ((n < a ∨ b < n) → find r n = y) → find ((a, b, v) :: r) n = y := by
    intro a b v r y h1 h2
    by_cases h : a ≤ n ∧ n ≤ b
    · rw [find_cons_in h]; exact h1 h
    · rw [find_cons_out (by omega)]; exact h2 (by omega)
  by_cases hn : (127 ≤ n ∧ n < 160) ∨ (768 ≤ n ∧ n ≤ 879) ∨ (55296 ≤ n ∧ n ≤ 57343)
  · rw [if_pos (show narrow n from by unfold narrow; omega)]
    refine go _ _ _ _ _ (fun _ => rfl) fun _ => go _ _ _ _ _ (fun _ => rfl) fun _ => go _ _ _ _ _ (fun _ => by omega) fun _ => go _ _ _ _ _ (fun _ => by omega) fun _ => go _ _ _ _ _ (fun _ => by omega) fun _ => go _ _ _ _ _ (fun _ => rfl) fun _ => ?_
    omega
  · rw [if_neg (show ¬ narrow n from by unfold narrow; omega)]
    refine go _ _ _ _ _ (fun _ => by omega) fun _ => go _ _ _ _ _ (fun _ => by omega) fun _ => ?_
    refine go _ _ _ _ _ (fun h => (isWide_in h).symm) fun h => ?_
    rw [isWide_out h]
    refine go _ _ _ _ _ (fun h => (isWide_in h).symm) fun h => ?_
    rw [isWide_out h]
    refine go _ _ _ _ _ (fun h => (isWide_in h).symm) fun h => ?_
    rw [isWide_out h]
    refine go _ _ _ _ _ (fun _ => by omega) fun _ => ?_
    refine go _ _ _ _ _ (fun h => (isWide_in h).symm) fun h => ?_
    rw [isWide_out h]
    refine go _ _ _ _ _ (fun h => (isWide_in h).symm) fun h => ?_
    rw [isWide_out h]
    refine go _ _ _ _ _ (fun h => (isWide_in h).symm) fun h => ?_
    rw [isWide_out h]
    refine go _ _ _ _ _ (fun h => (isWide_in h).symm) fun h => ?_
    rw [isWide_out h]
    refine go _ _ _ _ _ (fun h => (isWide_in h).symm) fun h => ?_
    rw [isWide_out h]
    refine go _ _ _ _ _ (fun h => (isWide_in h).symm) fun h => ?_
    rw [isWide_out h]
    rfl
/-- may such a colour be -/
def col (c : Int) : Bool := decide (c = -1 ∨ (0 ≤ c ∧ c ≤ 255) ∨ (16777216 ≤ c ∧ c < 33554432))
theorem col_iff {c : Int} : col c = true ↔ (c = -1 ∨ (0 ≤ c ∧ c ≤ 255) ∨ (16777216 ≤ c ∧ c < 33554432)) := by simp [col]
theorem col_bd {c : Int} (h : col c = true) : -1 ≤ c ∧ c < 33554432 := by rw [col_iff] at h; omega
def right (f b g : Int) : Bool := col f && col b && decide (0 ≤ g ∧ g ≤ 255)
theorem right_iff {f b g : Int} : right f b g = true ↔ (col f = true ∧ col b = true ∧ 0 ≤ g ∧ g ≤ 255) := by simp [right, and_assoc]
/-- the number of a right pen -/
def num (f b g : Int) : Int := g + (f + 1) * 256 + (b + 1) * 17179869184
theorem num_bd {f b g : Int} (h : right f b g = true) : 0 ≤ num f b g ∧ num f b g < 1152921504606846976 := by
  rw [right_iff] at h
  obtain ⟨h1, h2, h3, h4⟩ := h
  have := col_bd h1
  have := col_bd h2
  unfold num
  omega
theorem num_inj {f b g f' b' g' : Int} (h : right f b g = true) (h' : right f' b' g' = true) (e : num f b g = num f' b' g') : f = f' ∧ b = b' ∧ g = g' := by
  rw [right_iff] at h h'
  obtain ⟨h1, h2, h3, h4⟩ := h
  obtain ⟨k1, k2, k3, k4⟩ := h'
  have := col_bd h1
  have := col_bd h2
  have := col_bd k1
  have := col_bd k2
  unfold num at e
  omega
def pack (f b g : Int) : Int := if right f b g = true then num f b g else 18446744073709551615
theorem pack_right {f b g : Int} (h : right f b g = true) : pack f b g = num f b g := by simp [pack, h]
theorem pack_wrong {f b g : Int} (h : right f b g = false) : pack f b g = 18446744073709551615 := by simp [pack, h]
/-- the parts of a number -/
def fo (n : Int) : Int := n / 256 % 67108864 - 1
def ba (n : Int) : Int := n / 17179869184 - 1
def fl (n : Int) : Int := n % 256
theorem parts_num {f b g : Int} (h : right f b g = true) : fo (num f b g) = f ∧ ba (num f b g) = b ∧ fl (num f b g) = g := by
  rw [right_iff] at h
  obtain ⟨h1, h2, h3, h4⟩ := h
  have := col_bd h1
  have := col_bd h2
  unfold num fo ba fl
  omega
theorem num_parts {n : Int} (_h : 0 ≤ n) : num (fo n) (ba n) (fl n) = n := by
  unfold num fo ba fl
  omega
/-- flags put one behind the other -/
def ors (g : Int) (l : List Int) : Int := l.foldl (fun a f => bits .or .i64 a f) g
theorem ors_snoc (g : Int) (l : List Int) (f : Int) : ors g (l ++ [f]) = bits .or .i64 (ors g l) f := by simp [ors]
/-- a colour of a number -/
def kcol (n : Int) : Int := if n % 4 = 0 then -1 else if n % 4 = 1 then n.tdiv 4 % 16 else if n % 4 = 2 then n.tdiv 4 % 256 else 16777216 + n.tdiv 4 % 16777216
theorem kcol_col (n : Int) : col (kcol n) = true := by
  rw [col_iff]
  unfold kcol
  split
  · omega
  split
  · omega
  split
  · omega
  · omega
theorem kpen_right (f b g : Int) : right (kcol f) (kcol b) (g % 256) = true := by
  rw [right_iff]
  exact ⟨kcol_col _, kcol_col _, by omega, by omega⟩
end C
end Go.Proofs.YtnjkongbccblaaaDoor
