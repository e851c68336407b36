/- Package cell's functions as plain mathematics: how wide a rune is, right pens, a pen's number. What package utf computes, as plain functions on whole numbers: the runes of bytes, the bytes of runes. Grids in plain Lean: cells in rows; what New, Put, Wipe, Resize, Mend make of them; which are right; what follows. Names no function of a program. A row's text in plain Lean: how many runes, and the row built anew by Put from left to right. Names no function of a program. A grid's cells as one list, row behind row: what may be a grid, one or two cells more, one cell set; the runes that are wide enough can be written. Names no function of a program. The grids that the statements make of numbers, as plain lists of cells: each is right. Names no function of a program. Tab stops as bits, in plain Lean: put, dropped, listed, the next one. Names no function of a program. Tab stops in plain Lean, as package tabs reckons them: a bit, all bits below, the lowest bit. Names no function of a program. Screens, told plainly: what they hold, which are right, what New and Sized make, what the given numbers make. One bit of an int, asked as Go asks it. -/
import Derived.WalkKit
import Derived.Laws.BitsAllLaws
import Derived.Test.YtdcdinlppjlmfaaDoorLib
import Derived.Lib.TrailingZeros
namespace Go.Proofs.YtdcdinlppjlmfaaDoor
namespace C
/-- the runes that aren't one wide, between the first seen and the last one -/
def spans : List (Int × Int × Int) := [(127, 159, 0), (768, 879, 0), (4352, 4447, 2), (11904, 42191, 2), (44032, 55203, 2), (55296, 57343, 0), (63744, 64255, 2), (65072, 65135, 2), (65280, 65376, 2), (65504, 65510, 2), (127744, 129791, 2), (131072, 262141, 2)]
def find : List (Int × Int × Int) → Int → Int
  | [], _ => 1
  | s :: r, x => if s.1 ≤ x ∧ x ≤ s.2.1 then s.2.2 else find r x
def width (x : Int) : Int := if x < 32 ∨ 1114111 < x then 0 else find spans x
def wides : List (Int × Int) := [(4352, 4447), (11904, 42191), (44032, 55203), (63744, 64255), (65072, 65135), (65280, 65376), (65504, 65510), (127744, 129791), (131072, 262141)]
def isWide : List (Int × Int) → Int → Int
  | [], _ => 1
  | s :: r, x => if s.1 ≤ x ∧ x ≤ s.2 then 2 else isWide r x
def narrow (n : Int) : Prop := n < 32 ∨ (127 ≤ n ∧ n < 160) ∨ (768 ≤ n ∧ n ≤ 879) ∨ 1114111 < n ∨ (55296 ≤ n ∧ n ≤ 57343)
instance (n : Int) : Decidable (narrow n) := by unfold narrow; infer_instance
def refWidth (n : Int) : Int := if narrow n then 0 else isWide wides n
theorem find_cons_in {a b v x : Int} {r : List (Int × Int × Int)} (h : a ≤ x ∧ x ≤ b) : find ((a, b, v) :: r) x = v := by simp [find, h]
theorem find_cons_out {a b v x : Int} {r : List (Int × Int × Int)} (h : x < a ∨ b < x) : find ((a, b, v) :: r) x = find r x := by
  show (if a ≤ x ∧ x ≤ b then v else find r x) = _
  rw [if_neg (by omega)]
theorem isWide_in {a b x : Int} {r : List (Int × Int)} (h : a ≤ x ∧ x ≤ b) : isWide ((a, b) :: r) x = 2 := by simp [isWide, h]
theorem isWide_out {a b x : Int} {r : List (Int × Int)} (h : x < a ∨ b < x) : isWide ((a, b) :: r) x = isWide r x := by
  show (if a ≤ x ∧ x ≤ b then 2 else isWide r x) = _
  rw [if_neg (by omega)]
theorem width_ref (n : Int) : width n = refWidth n := by
  unfold width refWidth
  by_cases h0 : n < 32 ∨ 1114111 < n
  · rw [if_pos h0, if_pos (show narrow n from by unfold narrow; omega)]
  rw [if_neg h0]
  unfold spans wides
  have go : ∀ (a b v : Int) (r : List (Int × Int × Int)) (y : Int), (a ≤ n ∧ n ≤ b → v = y) → ((n < a ∨ b < n) → find r n = y) → find ((a, b, v) :: r) n = y := by
    intro a b v r y h1 h2
    by_cases h : a ≤ n ∧ n ≤ b
    · rw [find_cons_in h]; exact h1 h
    · rw [find_cons_out (by omega)]; exact h2 (by omega)
  by_cases hn : (127 ≤ n ∧ n < 160) ∨ (768 ≤ n ∧ n ≤ 879) ∨ (55296 ≤ n ∧ n ≤ 57343)
  · rw [if_pos (show narrow n from by unfold narrow; omega)]
    refine go _ _ _ _ _ (fun _ => rfl) fun _ => go _ _ _ _ _ (fun _ => rfl) fun _ => go _ _ _ _ _ (fun _ => by omega) fun _ => go _ _ _ _ _ (fun _ => by omega) fun _ => go _ _ _ _ _ (fun _ => by omega) fun _ => go _ _ _ _ _ (fun _ => rfl) fun _ => ?_
    omega
  · rw [if_neg (show ¬ narrow n from by unfold narrow; omega)]
    refine go _ _ _ _ _ (fun _ => by omega) fun _ => go _ _ _ _ _ (fun _ => by omega) fun _ => ?_
    refine go _ _ _ _ _ (fun h => (isWide_in h).symm) fun h => ?_
    rw [isWide_out h]
    refine go _ _ _ _ _ (fun h => (isWide_in h).symm) fun h => ?_
    rw [isWide_out h]
    refine go _ _ _ _ _ (fun h => (isWide_in h).symm) fun h => ?_
    rw [isWide_out h]
    refine go _ _ _ _ _ (fun _ => by omega) fun _ => ?_
    refine go _ _ _ _ _ (fun h => (isWide_in h).symm) fun h => ?_
    rw [isWide_out h]
    refine go _ _ _ _ _ (fun h => (isWide_in h).symm) fun h => ?_
    rw [isWide_out h]
    refine go _ _ _ _ _ (fun h => (isWide_in h).symm) fun h => ?_
    rw [isWide_out h]
    refine go _ _ _ _ _ (fun h => (isWide_in h).symm) fun h => ?_
    rw [isWide_out h]
    refine go _ _ _ _ _ (fun h => (isWide_in h).symm) fun h => ?_
    rw [isWide_out h]
    refine go _ _ _ _ _ (fun h => (isWide_in h).symm) fun h => ?_
    rw [isWide_out h]
    rfl
/-- may such a colour be -/
def col (c : Int) : Bool := decide (c = -1 ∨ (0 ≤ c ∧ c ≤ 255) ∨ (16777216 ≤ c ∧ c < 33554432))
theorem col_iff {c : Int} : col c = true ↔ (c = -1 ∨ (0 ≤ c ∧ c ≤ 255) ∨ (16777216 ≤ c ∧ c < 33554432)) := by simp [col]
theorem col_bd {c : Int} (h : col c = true) : -1 ≤ c ∧ c < 33554432 := by rw [col_iff] at h; omega
def right (f b g : Int) : Bool := col f && col b && decide (0 ≤ g ∧ g ≤ 255)
theorem right_iff {f b g : Int} : right f b g = true ↔ (col f = true ∧ col b = true ∧ 0 ≤ g ∧ g ≤ 255) := by simp [right, and_assoc]
/-- the number of a right pen -/
def num (f b g : Int) : Int := g + (f + 1) * 256 + (b + 1) * 17179869184
theorem num_bd {f b g : Int} (h : right f b g = true) : 0 ≤ num f b g ∧ num f b g < 1152921504606846976 := by
  rw [right_iff] at h
  obtain ⟨h1, h2, h3, h4⟩ := h
  have := col_bd h1
  have := col_bd h2
  unfold num
  omega
theorem num_inj {f b g f' b' g' : Int} (h : right f b g = true) (h' : right f' b' g' = true) (e : num f b g = num f' b' g') : f = f' ∧ b = b' ∧ g = g' := by
  rw [right_iff] at h h'
  obtain ⟨h1, h2, h3, h4⟩ := h
  obtain ⟨k1, k2, k3, k4⟩ := h'
  have := col_bd h1
  have := col_bd h2
  have := col_bd k1
  have := col_bd k2
  unfold num at e
  omega
def pack (f b g : Int) : Int := if right f b g = true then num f b g else 18446744073709551615
theorem pack_right {f b g : Int} (h : right f b g = true) : pack f b g = num f b g := by simp [pack, h]
theorem pack_wrong {f b g : Int} (h : right f b g = false) : pack f b g = 18446744073709551615 := by simp [pack, h]
/-- the parts of a number -/
def fo (n : Int) : Int := n / 256 % 67108864 - 1
def ba (n : Int) : Int := n / 17179869184 - 1
def fl (n : Int) : Int := n % 256
theorem parts_num {f b g : Int} (h : right f b g = true) : fo (num f b g) = f ∧ ba (num f b g) = b ∧ fl (num f b g) = g := by
  rw [right_iff] at h
  obtain ⟨h1, h2, h3, h4⟩ := h
  have := col_bd h1
  have := col_bd h2
  unfold num fo ba fl
  omega
theorem num_parts {n : Int} (_h : 0 ≤ n) : num (fo n) (ba n) (fl n) = n := by
  unfold num fo ba fl
  omega
/-- flags put one behind the other -/
def ors (g : Int) (l : List Int) : Int := l.foldl (fun a f => bits .or .i64 a f) g
theorem ors_snoc (g : Int) (l : List Int) (f : Int) : ors g (l ++ [f]) = bits .or .i64 (ors g l) f := by simp [ors]
/-- a colour of a number -/
def kcol (n : Int) : Int := if n % 4 = 0 then -1 else if n % 4 = 1 then n.tdiv 4 % 16 else if n % 4 = 2 then n.tdiv 4 % 256 else 16777216 + n.tdiv 4 % 16777216
theorem kcol_col (n : Int) : col (kcol n) = true := by
  rw [col_iff]
  unfold kcol
  split
  · omega
  split
  · omega
  split
  · omega
  · omega
theorem kpen_right (f b g : Int) : right (kcol f) (kcol b) (g % 256) = true := by
  rw [right_iff]
  exact ⟨kcol_col _, kcol_col _, by omega, by omega⟩
end C
end Go.Proofs.YtdcdinlppjlmfaaDoor
set_option maxRecDepth 100000
namespace Go.Proofs.YtdcdinlppjlmfaaDoor.U

def isR (n : Int) : Bool := decide (0 ≤ n ∧ n ≤ 1114111 ∧ (n < 55296 ∨ 57343 < n))
def sz (r : Int) : Int := if r < 128 then 1 else if r < 2048 then 2 else if r < 65536 then 3 else 4
def wh (need acc : Int) : Int := if isR acc = true ∧ sz acc = need then acc else 65533

/-- a decoder: bytes needed, bytes had, bits -/
structure St where
  need : Int
  have_ : Int
  acc : Int
def z : St := ⟨0, 0, 0⟩
def St.val (s : St) : Value := .agg #[.int .i64 s.need, .int .i64 s.have_, .int .i64 s.acc]

def bg (b : Int) : St × List Int :=
  if b < 128 then (z, [b]) else if b < 194 then (z, [65533]) else if b < 224 then (⟨2, 1, b - 192⟩, []) else if b < 240 then (⟨3, 1, b - 224⟩, []) else if b ≤ 244 then (⟨4, 1, b - 240⟩, []) else (z, [65533])
def it (s : St) (b : Int) : St × List Int :=
  if s.need ≤ 0 then bg b
  else if b < 128 ∨ 192 ≤ b then ((bg b).1, 65533 :: (bg b).2)
  else if s.have_ + 1 < s.need then (⟨s.need, s.have_ + 1, s.acc * 64 + (b - 128)⟩, [])
  else (z, [wh s.need (s.acc * 64 + (b - 128))])
/-- what the code's decoders are like -/
def St.ok (s : St) : Prop := (s.need = 0 ∧ s.have_ = 0 ∧ s.acc = 0) ∨ (2 ≤ s.need ∧ s.need ≤ 4 ∧ 1 ≤ s.have_ ∧ s.have_ < s.need ∧ 0 ≤ s.acc ∧ (s.have_ = 1 → s.acc < 32) ∧ (s.have_ = 2 → s.acc < 2048) ∧ (s.have_ = 3 → s.acc < 131072))
theorem z_ok : z.ok := .inl ⟨rfl, rfl, rfl⟩
theorem St.ok.bd {s : St} (h : s.ok) : 0 ≤ s.need ∧ s.need ≤ 4 ∧ 0 ≤ s.have_ ∧ s.have_ ≤ 3 ∧ 0 ≤ s.acc ∧ s.acc < 131072 := by
  unfold St.ok at h
  omega
theorem bg_ok (b : Int) (h1 : b < 256) : (bg b).1.ok := by
  unfold bg
  split; · exact z_ok
  split; · exact z_ok
  split; · exact .inr ⟨by simp, by simp, by simp, by simp, by simp; omega, by simp; omega, by simp, by simp⟩
  split; · exact .inr ⟨by simp, by simp, by simp, by simp, by simp; omega, by simp; omega, by simp, by simp⟩
  split; · exact .inr ⟨by simp, by simp, by simp, by simp, by simp; omega, by simp; omega, by simp, by simp⟩
  exact z_ok
theorem it_ok {s : St} (h : s.ok) (b : Int) (h1 : b < 256) : (it s b).1.ok := by
  unfold it
  split; · exact bg_ok b h1
  split; · exact bg_ok b h1
  split
  · rename_i h2 h3 h4
    unfold St.ok at h ⊢
    simp only []
    rcases h with h | ⟨h5, h6, h7, h8, h9, ha, hb, hc⟩
    · omega
    · refine .inr ⟨h5, h6, by omega, h4, by omega, fun e => by omega, fun e => ?_, fun e => ?_⟩
      · have := ha (by omega); omega
      · have := hb (by omega); omega
  · exact z_ok
theorem bg_len (b : Int) : (bg b).2.length ≤ 1 := by
  unfold bg; repeat' (split)
  all_goals simp
theorem it_len (s : St) (b : Int) : (it s b).2.length ≤ 2 := by
  have := bg_len b
  unfold it; repeat' (split)
  all_goals simp
  all_goals omega

/-- the decoder behind all of l, and what it made -/
def dec : St → List Int → St × List Int
  | s, [] => (s, [])
  | s, b :: l => ((dec (it s b).1 l).1, (it s b).2 ++ (dec (it s b).1 l).2)
theorem dec_append (s : St) (l m : List Int) : dec s (l ++ m) = ((dec (dec s l).1 m).1, (dec s l).2 ++ (dec (dec s l).1 m).2) := by
  induction l generalizing s with
  | nil => simp [dec]
  | cons b l ih => simp [dec, ih]
theorem dec_one (s : St) (b : Int) : dec s [b] = it s b := by simp [dec]
theorem dec_snoc (s : St) (l : List Int) (b : Int) : dec s (l ++ [b]) = ((it (dec s l).1 b).1, (dec s l).2 ++ (it (dec s l).1 b).2) := by
  rw [dec_append, dec_one]
theorem dec_ok {s : St} (h : s.ok) (l : List Int) (hl : ∀ x ∈ l, x < 256) : (dec s l).1.ok := by
  induction l generalizing s with
  | nil => exact h
  | cons b l ih => exact ih (it_ok h b (hl b (by simp))) (fun x hx => hl x (by simp [hx]))
theorem dec_len (s : St) (l : List Int) : (dec s l).2.length ≤ 2 * l.length := by
  induction l generalizing s with
  | nil => simp [dec]
  | cons b l ih =>
    have h1 := it_len s b
    have h2 := ih (it s b).1
    simp only [dec, List.length_append, List.length_cons]
    omega

/-- the bytes of a rune -/
def tl (r : Int) : Int := 128 + r % 64
def en (r : Int) : List Int :=
  if r < 128 then [r] else if r < 2048 then [192 + r / 64, tl r] else if r < 65536 then [224 + r / 4096, tl (r / 64), tl r] else [240 + r / 262144, tl (r / 4096), tl (r / 64), tl r]
def en1 (r : Int) : List Int := if isR r = true then en r else [239, 191, 189]
theorem en_len (r : Int) : (en r).length ≤ 4 := by
  unfold en
  split; · simp
  split; · simp
  split <;> simp
theorem en1_len (r : Int) : (en1 r).length ≤ 4 := by
  have := en_len r
  unfold en1
  split
  · exact this
  · simp
def enc (l : List Int) : List Int := l.flatMap en1
theorem enc_snoc (l : List Int) (r : Int) : enc (l ++ [r]) = enc l ++ en1 r := by simp [enc]
theorem enc_len (l : List Int) : (enc l).length ≤ 4 * l.length := by
  induction l with
  | nil => simp [enc]
  | cons r l ih =>
    have h := en1_len r
    simp only [enc, List.flatMap_cons, List.length_append, List.length_cons] at ih ⊢
    omega
theorem en_u8 (r : Int) (h : isR r = true) : ∀ x ∈ en r, 0 ≤ x ∧ x < 256 := by
  simp [isR] at h
  intro x hx
  unfold en tl at hx
  split at hx
  · simp at hx; omega
  split at hx
  · simp at hx; rcases hx with rfl | rfl <;> omega
  split at hx
  · simp at hx; rcases hx with rfl | rfl | rfl <;> omega
  · simp at hx; rcases hx with rfl | rfl | rfl | rfl <;> omega
theorem en1_u8 (r : Int) : ∀ x ∈ en1 r, 0 ≤ x ∧ x < 256 := by
  unfold en1
  split
  · exact en_u8 r ‹_›
  · intro x hx; simp at hx; rcases hx with rfl | rfl | rfl <;> omega
theorem enc_u8 (l : List Int) : ∀ x ∈ enc l, 0 ≤ x ∧ x < 256 := by
  intro x hx
  obtain ⟨r, _, h⟩ := List.mem_flatMap.1 hx
  exact en1_u8 r x h

/-! bits -/
theorem byAll {p : Int → Prop} [DecidablePred p] (h : ∀ n : Fin 256, p (n.val : Int)) (b : Int) (h0 : 0 ≤ b) (h1 : b < 256) : p b := by
  obtain ⟨n, rfl⟩ := Int.eq_ofNat_of_zero_le h0
  exact h ⟨n, by omega⟩
theorem andNot63 (b : Int) (h0 : 0 ≤ b) (h1 : b < 256) : bits .andNot .u8 b 63 = b - b % 64 :=
  byAll (p := fun b => bits .andNot .u8 b 63 = b - b % 64) (by decide +kernel) b h0 h1
theorem andNot192 (b : Int) (h0 : 0 ≤ b) (h1 : b < 256) : bits .andNot .u8 b 192 = b % 64 :=
  byAll (p := fun b => bits .andNot .u8 b 192 = b % 64) (by decide +kernel) b h0 h1
theorem andNot224 (b : Int) (h0 : 0 ≤ b) (h1 : b < 256) : bits .andNot .u8 b 224 = b % 32 :=
  byAll (p := fun b => bits .andNot .u8 b 224 = b % 32) (by decide +kernel) b h0 h1
theorem andNot240 (b : Int) (h0 : 0 ≤ b) (h1 : b < 256) : bits .andNot .u8 b 240 = b % 16 :=
  byAll (p := fun b => bits .andNot .u8 b 240 = b % 16) (by decide +kernel) b h0 h1
theorem and63 (b : Int) (h0 : 0 ≤ b) (h1 : b < 256) : bits .and .u8 b 63 = b % 64 :=
  byAll (p := fun b => bits .and .u8 b 63 = b % 64) (by decide +kernel) b h0 h1
theorem and127 (b : Int) (h0 : 0 ≤ b) (h1 : b < 256) : bits .and .u8 b 127 = b % 128 :=
  byAll (p := fun b => bits .and .u8 b 127 = b % 128) (by decide +kernel) b h0 h1
end Go.Proofs.YtdcdinlppjlmfaaDoor.U
namespace Go.Proofs.YtdcdinlppjlmfaaDoor.PG
set_option linter.unusedVariables false
/-- a pen: fore, back, flags; a cell: rune, kind, pen -/
abbrev Pn := Int × Int × Int
abbrev Cl := Int × Int × Pn
def rn (c : Cl) : Int := c.1
def kd (c : Cl) : Int := c.2.1
def pn (c : Cl) : Pn := c.2.2
def okPen (p : Pn) : Prop := C.right p.1 p.2.1 p.2.2 = true
def blank (p : Pn) : Cl := (32, 0, p)
def plain : Pn := (-1, -1, 0)
theorem rn_blank (p : Pn) : rn (blank p) = 32 := rfl
theorem kd_blank (p : Pn) : kd (blank p) = 0 := rfl
theorem pn_blank (p : Pn) : pn (blank p) = p := rfl
theorem plain_ok : okPen plain := by unfold okPen plain; decide
theorem cl_ext {a b : Cl} (h1 : rn a = rn b) (h2 : kd a = kd b) (h3 : pn a = pn b) : a = b := by
  obtain ⟨_, _, _⟩ := a
  obtain ⟨_, _, _⟩ := b
  simp only [rn, kd, pn] at h1 h2 h3
  rw [h1, h2, h3]
/-- a row: what stands in its n places -/
def mend (f : Nat → Cl) (n : Nat) (j : Nat) : Cl :=
  if (kd (f j) = 1 ∧ ¬ (j + 1 < n ∧ kd (f (j + 1)) = 2)) ∨ (kd (f j) = 2 ∧ ¬ (0 < j ∧ kd (f (j - 1)) = 1)) then blank (pn (f j)) else f j
def wiped (f : Nat → Cl) (a b : Nat) (p : Pn) (j : Nat) : Cl := if a ≤ j ∧ j < b then blank p else f j
def putRow (f : Nat → Cl) (c : Nat) (x : Int) (p : Pn) (w : Nat) (j : Nat) : Cl :=
  if j = c then (x, if w = 2 then 1 else 0, p)
  else if w = 2 ∧ j = c + 1 then (0, 2, p)
  else if j + 1 = c ∧ kd (f c) = 2 then blank (pn (f j))
  else if j = c + w ∧ kd (f (c + w - 1)) = 1 then blank (pn (f j))
  else f j
/-- may a row be? -/
def RightRow (f : Nat → Cl) (n : Nat) : Prop := ∀ j, j < n → okPen (pn (f j)) ∧
  ((kd (f j) = 0 ∧ C.width (rn (f j)) = 1) ∨
   (kd (f j) = 1 ∧ C.width (rn (f j)) = 2 ∧ j + 1 < n ∧ kd (f (j + 1)) = 2 ∧ pn (f (j + 1)) = pn (f j)) ∨
   (kd (f j) = 2 ∧ rn (f j) = 0 ∧ 0 < j ∧ kd (f (j - 1)) = 1))
theorem width_blank : C.width 32 = 1 := by decide
theorem right_blank (p : Pn) (hp : okPen p) (n : Nat) : RightRow (fun _ => blank p) n := fun j _ => ⟨hp, .inl ⟨rfl, width_blank⟩⟩
/-- behind a Left one a Right one, ahead of a Right one a Left one -/
theorem RightRow.left {f : Nat → Cl} {n j : Nat} (h : RightRow f n) (hj : j < n) (hk : kd (f j) = 1) : C.width (rn (f j)) = 2 ∧ j + 1 < n ∧ kd (f (j + 1)) = 2 ∧ pn (f (j + 1)) = pn (f j) := by
  rcases (h j hj).2 with h | h | h
  · omega
  · exact h.2
  · omega
theorem RightRow.rightHalf {f : Nat → Cl} {n j : Nat} (h : RightRow f n) (hj : j < n) (hk : kd (f j) = 2) : rn (f j) = 0 ∧ 0 < j ∧ kd (f (j - 1)) = 1 := by
  rcases (h j hj).2 with h | h | h
  · omega
  · omega
  · exact h.2
theorem RightRow.kind {f : Nat → Cl} {n j : Nat} (h : RightRow f n) (hj : j < n) : kd (f j) = 0 ∨ kd (f j) = 1 ∨ kd (f j) = 2 := by
  rcases (h j hj).2 with h | h | h
  · exact .inl h.1
  · exact .inr (.inl h.1)
  · exact .inr (.inr h.1)
/-- a right row is mended -/
theorem mend_right {f : Nat → Cl} {n j : Nat} (h : RightRow f n) (hj : j < n) : mend f n j = f j := by
  unfold mend
  rw [if_neg]
  rintro (⟨h1, h2⟩ | ⟨h1, h2⟩)
  · have := h.left hj h1
    exact h2 ⟨this.2.1, this.2.2.1⟩
  · have := h.rightHalf hj h1
    exact h2 ⟨this.2.1, this.2.2⟩
/-- cells of a right row, and blanks, mended are right -/
theorem right_mend {f h : Nat → Cl} {n m : Nat} (hf : RightRow f n) (hh : ∀ j, j < m → (h j = f j ∧ j < n) ∨ ∃ p, okPen p ∧ h j = blank p) : RightRow (mend h m) m := by
  intro j hj
  have hkind : ∀ i, kd (mend h m i) = (if (kd (h i) = 1 ∧ ¬ (i + 1 < m ∧ kd (h (i + 1)) = 2)) ∨ (kd (h i) = 2 ∧ ¬ (0 < i ∧ kd (h (i - 1)) = 1)) then 0 else kd (h i)) := fun i => by
    unfold mend
    split <;> rfl
  have hpn : ∀ i, pn (mend h m i) = pn (h i) := fun i => by
    unfold mend
    split <;> rfl
  rcases hh j hj with ⟨e, hjn⟩ | ⟨p, hp, e⟩
  · have hr := hf j hjn
    refine ⟨by rw [hpn, e]; exact hr.1, ?_⟩
    by_cases hb : (kd (h j) = 1 ∧ ¬ (j + 1 < m ∧ kd (h (j + 1)) = 2)) ∨ (kd (h j) = 2 ∧ ¬ (0 < j ∧ kd (h (j - 1)) = 1))
    · left
      refine ⟨by rw [hkind, if_pos hb], ?_⟩
      unfold mend
      rw [if_pos hb]
      exact width_blank
    · have hm : mend h m j = h j := by unfold mend; rw [if_neg hb]
      rw [hm, e]
      rcases hf.kind hjn with h0 | h1 | h2
      · left
        refine ⟨h0, ?_⟩
        rcases hr.2 with h | h | h
        · exact h.2
        · omega
        · omega
      · right; left
        have hl := hf.left hjn h1
        have hn : j + 1 < m ∧ kd (h (j + 1)) = 2 := by
          by_cases hx : j + 1 < m ∧ kd (h (j + 1)) = 2
          · exact hx
          · exact absurd (.inl ⟨by rw [e]; exact h1, hx⟩) hb
        refine ⟨h1, hl.1, hn.1, ?_, ?_⟩
        · rw [hkind, if_neg, hn.2]
          rintro (⟨a, _⟩ | ⟨_, b⟩)
          · omega
          · exact b ⟨by omega, by rw [Nat.add_sub_cancel, e]; exact h1⟩
        · rw [hpn]
          rcases hh (j + 1) hn.1 with ⟨e', _⟩ | ⟨p, _, e'⟩
          · rw [e']; exact hl.2.2.2
          · rw [e'] at hn; have := hn.2; rw [kd_blank] at this; omega
      · right; right
        have hl := hf.rightHalf hjn h2
        have hn : 0 < j ∧ kd (h (j - 1)) = 1 := by
          by_cases hx : 0 < j ∧ kd (h (j - 1)) = 1
          · exact hx
          · exact absurd (.inr ⟨by rw [e]; exact h2, hx⟩) hb
        refine ⟨h2, hl.1, hn.1, ?_⟩
        rw [hkind, if_neg, hn.2]
        rintro (⟨_, b⟩ | ⟨a, _⟩)
        · exact b ⟨by omega, by rw [show j - 1 + 1 = j from by omega, e]; exact h2⟩
        · omega
  · have hm : mend h m j = blank p := by
      unfold mend
      rw [e]
      rw [if_neg (by rw [kd_blank]; omega)]
    rw [hm]
    exact ⟨hp, .inl ⟨rfl, width_blank⟩⟩
theorem right_wipe {f : Nat → Cl} {n : Nat} (hf : RightRow f n) (a b : Nat) {p : Pn} (hp : okPen p) : RightRow (mend (wiped f a b p) n) n := by
  refine right_mend hf fun j hj => ?_
  unfold wiped
  by_cases h : a ≤ j ∧ j < b
  · rw [if_pos h]; exact .inr ⟨p, hp, rfl⟩
  · rw [if_neg h]; exact .inl ⟨rfl, hj⟩
/-- what Put leaves may be a row -/
theorem right_put {f : Nat → Cl} {n c : Nat} {x : Int} {p : Pn} {w : Nat} (hf : RightRow f n) (hp : okPen p) (hw : C.width x = (w : Int)) (hw0 : 1 ≤ w) (hw2 : w ≤ 2) (hc : c + w ≤ n) : RightRow (putRow f c x p w) n := by
  intro j hj
  have hfj := hf j hj
  -- the kinds of what stands there
  have hat : ∀ i, putRow f c x p w i = if i = c then (x, if w = 2 then 1 else 0, p) else if w = 2 ∧ i = c + 1 then (0, 2, p) else if i + 1 = c ∧ kd (f c) = 2 then blank (pn (f i)) else if i = c + w ∧ kd (f (c + w - 1)) = 1 then blank (pn (f i)) else f i := fun _ => rfl
  by_cases h1 : j = c
  · have e : putRow f c x p w j = (x, if w = 2 then 1 else 0, p) := by rw [hat, if_pos h1]
    rw [e]
    refine ⟨hp, ?_⟩
    by_cases h2 : w = 2
    · right; left
      refine ⟨by simp [kd, h2], by show C.width x = 2; rw [hw, h2]; rfl, by omega, ?_, ?_⟩
      · rw [hat, if_neg (by omega), if_pos ⟨h2, by omega⟩]; rfl
      · rw [hat, if_neg (by omega), if_pos ⟨h2, by omega⟩]; rfl
    · left
      refine ⟨by simp [kd, h2], ?_⟩
      show C.width x = 1
      rw [hw]
      omega
  by_cases h2 : w = 2 ∧ j = c + 1
  · have e : putRow f c x p w j = (0, 2, p) := by rw [hat, if_neg h1, if_pos h2]
    rw [e]
    refine ⟨hp, .inr (.inr ⟨rfl, rfl, by omega, ?_⟩)⟩
    rw [hat, if_pos (by omega)]
    simp [kd, h2.1]
  by_cases h3 : j + 1 = c ∧ kd (f c) = 2
  · have e : putRow f c x p w j = blank (pn (f j)) := by rw [hat, if_neg h1, if_neg h2, if_pos h3]
    rw [e]
    exact ⟨hfj.1, .inl ⟨rfl, width_blank⟩⟩
  by_cases h4 : j = c + w ∧ kd (f (c + w - 1)) = 1
  · have e : putRow f c x p w j = blank (pn (f j)) := by rw [hat, if_neg h1, if_neg h2, if_neg h3, if_pos h4]
    rw [e]
    exact ⟨hfj.1, .inl ⟨rfl, width_blank⟩⟩
  have e : putRow f c x p w j = f j := by rw [hat, if_neg h1, if_neg h2, if_neg h3, if_neg h4]
  rw [e]
  refine ⟨hfj.1, ?_⟩
  rcases hfj.2 with h | ⟨k1, k2, k3, k4, k5⟩ | ⟨k1, k2, k3, k4⟩
  · exact .inl h
  · right; left
    -- its Right half is not touched
    have n1 : ¬ j + 1 = c := fun hx => h3 ⟨hx, by rw [← hx]; exact k4⟩
    have n2 : ¬ (w = 2 ∧ j + 1 = c + 1) := fun hx => h1 (by omega)
    have n4 : ¬ (j + 1 = c + w ∧ kd (f (c + w - 1)) = 1) := fun hx => by
      have : j = c ∨ (w = 2 ∧ j = c + 1) := by omega
      rcases this with h | h
      · exact h1 h
      · exact h2 h
    have n3 : ¬ (j + 1 + 1 = c ∧ kd (f c) = 2) := fun hx => by
      have := hf.rightHalf (j := c) (by omega) hx.2
      rw [show c - 1 = j + 1 from by omega] at this
      omega
    have e1 : putRow f c x p w (j + 1) = f (j + 1) := by rw [hat, if_neg n1, if_neg n2, if_neg n3, if_neg n4]
    exact ⟨k1, k2, k3, by rw [e1]; exact k4, by rw [e1]; exact k5⟩
  · right; right
    have n1 : ¬ j - 1 = c := fun hx => by
      by_cases hw2' : w = 2
      · exact h2 ⟨hw2', by omega⟩
      · exact h4 ⟨by omega, by rw [show c + w - 1 = j - 1 from by omega]; exact k4⟩
    have n2 : ¬ (w = 2 ∧ j - 1 = c + 1) := fun hx => h4 ⟨by omega, by rw [show c + w - 1 = j - 1 from by omega]; exact k4⟩
    have n3 : ¬ (j - 1 + 1 = c ∧ kd (f c) = 2) := fun hx => h1 (by omega)
    have n4 : ¬ (j - 1 = c + w ∧ kd (f (c + w - 1)) = 1) := fun hx => by
      have := hf.left (j := c + w - 1) (by omega) hx.2
      rw [show c + w - 1 + 1 = j - 1 from by omega] at this
      omega
    have e1 : putRow f c x p w (j - 1) = f (j - 1) := by rw [hat, if_neg n1, if_neg n2, if_neg n3, if_neg n4]
    exact ⟨k1, k2, k3, by rw [e1]; exact k4⟩
/-- a grid -/
structure Gr where
  rows : Nat
  cols : Nat
  f : Nat → Nat → Cl
def Alike (a b : Gr) : Prop := a.rows = b.rows ∧ a.cols = b.cols ∧ ∀ r c, r < a.rows → c < a.cols → a.f r c = b.f r c
theorem Alike.refl (a : Gr) : Alike a a := ⟨rfl, rfl, fun _ _ _ _ => rfl⟩
theorem Alike.symm {a b : Gr} (h : Alike a b) : Alike b a := ⟨h.1.symm, h.2.1.symm, fun r c hr hc => (h.2.2 r c (by rw [h.1]; exact hr) (by rw [h.2.1]; exact hc)).symm⟩
theorem Alike.trans {a b c : Gr} (h : Alike a b) (k : Alike b c) : Alike a c := ⟨h.1.trans k.1, h.2.1.trans k.2.1, fun r x hr hx => (h.2.2 r x hr hx).trans (k.2.2 r x (by rw [← h.1]; exact hr) (by rw [← h.2.1]; exact hx))⟩
/-- its cells, row behind row -/
def cells (g : Gr) : List Cl := (List.range (g.rows * g.cols)).map fun i => g.f (i / g.cols) (i % g.cols)
theorem cells_len (g : Gr) : (cells g).length = g.rows * g.cols := by simp [cells]
theorem place_lt {R K r c : Nat} (hr : r < R) (hc : c < K) : r * K + c < R * K := by
  have h : (r + 1) * K ≤ R * K := Nat.mul_le_mul_right K hr
  rw [Nat.succ_mul] at h
  omega
theorem place_div {K r c : Nat} (hc : c < K) : (r * K + c) / K = r ∧ (r * K + c) % K = c := by
  constructor
  · rw [Nat.mul_comm, Nat.mul_add_div (by omega), Nat.div_eq_of_lt hc, Nat.add_zero]
  · rw [Nat.mul_comm, Nat.mul_add_mod, Nat.mod_eq_of_lt hc]
theorem cells_at (g : Gr) {r c : Nat} (hr : r < g.rows) (hc : c < g.cols) : (cells g)[r * g.cols + c]? = some (g.f r c) := by
  unfold cells
  rw [List.getElem?_map, List.getElem?_range (place_lt hr hc)]
  obtain ⟨h1, h2⟩ := place_div (r := r) hc
  simp only [Option.map_some, h1, h2]
theorem place_of {R K i : Nat} (h : i < R * K) : 0 < K ∧ i / K < R ∧ i % K < K ∧ i / K * K + i % K = i := by
  have hK : 0 < K := by
    rcases Nat.eq_zero_or_pos K with h0 | h0
    · subst h0; simp at h
    · exact h0
  exact ⟨hK, Nat.div_lt_of_lt_mul (by rw [Nat.mul_comm]; exact h), Nat.mod_lt _ hK, by rw [Nat.mul_comm]; exact Nat.div_add_mod i K⟩
theorem alike_cells {a b : Gr} : Alike a b ↔ (a.rows = b.rows ∧ a.cols = b.cols ∧ cells a = cells b) := by
  constructor
  · rintro ⟨h1, h2, h3⟩
    refine ⟨h1, h2, ?_⟩
    unfold cells
    rw [← h1, ← h2]
    refine List.map_congr_left fun i hi => ?_
    obtain ⟨_, h4, h5, _⟩ := place_of (List.mem_range.1 hi)
    exact h3 _ _ h4 h5
  · rintro ⟨h1, h2, h3⟩
    refine ⟨h1, h2, fun r c hr hc => ?_⟩
    have e1 := cells_at a hr hc
    have e2 := cells_at b (r := r) (c := c) (by rw [← h1]; exact hr) (by rw [← h2]; exact hc)
    rw [← h2, ← h3, e1] at e2
    exact Option.some.inj e2
def newG (R K : Nat) (p : Pn) : Gr := ⟨R, K, fun _ _ => blank p⟩
def putG (g : Gr) (r c : Nat) (x : Int) (p : Pn) : Gr :=
  if r < g.rows ∧ 1 ≤ C.width x ∧ c + (C.width x).toNat ≤ g.cols then ⟨g.rows, g.cols, fun i j => if i = r then putRow (g.f r) c x p (C.width x).toNat j else g.f i j⟩ else g
def wipeG (g : Gr) (r a b : Nat) (p : Pn) : Gr := if r < g.rows then ⟨g.rows, g.cols, fun i j => if i = r then mend (wiped (g.f r) a b p) g.cols j else g.f i j⟩ else g
def resizeG (g : Gr) (R K : Nat) : Gr := ⟨R, K, fun i j => mend (fun j => if i < g.rows ∧ j < g.cols then g.f i j else blank plain) K j⟩
def RightG (g : Gr) : Prop := 1 ≤ g.rows ∧ g.rows ≤ 40 ∧ 1 ≤ g.cols ∧ g.cols ≤ 60 ∧ ∀ r, r < g.rows → RightRow (g.f r) g.cols
theorem width_bd (x : Int) : C.width x = 0 ∨ C.width x = 1 ∨ C.width x = 2 := by
  rw [C.width_ref]
  unfold C.refWidth
  split
  · exact .inl rfl
  · generalize C.wides = l
    induction l with
    | nil => right; left; rfl
    | cons p l ih =>
      obtain ⟨a, b⟩ := p
      unfold C.isWide
      split
      · right; right; rfl
      · exact ih
theorem right_newG {R K : Nat} {p : Pn} (hp : okPen p) (h1 : 1 ≤ R) (h2 : R ≤ 40) (h3 : 1 ≤ K) (h4 : K ≤ 60) : RightG (newG R K p) := ⟨h1, h2, h3, h4, fun _ _ => right_blank p hp K⟩
theorem right_putG {g : Gr} (h : RightG g) {p : Pn} (hp : okPen p) (r c : Nat) (x : Int) : RightG (putG g r c x p) := by
  unfold putG
  by_cases hc : r < g.rows ∧ 1 ≤ C.width x ∧ c + (C.width x).toNat ≤ g.cols
  · rw [if_pos hc]
    refine ⟨h.1, h.2.1, h.2.2.1, h.2.2.2.1, fun i hi => ?_⟩
    by_cases hir : i = r
    · subst hir
      simp only [if_true]
      have hw := width_bd x
      exact right_put (h.2.2.2.2 i hi) hp (by omega) (by omega) (by omega) hc.2.2
    · simp only [if_neg hir]
      exact h.2.2.2.2 i hi
  · rw [if_neg hc]; exact h
theorem right_wipeG {g : Gr} (h : RightG g) {p : Pn} (hp : okPen p) (r a b : Nat) : RightG (wipeG g r a b p) := by
  unfold wipeG
  by_cases hc : r < g.rows
  · rw [if_pos hc]
    refine ⟨h.1, h.2.1, h.2.2.1, h.2.2.2.1, fun i hi => ?_⟩
    by_cases hir : i = r
    · subst hir
      simp only [if_true]
      exact right_wipe (h.2.2.2.2 i hi) a b hp
    · simp only [if_neg hir]
      exact h.2.2.2.2 i hi
  · rw [if_neg hc]; exact h
theorem right_resizeG {g : Gr} (h : RightG g) {R K : Nat} (h1 : 1 ≤ R) (h2 : R ≤ 40) (h3 : 1 ≤ K) (h4 : K ≤ 60) : RightG (resizeG g R K) := by
  refine ⟨h1, h2, h3, h4, fun i hi => ?_⟩
  by_cases hir : i < g.rows
  · refine right_mend (h.2.2.2.2 i hir) fun j hj => ?_
    by_cases hjc : j < g.cols
    · left; simp [hir, hjc]
    · right; exact ⟨plain, plain_ok, by simp [hjc]⟩
  · refine right_mend (right_blank plain plain_ok K) fun j hj => ?_
    left
    simp [hir, hj]
/-! what the laws ask -/
/-- what isn't near stays -/
theorem put_far {g : Gr} {r c i j : Nat} {x : Int} {p : Pn} (h : ¬ (i = r ∧ c ≤ j + 1 ∧ j ≤ c + (C.width x).toNat)) : (putG g r c x p).f i j = g.f i j := by
  unfold putG
  by_cases hc : r < g.rows ∧ 1 ≤ C.width x ∧ c + (C.width x).toNat ≤ g.cols
  · rw [if_pos hc]
    by_cases hir : i = r
    · subst hir
      simp only [if_true]
      unfold putRow
      rw [if_neg (by omega), if_neg (by omega), if_neg (by omega), if_neg (by omega)]
    · simp only [if_neg hir]
  · rw [if_neg hc]
theorem put_at {g : Gr} {r c : Nat} {x : Int} {p : Pn} (h : r < g.rows ∧ 1 ≤ C.width x ∧ c + (C.width x).toNat ≤ g.cols) : (putG g r c x p).f r c = (x, if (C.width x).toNat = 2 then 1 else 0, p) := by
  unfold putG
  rw [if_pos h]
  simp only [if_true]
  unfold putRow
  rw [if_pos rfl]
theorem put_not {g : Gr} {r c : Nat} {x : Int} {p : Pn} (h : ¬ (r < g.rows ∧ 1 ≤ C.width x ∧ c + (C.width x).toNat ≤ g.cols)) : putG g r c x p = g := if_neg h
theorem put_size (g : Gr) (r c : Nat) (x : Int) (p : Pn) : (putG g r c x p).rows = g.rows ∧ (putG g r c x p).cols = g.cols := by
  unfold putG
  split <;> exact ⟨rfl, rfl⟩
theorem wipe_size (g : Gr) (r a b : Nat) (p : Pn) : (wipeG g r a b p).rows = g.rows ∧ (wipeG g r a b p).cols = g.cols := by
  unfold wipeG
  split <;> exact ⟨rfl, rfl⟩
theorem mend_congr {f h : Nat → Cl} {n : Nat} (e : ∀ j, j < n → f j = h j) {j : Nat} (hj : j < n) : mend f n j = mend h n j := by
  unfold mend
  rw [e j hj]
  have a1 : (j + 1 < n ∧ kd (f (j + 1)) = 2) ↔ (j + 1 < n ∧ kd (h (j + 1)) = 2) := and_congr_right fun hh => by rw [e _ hh]
  have a2 : (0 < j ∧ kd (f (j - 1)) = 1) ↔ (0 < j ∧ kd (h (j - 1)) = 1) := and_congr_right fun hh => by rw [e _ (by omega)]
  simp only [a1, a2]
/-- wiped by nothing it is the same -/
theorem wipe_none {g : Gr} (h : RightG g) (r m : Nat) (p : Pn) : Alike (wipeG g r m m p) g := by
  refine ⟨(wipe_size g r m m p).1, (wipe_size g r m m p).2, fun i j hi hj => ?_⟩
  rw [(wipe_size g r m m p).1] at hi
  rw [(wipe_size g r m m p).2] at hj
  unfold wipeG
  by_cases hr : r < g.rows
  · rw [if_pos hr]
    by_cases hir : i = r
    · subst hir
      simp only [if_true]
      rw [mend_congr (h := g.f i) (fun k _ => by unfold wiped; rw [if_neg (by omega)]) hj]
      exact mend_right (h.2.2.2.2 i hi) hj
    · simp only [if_neg hir]
  · rw [if_neg hr]
/-- a row wiped whole is blank -/
theorem wipe_all {g : Gr} {r : Nat} (hr : r < g.rows) (p : Pn) {j : Nat} (hj : j < g.cols) : (wipeG g r 0 g.cols p).f r j = blank p := by
  unfold wipeG
  rw [if_pos hr]
  simp only [if_true]
  rw [mend_congr (h := fun _ => blank p) (fun k hk => by unfold wiped; rw [if_pos (by omega)]) hj]
  unfold mend
  rw [if_neg (by rw [kd_blank]; omega)]
theorem wipe_other {g : Gr} {r i a b : Nat} (h : i ≠ r) (p : Pn) (j : Nat) : (wipeG g r a b p).f i j = g.f i j := by
  unfold wipeG
  split
  · simp only [if_neg h]
  · rfl
/-- greater, and back again, it is the same -/
theorem resize_back {g : Gr} (h : RightG g) {R K : Nat} (hR : g.rows ≤ R) (hK : g.cols ≤ K) : Alike (resizeG (resizeG g R K) g.rows g.cols) g := by
  refine ⟨rfl, rfl, fun i j hi hj => ?_⟩
  have hi : i < g.rows := hi
  have hj : j < g.cols := hj
  have big : ∀ k, k < g.cols → (resizeG g R K).f i k = g.f i k := fun k hk => by
    show mend (fun j => if i < g.rows ∧ j < g.cols then g.f i j else blank plain) K k = _
    unfold mend
    have hr := h.2.2.2.2 i hi
    simp only [hi, hk, and_self, if_true, true_and]
    rw [if_neg]
    rintro (⟨a, b⟩ | ⟨a, b⟩)
    · have := hr.left hk a
      exact b ⟨by omega, by rw [if_pos this.2.1]; exact this.2.2.1⟩
    · have := hr.rightHalf hk a
      exact b ⟨this.2.1, by rw [if_pos (by omega)]; exact this.2.2⟩
  show mend (fun j => if i < (resizeG g R K).rows ∧ j < (resizeG g R K).cols then (resizeG g R K).f i j else blank plain) g.cols j = _
  rw [mend_congr (h := g.f i) (fun k hk => by rw [if_pos ⟨Nat.lt_of_lt_of_le hi hR, Nat.lt_of_lt_of_le hk hK⟩]; exact big k hk) hj]
  exact mend_right (h.2.2.2.2 i hi) hj
theorem resize_same {g : Gr} (h : RightG g) : Alike (resizeG g g.rows g.cols) g := by
  refine ⟨rfl, rfl, fun i j hi hj => ?_⟩
  have hi : i < g.rows := hi
  have hj : j < g.cols := hj
  show mend (fun j => if i < g.rows ∧ j < g.cols then g.f i j else blank plain) g.cols j = _
  rw [mend_congr (h := g.f i) (fun k hk => by rw [if_pos ⟨hi, hk⟩]) hj]
  exact mend_right (h.2.2.2.2 i hi) hj
end Go.Proofs.YtdcdinlppjlmfaaDoor.PG
namespace Go.Proofs.YtdcdinlppjlmfaaDoor.PG
set_option linter.unusedVariables false
/-- the runes of a row's first n cells, but for Right ones -/
def runes (f : Nat → Cl) (n : Nat) : List Int := ((List.range n).filter fun j => kd (f j) ≠ 2).map fun j => rn (f j)
def wides (l : List Int) : Nat := (l.filter fun x => C.width x = 2).length
theorem runes_succ (f : Nat → Cl) (n : Nat) : runes f (n + 1) = runes f n ++ (if kd (f n) ≠ 2 then [rn (f n)] else []) := by
  unfold runes
  rw [List.range_succ, List.filter_append, List.map_append]
  congr 1
  by_cases h : kd (f n) = 2 <;> simp [h]
theorem runes_congr {f h : Nat → Cl} {n : Nat} (e : ∀ j, j < n → f j = h j) : runes f n = runes h n := by
  induction n with
  | zero => rfl
  | succ n ih => rw [runes_succ, runes_succ, ih fun j hj => e j (by omega), e n (by omega)]
theorem wides_append (a b : List Int) : wides (a ++ b) = wides a + wides b := by
  unfold wides
  rw [List.filter_append, List.length_append]
/-- as many runes as cells, less one for each wide one -/
theorem runes_count {f : Nat → Cl} {n : Nat} (h : RightRow f n) : ∀ c, c ≤ n → (runes f c).length + wides (runes f c) = c + (if 0 < c ∧ kd (f (c - 1)) = 1 then 1 else 0) := by
  intro c
  induction c with
  | zero => intro _; rfl
  | succ c ih =>
    intro hc
    have hi := ih (by omega)
    rw [runes_succ, List.length_append, wides_append]
    rcases (h c (by omega)).2 with ⟨k1, k2⟩ | ⟨k1, k2, _⟩ | ⟨k1, k2, k3, k4⟩
    · have hp : ¬ (0 < c ∧ kd (f (c - 1)) = 1) := fun ⟨a, b⟩ => by
        have := (h.left (j := c - 1) (by omega) b).2.2.1
        rw [show c - 1 + 1 = c from by omega] at this
        omega
      rw [if_neg hp] at hi
      have e : (if kd (f c) ≠ 2 then [rn (f c)] else []) = [rn (f c)] := if_pos (by omega)
      have e2 : wides [rn (f c)] = 0 := by simp [wides, k2]
      rw [e, e2, if_neg (by rw [Nat.add_sub_cancel]; omega)]
      simp only [List.length_singleton]
      omega
    · have hp : ¬ (0 < c ∧ kd (f (c - 1)) = 1) := fun ⟨a, b⟩ => by
        have := (h.left (j := c - 1) (by omega) b).2.2.1
        rw [show c - 1 + 1 = c from by omega] at this
        omega
      rw [if_neg hp] at hi
      have e : (if kd (f c) ≠ 2 then [rn (f c)] else []) = [rn (f c)] := if_pos (by omega)
      have e2 : wides [rn (f c)] = 1 := by simp [wides, k2]
      rw [e, e2, if_pos (by rw [Nat.add_sub_cancel]; omega)]
      simp only [List.length_singleton]
      omega
    · rw [if_pos ⟨k3, k4⟩] at hi
      have e : (if kd (f c) ≠ 2 then [rn (f c)] else []) = [] := if_neg (by omega)
      rw [e, if_neg (by rw [Nat.add_sub_cancel]; omega)]
      show _ + 0 + (_ + 0) = _
      omega
theorem runes_all {f : Nat → Cl} {n : Nat} (h : RightRow f n) : (runes f n).length + wides (runes f n) = n := by
  rw [runes_count h n (Nat.le_refl n), if_neg, Nat.add_zero]
  rintro ⟨a, b⟩
  have := (h.left (j := n - 1) (by omega) b).2.1
  omega
/-- each of them is one or two wide -/
theorem runes_wide {f : Nat → Cl} {n : Nat} (h : RightRow f n) {x : Int} (hx : x ∈ runes f n) : C.width x = 1 ∨ C.width x = 2 := by
  unfold runes at hx
  obtain ⟨j, hj, rfl⟩ := List.mem_map.1 hx
  obtain ⟨hj, hk⟩ := List.mem_filter.1 hj
  have hk : kd (f j) ≠ 2 := by simpa using hk
  rcases (h j (List.mem_range.1 hj)).2 with k | k | k
  · exact .inl k.2
  · exact .inr k.2.1
  · exact absurd k.1 hk
/-! built anew -/
/-- one column more: the law's round -/
def again (f : Nat → Cl) (r : Nat) (o : Gr) (c : Nat) : Gr := if kd (f c) ≠ 2 then putG o r c (rn (f c)) (pn (f c)) else o
/-- what stands there once c columns are done -/
structure Upto (f : Nat → Cl) (R n r c : Nat) (o : Gr) : Prop where
  rows : o.rows = R
  cols : o.cols = n
  done : ∀ j, j < n → o.f r j = if j < c ∨ (j = c ∧ 0 < c ∧ kd (f (c - 1)) = 1) then f j else blank plain
theorem upto_new (f : Nat → Cl) (R n r : Nat) : Upto f R n r 0 (newG R n plain) := ⟨rfl, rfl, fun j _ => by rw [if_neg (by omega)]; rfl⟩
theorem upto_again {f : Nat → Cl} {R n r c : Nat} {o : Gr} (h : RightRow f n) (hr : r < R) (hc : c < n) (u : Upto f R n r c o) : Upto f R n r (c + 1) (again f r o c) := by
  unfold again
  by_cases hk : kd (f c) = 2
  · rw [if_neg (by omega)]
    refine ⟨u.rows, u.cols, fun j hj => ?_⟩
    have hl := h.rightHalf hc hk
    rw [u.done j hj]
    by_cases h1 : j < c + 1
    · rw [if_pos (c := j < c + 1 ∨ _) (.inl h1)]
      by_cases h2 : j < c
      · rw [if_pos (.inl h2)]
      · rw [if_pos (.inr ⟨by omega, hl.2⟩)]
    · rw [if_neg (c := j < c ∨ _) (by omega), if_neg]
      rintro (a | ⟨a, b, d⟩)
      · exact h1 a
      · rw [Nat.add_sub_cancel] at d; omega
  · rw [if_pos hk]
    -- nothing of it stands there yet
    have hp : ¬ (0 < c ∧ kd (f (c - 1)) = 1) := fun ⟨a, b⟩ => by
      have := (h.left (j := c - 1) (by omega) b).2.2.1
      rw [show c - 1 + 1 = c from by omega] at this
      omega
    have hfree : ∀ j, c ≤ j → j < n → o.f r j = blank plain := fun j a b => by
      rw [u.done j b, if_neg]
      rintro (d | ⟨_, d⟩)
      · omega
      · exact hp d
    have hold : ∀ j, j < c → o.f r j = f j := fun j a => by rw [u.done j (by omega), if_pos (.inl a)]
    -- how wide it is
    have hw : C.width (rn (f c)) = 1 ∧ kd (f c) = 0 ∨ C.width (rn (f c)) = 2 ∧ kd (f c) = 1 ∧ c + 1 < n ∧ f (c + 1) = (0, 2, pn (f c)) := by
      rcases (h c hc).2 with ⟨k1, k2⟩ | ⟨k1, k2, k3, k4, k5⟩ | ⟨k1, _⟩
      · exact .inl ⟨k2, k1⟩
      · refine .inr ⟨k2, k1, k3, cl_ext ?_ k4 k5⟩
        exact (h.rightHalf k3 k4).1
      · exact absurd k1 hk
    have hfit : r < o.rows ∧ 1 ≤ C.width (rn (f c)) ∧ c + (C.width (rn (f c))).toNat ≤ o.cols := by
      rw [u.rows, u.cols]
      refine ⟨hr, ?_, ?_⟩ <;> rcases hw with ⟨a, _⟩ | ⟨a, _, b, _⟩ <;> rw [a] <;> first | omega | (show c + 1 ≤ n; omega) | (show c + 2 ≤ n; omega)
    refine ⟨(put_size ..).1.trans u.rows, (put_size ..).2.trans u.cols, fun j hj => ?_⟩
    unfold putG
    rw [if_pos hfit]
    simp only [if_true]
    unfold putRow
    rw [if_neg (c := j + 1 = c ∧ kd (o.f r c) = 2) (by rw [hfree c (Nat.le_refl c) hc, kd_blank]; omega)]
    rcases hw with ⟨a, k⟩ | ⟨a, k, hn, e⟩
    · rw [a]
      show (if j = c then (rn (f c), 0, pn (f c)) else if (1 = 2 ∧ j = c + 1) then _ else if (j = c + 1 ∧ kd (o.f r (c + 1 - 1)) = 1) then _ else o.f r j) = _
      rw [Nat.add_sub_cancel, if_neg (c := (1 : Nat) = 2 ∧ j = c + 1) (by omega), if_neg (c := j = c + 1 ∧ kd (o.f r c) = 1) (by rw [hfree c (Nat.le_refl c) hc, kd_blank]; omega)]
      by_cases h1 : j = c
      · subst h1
        rw [if_pos rfl, if_pos (.inl (by omega))]
        exact cl_ext rfl k.symm rfl
      · rw [if_neg h1]
        by_cases h2 : j < c
        · rw [if_pos (.inl (by omega)), hold j h2]
        · rw [if_neg, hfree j (by omega) hj]
          rintro (d | ⟨_, _, d⟩) <;> omega
    · rw [a]
      show (if j = c then (rn (f c), 1, pn (f c)) else if (2 = 2 ∧ j = c + 1) then (0, 2, pn (f c)) else if (j = c + 2 ∧ kd (o.f r (c + 2 - 1)) = 1) then _ else o.f r j) = _
      rw [show c + 2 - 1 = c + 1 from by omega, if_neg (c := j = c + 2 ∧ kd (o.f r (c + 1)) = 1) (by rw [hfree (c + 1) (by omega) hn, kd_blank]; omega)]
      by_cases h1 : j = c
      · subst h1
        rw [if_pos rfl, if_pos (.inl (by omega))]
        exact cl_ext rfl k.symm rfl
      · rw [if_neg h1]
        by_cases h2 : j = c + 1
        · subst h2
          rw [if_pos ⟨rfl, rfl⟩, if_pos (.inr ⟨rfl, by omega, by rw [Nat.add_sub_cancel]; exact k⟩), e]
        · rw [if_neg (by omega)]
          by_cases h3 : j < c
          · rw [if_pos (.inl (by omega)), hold j h3]
          · rw [if_neg (by omega), hfree j (by omega) hj]
theorem upto_row {f : Nat → Cl} {R n r : Nat} {o : Gr} (u : Upto f R n r n o) {j : Nat} (hj : j < n) : o.f r j = f j := by rw [u.done j hj, if_pos (.inl hj)]
/-- built anew a row's text is the same -/
theorem upto_runes {f : Nat → Cl} {R n r : Nat} {o : Gr} (u : Upto f R n r n o) : runes (o.f r) n = runes f n := runes_congr fun j hj => upto_row u hj
/-! the other laws -/
/-- both of two rows wiped whole, it is a new one -/
theorem wipe_both {g : Gr} (hr : g.rows = 2) (p : Pn) : Alike (wipeG (wipeG g 0 0 g.cols p) 1 0 g.cols p) (newG 2 g.cols p) := by
  have s1 := wipe_size g 0 0 g.cols p
  have s2 := wipe_size (wipeG g 0 0 g.cols p) 1 0 g.cols p
  refine ⟨by rw [s2.1, s1.1, hr]; rfl, by rw [s2.2, s1.2]; rfl, fun i j hi hj => ?_⟩
  rw [s2.1, s1.1, hr] at hi
  rw [s2.2, s1.2] at hj
  show _ = blank p
  have : i = 0 ∨ i = 1 := by omega
  rcases this with e | e
  · subst e
    rw [wipe_other (by omega)]
    exact wipe_all (by omega) p hj
  · subst e
    have := wipe_all (g := wipeG g 0 0 g.cols p) (r := 1) (by rw [s1.1]; omega) p (j := j) (by rw [s1.2]; exact hj)
    rw [s1.2] at this
    exact this
/-- a wide rune alone on a blank row -/
theorem wide_at {n k : Nat} {x : Int} {p q : Pn} (hx : C.width x = 2) (hk : k + 2 ≤ n) (j : Nat) : (putG (newG 1 n p) 0 k x q).f 0 j = if j = k then (x, 1, q) else if j = k + 1 then (0, 2, q) else blank p := by
  unfold putG
  rw [hx, if_pos ⟨by show 0 < 1; omega, by omega, by show k + 2 ≤ n; omega⟩]
  simp only [if_true]
  unfold putRow newG
  show (if j = k then (x, 1, q) else if (2 = 2 ∧ j = k + 1) then (0, 2, q) else if (j + 1 = k ∧ kd (blank p) = 2) then blank (pn (blank p)) else if (j = k + 2 ∧ kd (blank p) = 1) then blank (pn (blank p)) else blank p) = _
  rw [kd_blank, if_neg (c := j + 1 = k ∧ (0 : Int) = 2) (by omega), if_neg (c := j = k + 2 ∧ (0 : Int) = 1) (by omega)]
  by_cases h1 : j = k
  · rw [if_pos h1, if_pos h1]
  · rw [if_neg h1, if_neg h1]
    by_cases h2 : j = k + 1
    · rw [if_pos ⟨rfl, h2⟩, if_pos h2]
    · rw [if_neg (by omega), if_neg h2]
/-- one rune over one half of it: the other half is blank -/
theorem over_half {g : Gr} {n k : Nat} {x y : Int} {p q s : Pn} (hg : g = putG (newG 1 n p) 0 k x q) (hx : C.width x = 2) (hy : C.width y = 1) (hk : k + 2 ≤ n) : (putG g 0 k y s).f 0 (k + 1) = blank q ∧ (putG g 0 (k + 1) y s).f 0 k = blank q := by
  have hs : g.rows = 1 ∧ g.cols = n := by rw [hg]; exact put_size ..
  have hat : ∀ j, g.f 0 j = if j = k then (x, 1, q) else if j = k + 1 then (0, 2, q) else blank p := fun j => by rw [hg]; exact wide_at hx hk j
  have e0 : g.f 0 k = (x, 1, q) := by rw [hat, if_pos rfl]
  have e1 : g.f 0 (k + 1) = (0, 2, q) := by rw [hat, if_neg (by omega), if_pos rfl]
  constructor
  · unfold putG
    rw [hy, if_pos ⟨by omega, by omega, by rw [hs.2]; show k + 1 ≤ n; omega⟩]
    simp only [if_true]
    unfold putRow
    show (if k + 1 = k then _ else if ((1 : Nat) = 2 ∧ _) then _ else if (k + 1 + 1 = k ∧ _) then _ else if (k + 1 = k + 1 ∧ kd (g.f 0 (k + 1 - 1)) = 1) then blank (pn (g.f 0 (k + 1))) else _) = _
    rw [if_neg (by omega), if_neg (by omega), if_neg (by omega), Nat.add_sub_cancel, e0, e1, if_pos ⟨rfl, rfl⟩]
    rfl
  · unfold putG
    rw [hy, if_pos ⟨by omega, by omega, by rw [hs.2]; show k + 1 + 1 ≤ n; omega⟩]
    simp only [if_true]
    unfold putRow
    rw [if_neg (by omega), if_neg (by omega), e1, e0, if_pos ⟨rfl, rfl⟩]
    rfl
/-- wiped through its right half both are blank, each of its pen -/
theorem wipe_half {g : Gr} {n k : Nat} {x : Int} {p q s : Pn} (hg : g = putG (newG 1 n p) 0 k x q) (hx : C.width x = 2) (hk : k + 2 ≤ n) : (wipeG g 0 (k + 1) (k + 2) s).f 0 k = blank q ∧ (wipeG g 0 (k + 1) (k + 2) s).f 0 (k + 1) = blank s := by
  have hs : g.rows = 1 ∧ g.cols = n := by rw [hg]; exact put_size ..
  have hat : ∀ j, g.f 0 j = if j = k then (x, 1, q) else if j = k + 1 then (0, 2, q) else blank p := fun j => by rw [hg]; exact wide_at hx hk j
  have w0 : wiped (g.f 0) (k + 1) (k + 2) s k = (x, 1, q) := by unfold wiped; rw [if_neg (by omega), hat, if_pos rfl]
  have w1 : wiped (g.f 0) (k + 1) (k + 2) s (k + 1) = blank s := by unfold wiped; rw [if_pos (by omega)]
  have e : ∀ j, (wipeG g 0 (k + 1) (k + 2) s).f 0 j = mend (wiped (g.f 0) (k + 1) (k + 2) s) n j := fun j => by
    unfold wipeG
    rw [if_pos (by omega), hs.2]
    simp only [if_true]
  constructor
  · rw [e]
    unfold mend
    rw [w0, w1, if_pos]
    · rfl
    · left
      exact ⟨rfl, fun h => by rw [kd_blank] at h; omega⟩
  · rw [e]
    unfold mend
    rw [w1, if_neg]
    rw [kd_blank]
    omega
/-- cut through it, what is left is blank -/
theorem cut_half {g : Gr} {n k : Nat} {x : Int} {p q : Pn} (hg : g = putG (newG 1 n p) 0 k x q) (hx : C.width x = 2) (hk : k + 2 ≤ n) : (resizeG g 1 (k + 1)).f 0 k = blank q := by
  have hs : g.rows = 1 ∧ g.cols = n := by rw [hg]; exact put_size ..
  have e0 : g.f 0 k = (x, 1, q) := by rw [hg, wide_at hx hk, if_pos rfl]
  show mend (fun j => if 0 < g.rows ∧ j < g.cols then g.f 0 j else blank plain) (k + 1) k = _
  unfold mend
  have c0 : (0 < g.rows ∧ k < g.cols) := by omega
  simp only [c0, and_self, if_true, e0]
  rw [if_pos]
  · rfl
  · left
    exact ⟨rfl, fun h => by omega⟩
end Go.Proofs.YtdcdinlppjlmfaaDoor.PG
namespace Go.Proofs.YtdcdinlppjlmfaaDoor.PG
set_option linter.unusedVariables false
def none : Cl := (0, 0, (0, 0, 0))
/-- the grid of a list of cells -/
def ofL (R K : Nat) (l : List Cl) : Gr := ⟨R, K, fun r c => (l[r * K + c]?).getD none⟩
theorem ofL_at {R K : Nat} {l : List Cl} (hl : l.length = R * K) {r c : Nat} (hr : r < R) (hc : c < K) : l[r * K + c]? = some ((ofL R K l).f r c) := by
  have h : r * K + c < l.length := by rw [hl]; exact place_lt hr hc
  show _ = some ((l[r * K + c]?).getD none)
  rw [List.getElem?_eq_getElem h]
  rfl
/-- a list that has a grid's cells in their places is its list -/
theorem cells_of {g : Gr} {l : List Cl} (hl : l.length = g.rows * g.cols) (h : ∀ r c, r < g.rows → c < g.cols → l[r * g.cols + c]? = some (g.f r c)) : l = cells g := by
  refine List.ext_getElem? fun i => ?_
  by_cases hi : i < g.rows * g.cols
  · obtain ⟨_, h1, h2, h3⟩ := place_of hi
    rw [← h3, h _ _ h1 h2, cells_at g h1 h2]
  · rw [List.getElem?_eq_none (by omega), List.getElem?_eq_none (by rw [cells_len]; omega)]
theorem ofL_cells {R K : Nat} {l : List Cl} (hl : l.length = R * K) : cells (ofL R K l) = l := (cells_of (g := ofL R K l) hl fun _ _ hr hc => ofL_at hl hr hc).symm
theorem alike_ofL (g : Gr) : Alike (ofL g.rows g.cols (cells g)) g := ⟨rfl, rfl, fun r c hr hc => by
  have e := ofL_at (cells_len g) hr hc
  rw [cells_at g hr hc] at e
  exact (Option.some.inj e).symm⟩
/-- places of one row and another -/
theorem place_inj {K r c i j : Nat} (hc : c < K) (hj : j < K) (h : r * K + c = i * K + j) : r = i ∧ c = j := by
  have a := place_div (r := r) hc
  have b := place_div (r := i) hj
  rw [h] at a
  exact ⟨a.1.symm.trans b.1, a.2.symm.trans b.2⟩
/-- one cell set -/
theorem set_at {g : Gr} {r c : Nat} (hr : r < g.rows) (hc : c < g.cols) (x : Cl) : (cells g).set (r * g.cols + c) x = cells ⟨g.rows, g.cols, fun i j => if i = r ∧ j = c then x else g.f i j⟩ := by
  refine cells_of (g := ⟨g.rows, g.cols, fun i j => if i = r ∧ j = c then x else g.f i j⟩) (by rw [List.length_set, cells_len]) fun i j hi hj => ?_
  show ((cells g).set (r * g.cols + c) x)[i * g.cols + j]? = some (if i = r ∧ j = c then x else g.f i j)
  have hi : i < g.rows := hi
  have hj : j < g.cols := hj
  by_cases h : i = r ∧ j = c
  · obtain ⟨rfl, rfl⟩ := h
    rw [if_pos ⟨rfl, rfl⟩, List.getElem?_set_self (by rw [cells_len]; exact place_lt hi hj)]
  · rw [if_neg h, List.getElem?_set_ne, cells_at g hi hj]
    intro e
    have := place_inj hc hj e
    exact h ⟨this.1.symm, this.2.symm⟩
/-- a row, cut out of the list -/
theorem row_cut {g : Gr} {r : Nat} (hr : r < g.rows) : ((cells g).drop (r * g.cols)).take g.cols = (List.range g.cols).map (g.f r) := by
  refine List.ext_getElem? fun j => ?_
  by_cases hj : j < g.cols
  · rw [List.getElem?_take_of_lt hj, List.getElem?_drop, cells_at g hr hj, List.getElem?_map, List.getElem?_range hj]
    rfl
  · rw [List.getElem?_eq_none (by rw [List.length_take]; omega), List.getElem?_eq_none (by rw [List.length_map, List.length_range]; omega)]
/-! cells, one behind the other, that will be a grid w wide -/
structure Ok (w : Nat) (l : List Cl) : Prop where
  each : ∀ j c, l[j]? = some c → okPen (pn c) ∧
    ((kd c = 0 ∧ C.width (rn c) = 1) ∨
     (kd c = 1 ∧ C.width (rn c) = 2 ∧ (j + 1) % w ≠ 0 ∧ ∃ d, l[j + 1]? = some d ∧ kd d = 2 ∧ pn d = pn c) ∨
     (kd c = 2 ∧ rn c = 0 ∧ j % w ≠ 0 ∧ ∃ d, l[j - 1]? = some d ∧ kd d = 1))
theorem ok_nil (w : Nat) : Ok w [] := ⟨fun j c h => by simp at h⟩
theorem snoc_at {α : Type} {l : List α} {x c : α} {j : Nat} (h : (l ++ [x])[j]? = some c) : l[j]? = some c ∨ (j = l.length ∧ c = x) := by
  rcases Nat.lt_or_ge j l.length with a | a
  · rw [List.getElem?_append_left a] at h
    exact .inl h
  · rw [List.getElem?_append_right a] at h
    rcases Nat.eq_or_lt_of_le a with b | b
    · rw [← b, Nat.sub_self] at h
      exact .inr ⟨b.symm, (Option.some.inj h).symm⟩
    · rw [List.getElem?_eq_none (by simp; omega)] at h
      exact absurd h (by simp)
theorem grow_at {α : Type} {l m : List α} {d : α} {j : Nat} (h : l[j]? = some d) : (l ++ m)[j]? = some d := by
  have a : j < l.length := by
    rcases Nat.lt_or_ge j l.length with a | a
    · exact a
    · rw [List.getElem?_eq_none a] at h; exact absurd h (by simp)
  rw [List.getElem?_append_left a]
  exact h
theorem Ok.grow {w : Nat} {l m : List Cl} (h : Ok w l) {j : Nat} {c : Cl} (hc : l[j]? = some c) : okPen (pn c) ∧
    ((kd c = 0 ∧ C.width (rn c) = 1) ∨
     (kd c = 1 ∧ C.width (rn c) = 2 ∧ (j + 1) % w ≠ 0 ∧ ∃ d, (l ++ m)[j + 1]? = some d ∧ kd d = 2 ∧ pn d = pn c) ∨
     (kd c = 2 ∧ rn c = 0 ∧ j % w ≠ 0 ∧ ∃ d, (l ++ m)[j - 1]? = some d ∧ kd d = 1)) := by
  obtain ⟨h0, h | ⟨h1, h2, h3, d, h4, h5⟩ | ⟨h1, h2, h3, d, h4, h5⟩⟩ := h.each j c hc
  · exact ⟨h0, .inl h⟩
  · exact ⟨h0, .inr (.inl ⟨h1, h2, h3, d, grow_at h4, h5⟩)⟩
  · exact ⟨h0, .inr (.inr ⟨h1, h2, h3, d, grow_at h4, h5⟩)⟩
theorem ok_one {w : Nat} {l : List Cl} (h : Ok w l) {x : Int} {p : Pn} (hx : C.width x = 1) (hp : okPen p) : Ok w (l ++ [(x, 0, p)]) := by
  refine ⟨fun j c hc => ?_⟩
  rcases snoc_at hc with a | ⟨_, rfl⟩
  · exact h.grow a
  · exact ⟨hp, .inl ⟨rfl, hx⟩⟩
theorem ok_two {w : Nat} {l : List Cl} (h : Ok w l) {x : Int} {p : Pn} (hx : C.width x = 2) (hp : okPen p) (hw : (l.length + 1) % w ≠ 0) : Ok w (l ++ [(x, 1, p), (0, 2, p)]) := by
  have e : l ++ [(x, 1, p), (0, 2, p)] = l ++ [(x, 1, p)] ++ [(0, 2, p)] := by simp
  refine ⟨fun j c hc => ?_⟩
  rw [e] at hc
  rcases snoc_at hc with a | ⟨hj, rfl⟩
  · rcases snoc_at a with b | ⟨hj, rfl⟩
    · exact h.grow b
    · refine ⟨hp, .inr (.inl ⟨rfl, hx, by rw [hj]; exact hw, (0, 2, p), ?_, rfl, rfl⟩)⟩
      rw [e, hj]
      exact List.getElem?_concat_length (l := l ++ [(x, 1, p)]) (a := ((0, 2, p) : Cl)) ▸ by simp
  · have hj : j = l.length + 1 := by simpa using hj
    refine ⟨hp, .inr (.inr ⟨rfl, rfl, by rw [hj]; exact hw, (x, 1, p), ?_, rfl⟩)⟩
    rw [hj]
    simp
theorem mod_row {w r c : Nat} (hc : c < w) : (r * w + c) % w = c := (place_div hc).2
theorem ok_grid {R K : Nat} {l : List Cl} (h : Ok K l) (hl : l.length = R * K) (h1 : 1 ≤ R) (h2 : R ≤ 40) (h3 : 1 ≤ K) (h4 : K ≤ 60) : RightG (ofL R K l) := by
  refine ⟨h1, h2, h3, h4, fun r hr c hc => ?_⟩
  have hc : c < K := hc
  have hr : r < R := hr
  have e := ofL_at hl hr hc
  obtain ⟨h0, k | ⟨k1, k2, k3, d, k4, k5, k6⟩ | ⟨k1, k2, k3, d, k4, k5⟩⟩ := h.each _ _ e
  · exact ⟨h0, .inl k⟩
  · have hn : c + 1 < K := by
      rcases Nat.lt_or_ge (c + 1) K with a | a
      · exact a
      · exfalso
        apply k3
        have : c + 1 = K := by omega
        rw [Nat.add_assoc, this, ← Nat.succ_mul]
        exact Nat.mul_mod_left _ _
    have e' := ofL_at hl hr hn
    rw [← Nat.add_assoc, k4] at e'
    have e' := Option.some.inj e'
    exact ⟨h0, .inr (.inl ⟨k1, k2, hn, by rw [← e']; exact k5, by rw [← e']; exact k6⟩)⟩
  · rw [mod_row hc] at k3
    have hn : c - 1 < K := by omega
    have e' := ofL_at hl hr hn
    rw [show r * K + (c - 1) = r * K + c - 1 from by omega, k4] at e'
    have e' := Option.some.inj e'
    exact ⟨h0, .inr (.inr ⟨k1, k2, by omega, by rw [← e']; exact k5⟩)⟩
/-- two more of them are still within the grid -/
theorem two_fit {R K i : Nat} (hi : i < R * K) (hw : (i + 1) % K ≠ 0) : i + 2 ≤ R * K := by
  rcases Nat.lt_or_ge (i + 1) (R * K) with a | a
  · omega
  · exfalso
    apply hw
    have : i + 1 = R * K := by omega
    rw [this]
    exact Nat.mul_mod_left _ _
/-- what is one wide, or two, is a rune -/
theorem width_rune {x : Int} (h : C.width x = 1 ∨ C.width x = 2) : U.isR x = true := by
  have hn : ¬ C.narrow x := fun hn => by
    rw [C.width_ref] at h
    unfold C.refWidth at h
    rw [if_pos hn] at h
    omega
  unfold C.narrow at hn
  unfold U.isR
  exact decide_eq_true (by omega)
/-- a row's text -/
def text (f : Nat → Cl) (n : Nat) : List Int := U.enc (runes f n)
theorem runes_isR {f : Nat → Cl} {n : Nat} (h : RightRow f n) : ∀ x ∈ runes f n, U.isR x = true := fun x hx => width_rune (runes_wide h hx)
theorem runes_len (f : Nat → Cl) (n : Nat) : (runes f n).length ≤ n := by
  unfold runes
  rw [List.length_map]
  exact Nat.le_trans (List.length_filter_le _ _) (by rw [List.length_range]; exact Nat.le_refl n)
theorem text_len (f : Nat → Cl) (n : Nat) : (text f n).length ≤ 4 * n := Nat.le_trans (U.enc_len _) (Nat.mul_le_mul_left 4 (runes_len f n))
/-- a wide rune's text is longer than blanks are -/
theorem runes_blank (p : Pn) (n : Nat) : runes (fun _ => blank p) n = List.replicate n 32 := by
  induction n with
  | zero => rfl
  | succ n ih =>
    rw [runes_succ, ih, if_pos (by rw [kd_blank]; omega), List.replicate_succ']
    rfl
end Go.Proofs.YtdcdinlppjlmfaaDoor.PG
namespace Go.Proofs.YtdcdinlppjlmfaaDoor.PG
set_option linter.unusedVariables false
theorem width_han {x : Int} (h0 : 11904 ≤ x) (h1 : x ≤ 42191) : C.width x = 2 := by
  rw [C.width_ref]
  unfold C.refWidth
  rw [if_neg (show ¬ C.narrow x from by unfold C.narrow; omega)]
  unfold C.wides
  rw [C.isWide_out (by omega), C.isWide_in (by omega)]
theorem width_ascii {x : Int} (h0 : 32 ≤ x) (h1 : x ≤ 126) : C.width x = 1 := by
  rw [C.width_ref]
  unfold C.refWidth
  rw [if_neg (show ¬ C.narrow x from by unfold C.narrow; omega)]
  unfold C.wides
  rw [C.isWide_out (by omega), C.isWide_out (by omega), C.isWide_out (by omega), C.isWide_out (by omega), C.isWide_out (by omega), C.isWide_out (by omega), C.isWide_out (by omega), C.isWide_out (by omega), C.isWide_out (by omega)]
  rfl
def pick (l : List Int) (i : Nat) : Int := if l = [] then 0 else l.getD (i % l.length) 0
def keepPen (v : Int) : Pn := (C.kcol v, C.kcol (v.tdiv 16), v.tdiv 64 % 256)
theorem keepPen_ok (v : Int) : okPen (keepPen v) := C.right_iff.2 ⟨C.kcol_col _, C.kcol_col _, by show 0 ≤ v.tdiv 64 % 256; omega, by show v.tdiv 64 % 256 ≤ 255; omega⟩
/-- one round -/
def keepStep (rs ps : List Int) (w : Nat) (l : List Cl) : List Cl :=
  if (pick rs l.length).tmod 5 = 4 ∧ (l.length + 1) % w ≠ 0 then l ++ [(19968 + (pick rs l.length).tmod 9, 1, keepPen (pick ps (l.length / 3))), (0, 2, keepPen (pick ps (l.length / 3)))]
  else l ++ [(97 + pick rs l.length % 10, 0, keepPen (pick ps (l.length / 3)))]
theorem tmod_pos {n : Int} (h : n.tmod 5 = 4) : 0 ≤ n := by
  rcases Int.lt_or_le n 0 with a | a
  · exfalso
    have h1 := Int.neg_tmod n 5
    rw [h] at h1
    have h2 := Int.tmod_nonneg (5 : Int) (show (0 : Int) ≤ -n by omega)
    omega
  · exact a
theorem keepStep_ok (rs ps : List Int) {R w : Nat} {l : List Cl} (h : Ok w l) (hl : l.length < R * w) : Ok w (keepStep rs ps w l) ∧ l.length < (keepStep rs ps w l).length ∧ (keepStep rs ps w l).length ≤ R * w := by
  unfold keepStep
  by_cases hc : (pick rs l.length).tmod 5 = 4 ∧ (l.length + 1) % w ≠ 0
  · rw [if_pos hc]
    have h0 := tmod_pos hc.1
    have h1 := Int.tmod_nonneg (9 : Int) h0
    have h2 := Int.tmod_lt_of_pos (pick rs l.length) (b := 9) (by omega)
    refine ⟨ok_two h (width_han (by omega) (by omega)) (keepPen_ok _) hc.2, by simp, ?_⟩
    have := two_fit hl hc.2
    simpa using this
  · rw [if_neg hc]
    exact ⟨ok_one h (width_ascii (by omega) (by omega)) (keepPen_ok _), by simp, by simp; omega⟩
/-- so many rounds at most -/
def keepGo (rs ps : List Int) (w total : Nat) : Nat → List Cl → List Cl
  | 0, l => l
  | k + 1, l => if l.length < total then keepGo rs ps w total k (keepStep rs ps w l) else l
theorem keepGo_ok (rs ps : List Int) {R w : Nat} : ∀ k l, Ok w l → l.length ≤ R * w → R * w - l.length ≤ k → Ok w (keepGo rs ps w (R * w) k l) ∧ (keepGo rs ps w (R * w) k l).length = R * w := by
  intro k
  induction k with
  | zero => intro l h hl hk; exact ⟨h, by show l.length = _; omega⟩
  | succ k ih =>
    intro l h hl hk
    unfold keepGo
    by_cases hc : l.length < R * w
    · rw [if_pos hc]
      obtain ⟨a, b, c⟩ := keepStep_ok rs ps h hc
      exact ih _ a c (by omega)
    · rw [if_neg hc]
      exact ⟨h, by omega⟩
def keepCells (rs ps : List Int) (R w : Nat) : List Cl := keepGo rs ps w (R * w) (R * w) []
theorem keepCells_ok (rs ps : List Int) (R w : Nat) : Ok w (keepCells rs ps R w) ∧ (keepCells rs ps R w).length = R * w := keepGo_ok rs ps _ _ (ok_nil w) (by simp) (by simp)
/-- what is left of the rounds: the loop's relation -/
theorem keepGo_step (rs ps : List Int) {R w k : Nat} {l : List Cl} (h : Ok w l) (hl : l.length < R * w) (hk : R * w - l.length ≤ k) : keepGo rs ps w (R * w) k l = keepGo rs ps w (R * w) k (keepStep rs ps w l) := by
  induction k generalizing l with
  | zero => omega
  | succ k ih =>
    obtain ⟨a, b, c⟩ := keepStep_ok rs ps h hl
    conv => lhs; unfold keepGo
    rw [if_pos hl]
    rcases Nat.lt_or_ge (keepStep rs ps w l).length (R * w) with d | d
    · rw [ih a d (by omega)]
      conv => rhs; unfold keepGo
      rw [if_pos d]
    · conv => rhs; unfold keepGo
      rw [if_neg (by omega)]
      cases k with
      | zero => rfl
      | succ k => unfold keepGo; rw [if_neg (by omega)]
theorem keepGo_done (rs ps : List Int) {w total k : Nat} {l : List Cl} (hl : total ≤ l.length) : keepGo rs ps w total k l = l := by
  cases k with
  | zero => rfl
  | succ k => unfold keepGo; rw [if_neg (by omega)]
/-- the grid of numbers is right -/
theorem keep_right (rs ps : List Int) {R w : Nat} (h1 : 1 ≤ R) (h2 : R ≤ 40) (h3 : 1 ≤ w) (h4 : w ≤ 60) : RightG (ofL R w (keepCells rs ps R w)) := ok_grid (keepCells_ok rs ps R w).1 (keepCells_ok rs ps R w).2 h1 h2 h3 h4
theorem keep_cells (rs ps : List Int) (R w : Nat) : cells (ofL R w (keepCells rs ps R w)) = keepCells rs ps R w := ofL_cells (keepCells_ok rs ps R w).2
end Go.Proofs.YtdcdinlppjlmfaaDoor.PG
namespace Go.Proofs.YtdcdinlppjlmfaaDoor.TB
set_option linter.unusedVariables false
/-- 64 bits -/
def Ok (t : Nat) : Prop := t < 18446744073709551616
def put1 (t c : Nat) : Nat := t ||| 2 ^ c
def drop1 (t c : Nat) : Nat := t &&& (18446744073709551615 - 2 ^ c)
theorem pow_ok {c : Nat} (h : c < 64) : 2 ^ c < 18446744073709551616 := by
  have : 2 ^ c ≤ 2 ^ 63 := Nat.pow_le_pow_right (by omega) (by omega)
  have e : (2 : Nat) ^ 63 = 9223372036854775808 := by decide
  omega
theorem put1_ok {t c : Nat} (h : Ok t) (hc : c < 64) : Ok (put1 t c) := by
  have e : (18446744073709551616 : Nat) = 2 ^ 64 := by decide
  unfold Ok put1 at *
  rw [e] at h ⊢
  exact Nat.or_lt_two_pow h (by rw [← e]; exact pow_ok hc)
theorem drop1_ok {t c : Nat} (h : Ok t) : Ok (drop1 t c) := Nat.lt_of_le_of_lt Nat.and_le_left h
theorem put1_bit (t c i : Nat) : (put1 t c).testBit i = (t.testBit i || decide (c = i)) := by
  unfold put1
  rw [Nat.testBit_or, Nat.testBit_two_pow]
theorem drop1_bit {t c i : Nat} (hc : c < 64) (hi : i < 64) : (drop1 t c).testBit i = (t.testBit i && !decide (c = i)) := by
  have e : 18446744073709551615 - 2 ^ c = 2 ^ 64 - (2 ^ c + 1) := by
    have : (2 : Nat) ^ 64 = 18446744073709551616 := by decide
    omega
  have h : (2 : Nat) ^ c < 2 ^ 64 := Nat.pow_lt_pow_right (by omega) hc
  unfold drop1
  rw [Nat.testBit_and, e, Nat.testBit_two_pow_sub_succ h, Nat.testBit_two_pow, decide_eq_true hi, Bool.true_and]
theorem bit_high {t i : Nat} (h : Ok t) (hi : 64 ≤ i) : t.testBit i = false := Nat.testBit_lt_two_pow (Nat.lt_of_lt_of_le h (by
  have : (2 : Nat) ^ 64 ≤ 2 ^ i := Nat.pow_le_pow_right (by omega) hi
  have e : (2 : Nat) ^ 64 = 18446744073709551616 := by decide
  omega))
theorem ext {a b : Nat} (ha : Ok a) (hb : Ok b) (h : ∀ i, i < 64 → a.testBit i = b.testBit i) : a = b := Nat.eq_of_testBit_eq fun i => by
  by_cases hi : i < 64
  · exact h i hi
  · rw [bit_high ha (by omega), bit_high hb (by omega)]
/-- a column may be a stop -/
def col (x : Int) : Prop := 0 ≤ x ∧ x < 64
instance (x : Int) : Decidable (col x) := inferInstanceAs (Decidable (_ ∧ _))
def puts (t : Nat) : List Int → Nat
  | [] => t
  | x :: l => puts (if col x then put1 t x.toNat else t) l
def drops (t : Nat) : List Int → Nat
  | [] => t
  | x :: l => drops (if col x then drop1 t x.toNat else t) l
theorem puts_ok : ∀ {l : List Int} {t : Nat}, Ok t → Ok (puts t l)
  | [], t, h => h
  | x :: l, t, h => puts_ok (t := if col x then put1 t x.toNat else t) (by
    split
    · rename_i hx
      exact put1_ok h (by unfold col at hx; omega)
    · exact h)
theorem drops_ok : ∀ {l : List Int} {t : Nat}, Ok t → Ok (drops t l)
  | [], t, h => h
  | x :: l, t, h => drops_ok (t := if col x then drop1 t x.toNat else t) (by
    split
    · exact drop1_ok h
    · exact h)
theorem puts_bit : ∀ (l : List Int) (t i : Nat), i < 64 → (puts t l).testBit i = (t.testBit i || l.any fun x => decide (x = (i : Int)))
  | [], t, i, hi => by simp [puts]
  | x :: l, t, i, hi => by
    show (puts _ l).testBit i = _
    rw [puts_bit l _ i hi, List.any_cons]
    by_cases hx : col x
    · rw [if_pos hx, put1_bit]
      have e : decide (x.toNat = i) = decide (x = (i : Int)) := by
        unfold col at hx
        by_cases h : x = (i : Int)
        · rw [decide_eq_true h, decide_eq_true (by omega)]
        · rw [decide_eq_false h, decide_eq_false (by omega)]
      rw [e, Bool.or_assoc]
    · rw [if_neg hx]
      have e : decide (x = (i : Int)) = false := decide_eq_false (fun h => hx (by unfold col; omega))
      rw [e, Bool.false_or]
theorem drops_bit : ∀ (l : List Int) (t i : Nat), i < 64 → (drops t l).testBit i = (t.testBit i && !(l.any fun x => decide (x = (i : Int))))
  | [], t, i, hi => by simp [drops]
  | x :: l, t, i, hi => by
    show (drops _ l).testBit i = _
    rw [drops_bit l _ i hi, List.any_cons]
    by_cases hx : col x
    · rw [if_pos hx, drop1_bit (by unfold col at hx; omega) hi]
      have e : decide (x.toNat = i) = decide (x = (i : Int)) := by
        unfold col at hx
        by_cases h : x = (i : Int)
        · rw [decide_eq_true h, decide_eq_true (by omega)]
        · rw [decide_eq_false h, decide_eq_false (by omega)]
      rw [e, Bool.not_or, Bool.and_assoc]
    · rw [if_neg hx]
      have e : decide (x = (i : Int)) = false := decide_eq_false (fun h => hx (by unfold col; omega))
      rw [e, Bool.false_or]
/-- put and put again: in any order -/
theorem puts_append (t : Nat) : ∀ (a b : List Int), puts t (a ++ b) = puts (puts t a) b
  | [], b => rfl
  | x :: a, b => puts_append _ a b
theorem puts_union {x y t : Nat} {a b : List Int} (ht : Ok t) {i : Nat} (hi : i < 64) : (puts (puts t a) b).testBit i = ((puts t a).testBit i || (puts 0 b).testBit i) := by
  rw [puts_bit b _ i hi, puts_bit b 0 i hi]
  simp
/-- all stops, rising -/
def list (t : Nat) : List Nat := (List.range 64).filter fun i => t.testBit i
/-- the next stop -/
def next (t c k : Nat) : Nat := (((List.range k).filter fun i => decide (c < i) && t.testBit i).head?).getD (k - 1)
theorem next_lt {t c k : Nat} (hk : 1 ≤ k) : next t c k < k := by
  unfold next
  cases h : ((List.range k).filter fun i => decide (c < i) && t.testBit i).head? with
  | none => show k - 1 < k; omega
  | some x =>
    have := List.mem_of_mem_head? (by rw [h]; rfl : x ∈ _)
    rw [List.mem_filter, List.mem_range] at this
    exact this.1
theorem next_is {t c k x : Nat} (h1 : c < x) (h2 : x < k) (h3 : t.testBit x = true) (h4 : ∀ i, c < i → i < x → t.testBit i = false) : next t c k = x := by
  unfold next
  rw [List.head?_filter]
  have : (List.range k).find? (fun i => decide (c < i) && t.testBit i) = some x := by
    rw [List.find?_range_eq_some]
    refine ⟨by simp [h1, h3], by simpa using h2, fun j hj => ?_⟩
    by_cases hc : c < j
    · simp [h4 j hc hj]
    · simp [hc]
  rw [this]
  rfl
theorem next_none {t c k : Nat} (h : ∀ i, c < i → i < k → t.testBit i = false) : next t c k = k - 1 := by
  unfold next
  rw [List.head?_filter]
  have : (List.range k).find? (fun i => decide (c < i) && t.testBit i) = none := by
    rw [List.find?_eq_none]
    intro j hj
    rw [List.mem_range] at hj
    by_cases hc : c < j
    · simp [h j hc hj]
    · simp [hc]
  rw [this]
  rfl
/-- there is one, the least, or none -/
theorem next_cases (t c k : Nat) : (∃ x, c < x ∧ x < k ∧ t.testBit x = true ∧ (∀ i, c < i → i < x → t.testBit i = false) ∧ next t c k = x) ∨ ((∀ i, c < i → i < k → t.testBit i = false) ∧ next t c k = k - 1) := by
  cases h : (List.range k).find? (fun i => decide (c < i) && t.testBit i) with
  | none =>
    right
    have hn : ∀ i, c < i → i < k → t.testBit i = false := fun i h1 h2 => by
      have := List.find?_eq_none.1 h i (by simpa using h2)
      simpa [h1] using this
    exact ⟨hn, next_none hn⟩
  | some x =>
    left
    obtain ⟨h1, h2, h3⟩ := List.find?_range_eq_some.1 h
    simp only [Bool.and_eq_true, decide_eq_true_eq] at h1
    rw [List.mem_range] at h2
    have h4 : ∀ i, c < i → i < x → t.testBit i = false := fun i hc hi => by
      have := h3 i hi
      simpa [hc] using this
    exact ⟨x, h1.1, h2, h1.2, h4, next_is h1.1 h2 h1.2 h4⟩
theorem list_mem {t i : Nat} : i ∈ list t ↔ i < 64 ∧ t.testBit i = true := by
  unfold list
  rw [List.mem_filter, List.mem_range]
/-- all stops dropped -/
theorem drop_all {t : Nat} (h : Ok t) : drops t ((list t).map fun i : Nat => (i : Int)) = 0 := by
  refine ext (drops_ok h) (by unfold Ok; omega) fun i hi => ?_
  rw [drops_bit _ _ i hi, Nat.zero_testBit]
  cases hb : t.testBit i with
  | false => rfl
  | true =>
    have hm : i ∈ list t := list_mem.2 ⟨hi, hb⟩
    have : ((list t).map fun i : Nat => (i : Int)).any (fun x => decide (x = (i : Int))) = true := by
      rw [List.any_eq_true]
      exact ⟨(i : Int), List.mem_map.2 ⟨i, hm, rfl⟩, by simp⟩
    rw [this]
    rfl
/-- the stops behind a, ahead of k -/
def mets (t a k : Nat) : List Nat := (List.range k).filter fun i => decide (a < i) && t.testBit i
theorem mets_succ (t a k : Nat) : mets t a (k + 1) = mets t a k ++ (if a < k ∧ t.testBit k = true then [k] else []) := by
  unfold mets
  rw [List.range_succ, List.filter_append]
  congr 1
  by_cases h : a < k ∧ t.testBit k = true
  · rw [if_pos h]
    simp [h.1, h.2]
  · rw [if_neg h]
    simp
    intro h1
    cases hb : t.testBit k with
    | false => rfl
    | true => exact absurd ⟨h1, hb⟩ h
theorem mets_nil {t a : Nat} : ∀ {k : Nat}, (∀ i, a < i → i < k → t.testBit i = false) → mets t a k = []
  | 0, _ => rfl
  | k + 1, h => by
    rw [mets_succ, mets_nil (fun i h1 h2 => h i h1 (by omega)), if_neg (fun x => by have := h k x.1 (by omega); rw [this] at x; cases x.2)]
    rfl
theorem mets_cons {t a x : Nat} (h1 : a < x) (h3 : t.testBit x = true) (h4 : ∀ i, a < i → i < x → t.testBit i = false) : ∀ {k : Nat}, x < k → mets t a k = x :: mets t x k
  | 0, h => absurd h (by omega)
  | k + 1, h => by
    rw [mets_succ, mets_succ t x k]
    by_cases e : k = x
    · subst e
      rw [if_pos ⟨h1, h3⟩, if_neg (fun y => by omega), mets_nil h4, mets_nil (fun i _ _ => by omega)]
      rfl
    · rw [mets_cons h1 h3 h4 (k := k) (by omega)]
      have : (a < k ∧ t.testBit k = true) ↔ (x < k ∧ t.testBit k = true) := ⟨fun y => ⟨by omega, y.2⟩, fun y => ⟨by omega, y.2⟩⟩
      by_cases hc : x < k ∧ t.testBit k = true
      · rw [if_pos hc, if_pos (this.2 hc)]
        rfl
      · rw [if_neg hc, if_neg (fun y => hc (this.1 y))]
        simp
/-- all of them, where 0 is none -/
theorem mets_all {t k : Nat} (h0 : t.testBit 0 = false) (hk : k ≤ 64) : mets t 0 k = (list t).filter fun i => decide (i < k) := by
  unfold mets list
  rw [List.filter_filter]
  have h : ∀ n, n ≤ 64 → k ≤ n → (List.range k).filter (fun i => decide (0 < i) && t.testBit i) = (List.range n).filter fun i => decide (i < k) && t.testBit i := by
    intro n
    induction n with
    | zero =>
      intro _ h
      have h0 : k = 0 := by omega
      rw [h0]
      simp
    | succ n ih =>
      intro hn hkn
      by_cases e : k = n + 1
      · subst e
        refine List.filter_congr fun i hi => ?_
        rw [List.mem_range] at hi
        rw [decide_eq_true hi]
        by_cases hz : i = 0
        · subst hz
          simp [h0]
        · rw [decide_eq_true (by omega : 0 < i)]
      · rw [List.range_succ, List.filter_append, ← ih (by omega) (by omega)]
        have : decide (n < k) = false := decide_eq_false (by omega)
        simp [this]
  exact h 64 (by omega) hk
/-- one stop more -/
theorem next_put {t x a k : Nat} (hk : 1 ≤ k) : next (put1 t x) a k = if a < x ∧ x < next t a k then x else next t a k := by
  rcases next_cases t a k with ⟨y, h1, h2, h3, h4, e⟩ | ⟨h, e⟩
  · rw [e]
    by_cases hc : a < x ∧ x < y
    · rw [if_pos hc]
      refine next_is hc.1 (by omega) (by rw [put1_bit]; simp) fun i hi hx => ?_
      rw [put1_bit, h4 i hi (by omega), decide_eq_false (by omega)]
      rfl
    · rw [if_neg hc]
      refine next_is h1 h2 (by rw [put1_bit, h3]; rfl) fun i hi hx => ?_
      rw [put1_bit, h4 i hi hx, decide_eq_false (by omega)]
      rfl
  · rw [e]
    by_cases hc : a < x ∧ x < k - 1
    · rw [if_pos hc]
      refine next_is hc.1 (by omega) (by rw [put1_bit]; simp) fun i hi hx => ?_
      rw [put1_bit, h i hi (by omega), decide_eq_false (by omega)]
      rfl
    · rw [if_neg hc]
      by_cases h2 : a < x ∧ x = k - 1
      · obtain ⟨h2, rfl⟩ := h2
        refine next_is h2 (by omega) (by rw [put1_bit]; simp) fun i hi hx => ?_
        rw [put1_bit, h i hi (by omega), decide_eq_false (by omega)]
        rfl
      · refine next_none fun i hi hx => ?_
        rw [put1_bit, h i hi hx, decide_eq_false (by omega)]
        rfl
/-- New's stops: 8, 16, .. below n -/
def newB (n : Nat) : Nat → Nat
  | 0 => 0
  | k + 1 => if 8 * (k + 1) < n then put1 (newB n k) (8 * (k + 1)) else newB n k
def news (n : Nat) : Nat := newB n 7
theorem newB_ok (n : Nat) : ∀ k, k ≤ 7 → Ok (newB n k)
  | 0, _ => by unfold newB Ok; omega
  | k + 1, h => by
    unfold newB
    split
    · exact put1_ok (newB_ok n k (by omega)) (by omega)
    · exact newB_ok n k (by omega)
theorem newB_bit (n i : Nat) : ∀ k, (newB n k).testBit i = decide (i % 8 = 0 ∧ 0 < i ∧ i ≤ 8 * k ∧ i < n)
  | 0 => by
    unfold newB
    rw [Nat.zero_testBit, decide_eq_false (by omega)]
  | k + 1 => by
    unfold newB
    by_cases h : 8 * (k + 1) < n
    · rw [if_pos h, put1_bit, newB_bit n i k]
      by_cases e : 8 * (k + 1) = i
      · rw [decide_eq_true e, Bool.or_true, decide_eq_true (by omega)]
      · rw [decide_eq_false e, Bool.or_false]
        by_cases c : i % 8 = 0 ∧ 0 < i ∧ i ≤ 8 * k ∧ i < n
        · rw [decide_eq_true c, decide_eq_true (by omega)]
        · rw [decide_eq_false c, decide_eq_false (by omega)]
    · rw [if_neg h, newB_bit n i k]
      by_cases c : i % 8 = 0 ∧ 0 < i ∧ i ≤ 8 * k ∧ i < n
      · rw [decide_eq_true c, decide_eq_true (by omega)]
      · rw [decide_eq_false c, decide_eq_false (by omega)]
theorem news_ok (n : Nat) : Ok (news n) := newB_ok n 7 (by omega)
theorem news_bit {n i : Nat} (hi : i < 64) : (news n).testBit i = decide (i % 8 = 0 ∧ 0 < i ∧ i < n) := by
  unfold news
  rw [newB_bit]
  by_cases c : i % 8 = 0 ∧ 0 < i ∧ i < n
  · rw [decide_eq_true c, decide_eq_true (by omega)]
  · rw [decide_eq_false c, decide_eq_false (by omega)]
/-- they are what bits say they are -/
theorem news_is {n t : Nat} (h : Ok t) (hb : ∀ i, i < 64 → t.testBit i = decide (i % 8 = 0 ∧ 0 < i ∧ i < n)) : t = news n := ext h (news_ok n) fun i hi => by rw [hb i hi, news_bit hi]
theorem list_news {n : Nat} (hn : n ≤ 60) : list (news n) = (List.range ((n - 1) / 8)).map fun i => 8 * (i + 1) := by
  have e : list (news n) = (List.range 64).filter fun i => decide (i % 8 = 0 ∧ 0 < i ∧ i < n) := List.filter_congr fun i hi => by rw [news_bit (by simpa using hi)]
  rw [e]
  have h : ∀ m, m ≤ 60 → ((List.range 64).filter fun i => decide (i % 8 = 0 ∧ 0 < i ∧ i < m)) = (List.range ((m - 1) / 8)).map fun i => 8 * (i + 1) := by decide
  exact h n hn
/-- a bit, shifted down and masked -/
theorem shr_bit (t c : Nat) : (t / 2 ^ c) &&& 1 = if t.testBit c = true then 1 else 0 := by
  rw [Nat.and_one_is_mod, Nat.testBit_eq_decide_div_mod_eq]
  by_cases h : t / 2 ^ c % 2 = 1
  · rw [decide_eq_true h, if_pos rfl, h]
  · rw [decide_eq_false h, if_neg (by simp)]
    omega
theorem shr_ok {t c : Nat} (h : Ok t) : Ok (t / 2 ^ c) := Nat.lt_of_le_of_lt (Nat.div_le_self t _) h
/-! as a walk writes them -/
theorem i_shr (t c : Nat) : ((t : Int) / 2 ^ (c : Int).toNat) = ((t / 2 ^ c : Nat) : Int) := by
  rw [Int.toNat_natCast, Int.natCast_ediv, Int.natCast_pow]
  rfl
theorem i_shl {c : Nat} (hc : c < 64) : IntKind.u64.wrap (1 * 2 ^ (c : Int).toNat) = ((2 ^ c : Nat) : Int) := by
  have h := pow_ok hc
  have e : (1 * 2 ^ (c : Int).toNat : Int) = ((2 ^ c : Nat) : Int) := by
    rw [Int.toNat_natCast, Int.one_mul, Int.natCast_pow]
    rfl
  rw [e, IntKind.wrap_u64]
  have h0 : (0 : Int) ≤ ((2 ^ c : Nat) : Int) := Int.natCast_nonneg _
  have h1 : ((2 ^ c : Nat) : Int) < 18446744073709551616 := Int.ofNat_lt.2 h
  exact Int.emod_eq_of_lt h0 h1
theorem i_or {t c : Nat} (ht : Ok t) (hc : c < 64) : bits .or .u64 (t : Int) ((2 ^ c : Nat) : Int) = ((put1 t c : Nat) : Int) := u64_or_nat t (2 ^ c) ht (pow_ok hc)
theorem i_drop {t c : Nat} (ht : Ok t) (hc : c < 64) : bits .andNot .u64 (t : Int) ((2 ^ c : Nat) : Int) = ((drop1 t c : Nat) : Int) := u64_andNot_nat t (2 ^ c) ht (pow_ok hc)
theorem i_bit {t c : Nat} (ht : Ok t) : bits .and .u64 ((t / 2 ^ c : Nat) : Int) 1 = if t.testBit c = true then 1 else 0 := by
  have h := u64_and_nat (t / 2 ^ c) 1 (shr_ok ht) (by omega)
  rw [shr_bit] at h
  rw [show (1 : Int) = ((1 : Nat) : Int) from rfl, h]
  split <;> rfl
end Go.Proofs.YtdcdinlppjlmfaaDoor.TB
namespace Go.Proofs.YtdcdinlppjlmfaaDoor.TB
set_option linter.unusedVariables false
/-- the stop at a column; none, where there can be none -/
def bitI (c : Int) : Nat := if col c then 2 ^ c.toNat else 0
theorem bitI_ok (c : Int) : Ok (bitI c) := by
  unfold bitI
  split
  · rename_i h
    exact pow_ok (by unfold col at h; omega)
  · unfold Ok; omega
theorem bitI_bit (c : Int) (i : Nat) (hi : i < 64) : (bitI c).testBit i = decide (c = (i : Int)) := by
  unfold bitI
  split
  · rename_i h
    unfold col at h
    rw [Nat.testBit_two_pow]
    by_cases e : c = (i : Int)
    · rw [decide_eq_true e, decide_eq_true (by omega)]
    · rw [decide_eq_false e, decide_eq_false (by omega)]
  · rename_i h
    rw [Nat.zero_testBit, decide_eq_false (fun e => h (by unfold col; omega))]
/-- the stops below a column -/
def belowI (c : Int) : Nat := 2 ^ min c.toNat 64 - 1
theorem belowI_ok (c : Int) : Ok (belowI c) := by
  have h : 2 ^ min c.toNat 64 ≤ 2 ^ 64 := Nat.pow_le_pow_right (by omega) (by omega)
  have e : (2 : Nat) ^ 64 = 18446744073709551616 := by decide
  have p : 0 < 2 ^ min c.toNat 64 := Nat.two_pow_pos _
  unfold Ok belowI
  omega
theorem belowI_bit (c : Int) (i : Nat) (hi : i < 64) : (belowI c).testBit i = decide ((i : Int) < c) := by
  unfold belowI
  rw [Nat.testBit_two_pow_sub_one]
  by_cases e : (i : Int) < c
  · rw [decide_eq_true e, decide_eq_true (by omega)]
  · rw [decide_eq_false e, decide_eq_false (by omega)]
theorem belowI_neg {c : Int} (h : c ≤ 0) : belowI c = 0 := by
  unfold belowI
  rw [show c.toNat = 0 by omega]
  rfl
/-- one less than the bit, in 64 bits -/
theorem belowI_is {c : Int} (h : 0 ≤ c) : ((belowI c : Nat) : Int) = ((bitI c : Nat) : Int) - 1 ∨ (bitI c = 0 ∧ belowI c = 18446744073709551615) := by
  unfold belowI bitI
  by_cases hc : col c
  · left
    rw [if_pos hc]
    unfold col at hc
    rw [show min c.toNat 64 = c.toNat by omega]
    have p : 0 < 2 ^ c.toNat := Nat.two_pow_pos _
    omega
  · right
    rw [if_neg hc]
    unfold col at hc
    rw [show min c.toNat 64 = 64 by omega]
    exact ⟨rfl, by decide⟩
theorem not_bit {y i : Nat} (hy : Ok y) (hi : i < 64) : (18446744073709551615 - y).testBit i = !y.testBit i := by
  have e : 18446744073709551615 - y = 2 ^ 64 - (y + 1) := by
    have : (2 : Nat) ^ 64 = 18446744073709551616 := by decide
    omega
  have h : y < 2 ^ 64 := Nat.lt_of_lt_of_eq hy (by decide)
  rw [e, Nat.testBit_two_pow_sub_succ h, decide_eq_true hi, Bool.true_and]
theorem or_ok {a b : Nat} (ha : Ok a) (hb : Ok b) : Ok (a ||| b) := by
  have e : (18446744073709551616 : Nat) = 2 ^ 64 := by decide
  unfold Ok at *
  rw [e] at *
  exact Nat.or_lt_two_pow ha hb
theorem and_ok {a b : Nat} (ha : Ok a) : Ok (a &&& b) := Nat.lt_of_le_of_lt Nat.and_le_left ha
/-- one more -/
theorem or_bitI (t : Nat) (c : Int) : t ||| bitI c = if col c then put1 t c.toNat else t := by
  unfold bitI put1
  split
  · rfl
  · exact Nat.or_zero t
theorem puts_step (t : Nat) (x : Int) (l : List Int) : puts t (x :: l) = puts (t ||| bitI x) l := by
  rw [or_bitI]
  rfl
theorem puts_snoc (t : Nat) (l : List Int) (x : Int) : puts t (l ++ [x]) = puts t l ||| bitI x := by
  rw [puts_append, puts_step]
  rfl
theorem ok0 : Ok 0 := by unfold Ok; omega
/-- all at once: with them, without them -/
theorem or_puts {t : Nat} (ht : Ok t) (l : List Int) : t ||| puts 0 l = puts t l := ext (or_ok ht (puts_ok ok0)) (puts_ok ht) fun i hi => by
  rw [Nat.testBit_or, puts_bit l 0 i hi, puts_bit l t i hi]
  simp
theorem drop_puts {t : Nat} (ht : Ok t) (l : List Int) : t &&& (18446744073709551615 - puts 0 l) = drops t l := ext (and_ok ht) (drops_ok ht) fun i hi => by
  rw [Nat.testBit_and, not_bit (puts_ok ok0) hi, puts_bit l 0 i hi, drops_bit l t i hi]
  simp
/-- is there a stop -/
def has (t : Nat) (c : Int) : Bool := decide (col c) && t.testBit c.toNat
theorem has_bit {t : Nat} {i : Nat} (hi : i < 64) : has t (i : Int) = t.testBit i := by
  unfold has
  rw [decide_eq_true (by unfold col; omega), Bool.true_and, Int.toNat_natCast]
theorem has_no {t : Nat} {c : Int} (h : ¬ col c) : has t c = false := by
  unfold has
  rw [decide_eq_false h, Bool.false_and]
theorem and_bitI {t : Nat} (ht : Ok t) (c : Int) : (t &&& bitI c = 0) ↔ has t c = false := by
  by_cases hc : col c
  · have hc' := hc
    unfold col at hc
    obtain ⟨i, rfl⟩ : ∃ i : Nat, c = (i : Int) := ⟨c.toNat, by omega⟩
    rw [has_bit (by omega)]
    constructor
    · intro h
      have := congrArg (fun z => z.testBit i) h
      simp only [Nat.testBit_and, bitI_bit _ _ (show i < 64 by omega), Nat.zero_testBit, decide_true, Bool.and_true] at this
      exact this
    · intro h
      refine ext (and_ok ht) ok0 fun j hj => ?_
      rw [Nat.testBit_and, bitI_bit _ j hj, Nat.zero_testBit]
      by_cases e : (i : Int) = (j : Int)
      · obtain rfl : i = j := by omega
        rw [h, Bool.false_and]
      · rw [decide_eq_false e, Bool.and_false]
  · rw [has_no hc]
    unfold bitI
    rw [if_neg hc]
    simp
/-- New -/
theorem news_and {n : Int} (hn : 0 ≤ n) : 72340172838076672 &&& belowI n = news n.toNat := news_is (and_ok (by unfold Ok; omega)) fun i hi => by
  rw [Nat.testBit_and, belowI_bit n i hi]
  have h : ∀ j, j < 64 → (72340172838076672 : Nat).testBit j = decide (j % 8 = 0 ∧ 0 < j) := by decide
  rw [h i hi]
  by_cases c : i % 8 = 0 ∧ 0 < i
  · rw [decide_eq_true c, Bool.true_and]
    by_cases e : (i : Int) < n
    · rw [decide_eq_true e, decide_eq_true (by omega)]
    · rw [decide_eq_false e, decide_eq_false (by omega)]
  · rw [decide_eq_false c, Bool.false_and, decide_eq_false (by omega)]
/-- the stops behind one column, ahead of another -/
def behind (t : Nat) (c k : Int) : Nat := ((t &&& belowI k) &&& (18446744073709551615 - belowI c)) &&& (18446744073709551615 - bitI c)
theorem behind_ok {t : Nat} (ht : Ok t) (c k : Int) : Ok (behind t c k) := and_ok (and_ok (and_ok ht))
theorem behind_bit (t : Nat) (c k : Nat) (i : Nat) (hi : i < 64) : (behind t c k).testBit i = (t.testBit i && decide (c < i ∧ i < k)) := by
  unfold behind
  rw [Nat.testBit_and, Nat.testBit_and, Nat.testBit_and, not_bit (belowI_ok _) hi, not_bit (bitI_ok _) hi, belowI_bit _ i hi, belowI_bit _ i hi, bitI_bit _ i hi]
  by_cases h : c < i ∧ i < k
  · rw [decide_eq_true h, decide_eq_true (by omega : (i : Int) < (k : Int)), decide_eq_false (by omega : ¬ (i : Int) < (c : Int)), decide_eq_false (by omega : ¬ (c : Int) = (i : Int))]
    simp
  · rw [decide_eq_false h, Bool.and_false]
    by_cases h1 : (i : Int) < (k : Int)
    · by_cases h2 : (i : Int) < (c : Int)
      · rw [decide_eq_true h2]
        simp
      · rw [decide_eq_true (by omega : (c : Int) = (i : Int))]
        simp
    · rw [decide_eq_false h1]
      simp
theorem behind_none {t c k : Nat} (hk : k ≤ 64) (h : behind t c k = 0) : next t c k = k - 1 := next_none fun i h1 h2 => by
  have := behind_bit t c k i (by omega)
  rw [h, Nat.zero_testBit, decide_eq_true ⟨h1, h2⟩, Bool.and_true] at this
  exact this.symm
/-- the lowest bit -/
theorem ctz_low {x : Nat} (h0 : x ≠ 0) (h : Ok x) : x.testBit (Lib.ctz 64 x) = true ∧ Lib.ctz 64 x < 64 ∧ ∀ i, i < Lib.ctz 64 x → x.testBit i = false := by
  obtain ⟨m, hm, hk⟩ := Lib.ctzFrom_spec 64 x (by omega) (Nat.lt_of_lt_of_eq h (by decide))
  have e : Lib.ctz 64 x = Lib.ctzFrom 64 x := by simp [Lib.ctz, h0]
  rw [e]
  generalize Lib.ctzFrom 64 x = k at *
  subst hm
  refine ⟨?_, hk, fun i hi => ?_⟩
  · rw [Nat.mul_comm, Nat.testBit_mul_two_pow]
    simp
  · rw [Nat.mul_comm, Nat.testBit_mul_two_pow, decide_eq_false (by omega), Bool.false_and]
theorem behind_some {t c k : Nat} (ht : Ok t) (h : behind t c k ≠ 0) : Lib.ctz 64 (behind t c k) = next t c k := by
  obtain ⟨h1, h2, h3⟩ := ctz_low h (behind_ok ht _ _)
  generalize Lib.ctz 64 (behind t c k) = z at *
  rw [behind_bit t c k z h2] at h1
  simp only [Bool.and_eq_true, decide_eq_true_eq] at h1
  refine (next_is h1.2.1 h1.2.2 h1.1 fun i hc hi => ?_).symm
  have := h3 i hi
  rw [behind_bit t c k i (by omega), decide_eq_true ⟨hc, by omega⟩, Bool.and_true] at this
  exact this
end Go.Proofs.YtdcdinlppjlmfaaDoor.TB
set_option maxRecDepth 100000
namespace Go.Proofs.YtdcdinlppjlmfaaDoor
set_option linter.unusedVariables false
namespace SN
/-- what is saved -/
structure Sv where
  row : Nat
  col : Nat
  pen : PG.Pn
  s0 : Int
  s1 : Int
  sh : Int
  org : Bool
/-- a screen -/
structure Sc where
  g : PG.Gr
  row : Nat
  col : Nat
  pend : Bool
  top : Nat
  bot : Nat
  pen : PG.Pn
  tabs : Nat
  s0 : Int
  s1 : Int
  sh : Int
  wrap : Bool
  org : Bool
  shown : Bool
  keys : Bool
  pad : Bool
  sv : Sv
def setOk (x y h : Int) : Prop := (x = 66 ∨ x = 48) ∧ (y = 66 ∨ y = 48) ∧ (h = 0 ∨ h = 1)
structure RightSv (R K : Nat) (s : Sv) : Prop where
  row : s.row < R
  col : s.col < K
  pen : PG.okPen s.pen
  set : setOk s.s0 s.s1 s.sh
structure RightS (s : Sc) : Prop where
  g : PG.RightG s.g
  row : s.row < s.g.rows
  col : s.col < s.g.cols
  bot : s.bot < s.g.rows
  top : s.top < s.bot ∨ (s.g.rows = 1 ∧ s.top = 0 ∧ s.bot = 0)
  pen : PG.okPen s.pen
  tabs : TB.Ok s.tabs
  set : setOk s.s0 s.s1 s.sh
  pend : s.pend = true → s.wrap = true ∧ s.col + 1 = s.g.cols
  sv : RightSv s.g.rows s.g.cols s.sv
/-- New, of a size that is -/
def full (R K : Nat) : Sc := ⟨PG.newG R K PG.plain, 0, 0, false, 0, R - 1, PG.plain, TB.news K, 66, 66, 0, true, false, true, false, false, ⟨0, 0, PG.plain, 66, 66, 0, false⟩⟩
/-- Sized, to a size that is -/
def sized (s : Sc) (R K : Nat) : Sc := { s with g := PG.resizeG s.g R K, row := min s.row (R - 1), col := min s.col (K - 1), pend := false, top := 0, bot := R - 1, tabs := TB.news K, sv := { s.sv with row := min s.sv.row (R - 1), col := min s.sv.col (K - 1) } }
theorem setB : setOk 66 66 0 := ⟨.inl rfl, .inl rfl, .inl rfl⟩
theorem right_full {R K : Nat} (h1 : 1 ≤ R) (h2 : R ≤ 40) (h3 : 1 ≤ K) (h4 : K ≤ 60) : RightS (full R K) where
  g := PG.right_newG PG.plain_ok h1 h2 h3 h4
  row := by show 0 < R; omega
  col := by show 0 < K; omega
  bot := by show R - 1 < R; omega
  top := by
    show 0 < R - 1 ∨ (R = 1 ∧ 0 = 0 ∧ R - 1 = 0)
    omega
  pen := PG.plain_ok
  tabs := TB.news_ok K
  set := setB
  pend := fun h => nomatch h
  sv := ⟨by show 0 < R; omega, by show 0 < K; omega, PG.plain_ok, setB⟩
theorem right_sized {s : Sc} (h : RightS s) {R K : Nat} (h1 : 1 ≤ R) (h2 : R ≤ 40) (h3 : 1 ≤ K) (h4 : K ≤ 60) : RightS (sized s R K) where
  g := PG.right_resizeG h.g h1 h2 h3 h4
  row := by show min s.row (R - 1) < R; omega
  col := by show min s.col (K - 1) < K; omega
  bot := by show R - 1 < R; omega
  top := by
    show 0 < R - 1 ∨ (R = 1 ∧ 0 = 0 ∧ R - 1 = 0)
    omega
  pen := h.pen
  tabs := TB.news_ok K
  set := h.set
  pend := fun h => nomatch h
  sv := ⟨by show min s.sv.row (R - 1) < R; omega, by show min s.sv.col (K - 1) < K; omega, h.sv.pen, h.sv.set⟩
/-- alike in all -/
def AlikeS (a b : Sc) : Prop := PG.Alike a.g b.g ∧ { a with g := b.g } = b
theorem AlikeS.refl (a : Sc) : AlikeS a a := ⟨PG.Alike.refl _, rfl⟩
/-- greater and back again -/
theorem sized_back {s : Sc} (h : RightS s) {R K : Nat} (hR : s.g.rows ≤ R) (hK : s.g.cols ≤ K) : PG.Alike (sized (sized s R K) s.g.rows s.g.cols).g s.g ∧ (sized (sized s R K) s.g.rows s.g.cols).row = s.row ∧ (sized (sized s R K) s.g.rows s.g.cols).col = s.col := by
  refine ⟨PG.resize_back h.g hR hK, ?_, ?_⟩
  · show min (min s.row (R - 1)) (s.g.rows - 1) = s.row
    have := h.row
    omega
  · show min (min s.col (K - 1)) (s.g.cols - 1) = s.col
    have := h.col
    omega
/-- a bit of a number -/
def fl (f : Int) (k : Nat) : Bool := f / 2 ^ k % 2 == 1
/-- numbers of which a screen is made, but for its grid -/
structure Ks where
  row : Int
  col : Int
  top : Int
  bot : Int
  fl : Int
  p0 : Int
  p1 : Int
  p2 : Int
  tabs : Nat
def topOf (R : Nat) (t : Int) : Nat := if 1 < R then (t % (R - 1)).toNat else 0
def botOf (R : Nat) (t b : Int) : Nat := if 1 < R then topOf R t + 1 + (b % (R - 1 - topOf R t)).toNat else R - 1
/-- the given Screen of numbers, over its grid -/
def keepS (g : PG.Gr) (k : Ks) : Sc where
  g := g
  row := (k.row % g.rows).toNat
  col := (k.col % g.cols).toNat
  pend := !fl k.fl 0 && decide ((k.col % g.cols).toNat + 1 = g.cols) && fl k.fl 5
  top := topOf g.rows k.top
  bot := botOf g.rows k.top k.bot
  pen := (C.kcol k.p0, C.kcol k.p1, k.p2 % 256)
  tabs := k.tabs
  s0 := if fl k.fl 6 = true then 48 else 66
  s1 := 66
  sh := if fl k.fl 7 = true then 1 else 0
  wrap := !fl k.fl 0
  org := fl k.fl 1
  shown := !fl k.fl 2
  keys := fl k.fl 3
  pad := fl k.fl 4
  sv := ⟨(k.col % g.rows).toNat, (k.row % g.cols).toNat, (C.kcol k.fl, C.kcol 0, 0), 66, 48, 0, fl k.fl 8⟩
theorem top_lt {R : Nat} (h : 1 < R) (t : Int) : topOf R t < R - 1 ∧ topOf R t = (t % ((R : Int) - 1)).toNat := by
  have h0 := Int.emod_nonneg t (b := (R : Int) - 1) (by omega)
  have h1 := Int.emod_lt_of_pos t (b := (R : Int) - 1) (by omega)
  have e : topOf R t = (t % ((R : Int) - 1)).toNat := if_pos h
  exact ⟨by omega, e⟩
theorem bot_lt {R : Nat} (h : 1 < R) (t b : Int) : topOf R t < botOf R t b ∧ botOf R t b < R := by
  have ht := (top_lt h t).1
  have e : botOf R t b = topOf R t + 1 + (b % ((R : Int) - 1 - topOf R t)).toNat := if_pos h
  have h0 := Int.emod_nonneg b (b := (R : Int) - 1 - topOf R t) (by omega)
  have h1 := Int.emod_lt_of_pos b (b := (R : Int) - 1 - topOf R t) (by omega)
  omega
theorem right_keep {g : PG.Gr} (h : PG.RightG g) (k : Ks) (ht : TB.Ok k.tabs) : RightS (keepS g k) where
  g := h
  row := by
    show (k.row % (g.rows : Int)).toNat < g.rows
    have := h.1
    have h0 := Int.emod_nonneg k.row (b := (g.rows : Int)) (by omega)
    have h1 := Int.emod_lt_of_pos k.row (b := (g.rows : Int)) (by omega)
    omega
  col := by
    show (k.col % (g.cols : Int)).toNat < g.cols
    have := h.2.2.1
    have h0 := Int.emod_nonneg k.col (b := (g.cols : Int)) (by omega)
    have h1 := Int.emod_lt_of_pos k.col (b := (g.cols : Int)) (by omega)
    omega
  bot := by
    show botOf g.rows k.top k.bot < g.rows
    have := h.1
    by_cases h1 : 1 < g.rows
    · exact (bot_lt h1 _ _).2
    · have e : botOf g.rows k.top k.bot = g.rows - 1 := if_neg h1
      omega
  top := by
    show topOf g.rows k.top < botOf g.rows k.top k.bot ∨ (g.rows = 1 ∧ topOf g.rows k.top = 0 ∧ botOf g.rows k.top k.bot = 0)
    have := h.1
    by_cases h1 : 1 < g.rows
    · exact .inl (bot_lt h1 _ _).1
    · have e : botOf g.rows k.top k.bot = g.rows - 1 := if_neg h1
      have e' : topOf g.rows k.top = 0 := if_neg h1
      omega
  pen := C.right_iff.2 ⟨C.kcol_col _, C.kcol_col _, by show 0 ≤ k.p2 % 256; omega, by show k.p2 % 256 ≤ 255; omega⟩
  tabs := ht
  set := by
    show setOk (if fl k.fl 6 = true then 48 else 66) 66 (if fl k.fl 7 = true then 1 else 0)
    refine ⟨?_, .inl rfl, ?_⟩ <;> split <;> simp
  pend := by
    show (!fl k.fl 0 && decide ((k.col % (g.cols : Int)).toNat + 1 = g.cols) && fl k.fl 5) = true → (!fl k.fl 0) = true ∧ (k.col % (g.cols : Int)).toNat + 1 = g.cols
    intro e
    simp only [Bool.and_eq_true, decide_eq_true_eq] at e
    exact e.1
  sv := by
    have i1 := h.1
    have i2 := h.2.2.1
    have hp : PG.okPen (C.kcol k.fl, C.kcol 0, 0) := C.right_iff.2 ⟨C.kcol_col k.fl, C.kcol_col 0, by show (0 : Int) ≤ 0; omega, by show (0 : Int) ≤ 255; omega⟩
    refine ⟨?_, ?_, hp, ⟨.inl rfl, .inr rfl, .inl rfl⟩⟩
    · show (k.col % (g.rows : Int)).toNat < g.rows
      have h0 := Int.emod_nonneg k.col (b := (g.rows : Int)) (by omega)
      have h1 := Int.emod_lt_of_pos k.col (b := (g.rows : Int)) (by omega)
      omega
    · show (k.row % (g.cols : Int)).toNat < g.cols
      have h0 := Int.emod_nonneg k.row (b := (g.cols : Int)) (by omega)
      have h1 := Int.emod_lt_of_pos k.row (b := (g.cols : Int)) (by omega)
      omega
end SN
end Go.Proofs.YtdcdinlppjlmfaaDoor
set_option maxRecDepth 100000
namespace Go.Proofs.YtdcdinlppjlmfaaDoor
open SN
theorem bit_mod (x : Int) (i : Nat) (hi : i ≤ 61) : ((x % ((2 ^ 64 : Nat) : Int)).toNat.testBit i) = fl x i := by
  have e := emod_pow_toNat x (i + 1) 64 (by omega)
  generalize (x % ((2 ^ 64 : Nat) : Int)).toNat = n at *
  have h1 : n.testBit i = (n % 2 ^ (i + 1)).testBit i := by rw [Nat.testBit_mod_two_pow]; simp
  have h2 : fl x i = (x % ((2 ^ (i + 1) : Nat) : Int) / ((2 ^ i : Nat) : Int) == 1) := by
    have hp : (0 : Int) < ((2 ^ i : Nat) : Int) := by exact_mod_cast Nat.two_pow_pos i
    have hs : ((2 ^ (i + 1) : Nat) : Int) = ((2 ^ i : Nat) : Int) * 2 := by rw [Nat.pow_succ]; exact Int.natCast_mul _ _
    unfold fl
    rw [show (2 : Int) ^ i = ((2 ^ i : Nat) : Int) by simp, hs]
    generalize ((2 ^ i : Nat) : Int) = q at hp
    rw [Int.emod_def x, Int.mul_assoc, Int.sub_mul_ediv_left _ _ (by omega), ← Int.ediv_ediv_of_nonneg (by omega), Int.emod_def (x / q)]
  have hz : ((n % 2 ^ (i + 1) / 2 ^ i : Nat) : Int) = x % ((2 ^ (i + 1) : Nat) : Int) / ((2 ^ i : Nat) : Int) := by rw [← e]; exact Int.natCast_ediv _ _
  rw [h1, h2, ← hz, Nat.testBit_eq_decide_div_mod_eq]
  have hl : n % 2 ^ (i + 1) / 2 ^ i < 2 := by
    have := Nat.mod_lt n (Nat.two_pow_pos (i + 1))
    rw [Nat.div_lt_iff_lt_mul (Nat.two_pow_pos i)]
    rw [Nat.pow_succ] at this ⊢
    omega
  generalize n % 2 ^ (i + 1) / 2 ^ i = k at hl
  obtain rfl | rfl : k = 0 ∨ k = 1 := by omega
  · rfl
  · rfl
theorem nat_and_bit (n i : Nat) : n &&& 2 ^ i = if n.testBit i = true then 2 ^ i else 0 := by
  apply Nat.eq_of_testBit_eq
  intro j
  rw [Nat.testBit_and, Nat.testBit_two_pow]
  by_cases h : i = j
  · subst h
    cases n.testBit i <;> simp
  · rw [decide_eq_false h, Bool.and_false]
    split
    · rw [Nat.testBit_two_pow, decide_eq_false h]
    · simp
theorem i64_one (x : Int) (i : Nat) (hi : i ≤ 61) : bits .and .i64 x ((2 ^ i : Nat) : Int) = if fl x i = true then ((2 ^ i : Nat) : Int) else 0 := by
  have hp : 2 ^ i ≤ 2 ^ 61 := Nat.pow_le_pow_right (by omega) hi
  have hq : 0 < 2 ^ i := Nat.two_pow_pos i
  show IntKind.i64.wrap ((BitVec.ofInt 64 x &&& BitVec.ofInt 64 ((2 ^ i : Nat) : Int)).toNat : Int) = _
  rw [BitVec.toNat_and, BitVec.toNat_ofInt, BitVec.ofInt_natCast, BitVec.toNat_ofNat, Nat.mod_eq_of_lt (a := 2 ^ i) (by omega), nat_and_bit, bit_mod x i hi, IntKind.wrap_i64]
  cases fl x i
  · rw [if_neg (by simp), if_neg (by simp)]
    omega
  · rw [if_pos rfl, if_pos rfl]
    omega
/-- f&p == p -/
theorem fl_is (x : Int) (i : Nat) (p : Int) (b : Bool) (hi : i ≤ 61) (hp : ((2 ^ i : Nat) : Int) = p) (hb : fl x i = b) : (bits .and .i64 x p == p) = b := by
  subst hp hb
  have hq : 0 < 2 ^ i := Nat.two_pow_pos i
  have h0 : ((2 ^ i : Nat) : Int) ≠ 0 := by omega
  rw [i64_one x i hi]
  generalize ((2 ^ i : Nat) : Int) = q at h0
  cases fl x i
  · rw [if_neg (by simp)]
    exact beq_eq_false_iff_ne.2 (Ne.symm h0)
  · rw [if_pos rfl]
    exact beq_iff_eq.2 rfl
/-- f&p == 0 -/
theorem fl_not (x : Int) (i : Nat) (p : Int) (b : Bool) (hi : i ≤ 61) (hp : ((2 ^ i : Nat) : Int) = p) (hb : fl x i = !b) : (bits .and .i64 x p == 0) = b := by
  subst hp
  have hq : 0 < 2 ^ i := Nat.two_pow_pos i
  have h0 : ((2 ^ i : Nat) : Int) ≠ 0 := by omega
  rw [i64_one x i hi, hb]
  generalize ((2 ^ i : Nat) : Int) = q at h0
  cases b
  · rw [if_pos (by rfl)]
    exact beq_eq_false_iff_ne.2 h0
  · rw [if_neg (by simp)]
    rfl
end Go.Proofs.YtdcdinlppjlmfaaDoor
