/- What package utf computes, as plain functions on whole numbers: the runes of bytes, the bytes of runes. -/
import Derived.WalkKit
set_option maxRecDepth 100000
namespace Go.Proofs.YtcbmjdacdjcggaaDoor.U

def isR (n : Int) : Bool := decide (0 ≤ n ∧ n ≤ 1114111 ∧ (n < 55296 ∨ 57343 < n))
def sz (r : Int) : Int := if r < 128 then 1 else if r < 2048 then 2 else if r < 65536 then 3 else 4
def wh (need acc : Int) : Int := if isR acc = true ∧ sz acc = need then acc else 65533

/-- a decoder: bytes needed, bytes had, bits -/
structure St where
  need : Int
  have_ : Int
  acc : Int
def z : St := ⟨0, 0, 0⟩
def St.val (s : St) : Value := .agg #[.int .i64 s.need, .int .i64 s.have_, .int .i64 s.acc]

def bg (b : Int) : St × List Int :=
  if b < 128 then (z, [b]) else if b < 194 then (z, [65533]) else if b < 224 then (⟨2, 1, b - 192⟩, []) else if b < 240 then (⟨3, 1, b - 224⟩, []) else if b ≤ 244 then (⟨4, 1, b - 240⟩, []) else (z, [65533])
def it (s : St) (b : Int) : St × List Int :=
  if s.need ≤ 0 then bg b
  else if b < 128 ∨ 192 ≤ b then ((bg b).1, 65533 :: (bg b).2)
  else if s.have_ + 1 < s.need then (⟨s.need, s.have_ + 1, s.acc * 64 + (b - 128)⟩, [])
  else (z, [wh s.need (s.acc * 64 + (b - 128))])
/-- what the code's decoders are like -/
def St.ok (s : St) : Prop := (s.need = 0 ∧ s.have_ = 0 ∧ s.acc = 0) ∨ (2 ≤ s.need ∧ s.need ≤ 4 ∧ 1 ≤ s.have_ ∧ s.have_ < s.need ∧ 0 ≤ s.acc ∧ (s.have_ = 1 → s.acc < 32) ∧ (s.have_ = 2 → s.acc < 2048) ∧ (s.have_ = 3 → s.acc < 131072))
theorem z_ok : z.ok := .inl ⟨rfl, rfl, rfl⟩
theorem St.ok.bd {s : St} (h : s.ok) : 0 ≤ s.need ∧ s.need ≤ 4 ∧ 0 ≤ s.have_ ∧ s.have_ ≤ 3 ∧ 0 ≤ s.acc ∧ s.acc < 131072 := by
  unfold St.ok at h
  omega
theorem bg_ok (b : Int) (h1 : b < 256) : (bg b).1.ok := by
  unfold bg
  split; · exact z_ok
  split; · exact z_ok
  split; · exact .inr ⟨by simp, by simp, by simp, by simp, by simp; omega, by simp; omega, by simp, by simp⟩
  split; · exact .inr ⟨by simp, by simp, by simp, by simp, by simp; omega, by simp; omega, by simp, by simp⟩
  split; · exact .inr ⟨by simp, by simp, by simp, by simp, by simp; omega, by simp; omega, by simp, by simp⟩
  exact z_ok
theorem it_ok {s : St} (h : s.ok) (b : Int) (h1 : b < 256) : (it s b).1.ok := by
  unfold it
  split; · exact bg_ok b h1
  split; · exact bg_ok b h1
  split
  · rename_i h2 h3 h4
    unfold St.ok at h ⊢
    simp only []
    rcases h with h | ⟨h5, h6, h7, h8, h9, ha, hb, hc⟩
    · omega
    · refine .inr ⟨h5, h6, by omega, h4, by omega, fun e => by omega, fun e => ?_, fun e => ?_⟩
      · have := ha (by omega); omega
      · have := hb (by omega); omega
  · exact z_ok
theorem bg_len (b : Int) : (bg b).2.length ≤ 1 := by
  unfold bg; repeat' (split)
  all_goals simp
theorem it_len (s : St) (b : Int) : (it s b).2.length ≤ 2 := by
  have := bg_len b
  unfold it; repeat' (split)
  all_goals simp
  all_goals omega

/-- the decoder behind all of l, and what it made -/
def dec : St → List Int → St × List Int
  | s, [] => (s, [])
  | s, b :: l => ((dec (it s b).1 l).1, (it s b).2 ++ (dec (it s b).1 l).2)
theorem dec_append (s : St) (l m : List Int) : dec s (l ++ m) = ((dec (dec s l).1 m).1, (dec s l).2 ++ (dec (dec s l).1 m).2) := by
  induction l generalizing s with
  | nil => simp [dec]
  | cons b l ih => simp [dec, ih]
theorem dec_one (s : St) (b : Int) : dec s [b] = it s b := by simp [dec]
theorem dec_snoc (s : St) (l : List Int) (b : Int) : dec s (l ++ [b]) = ((it (dec s l).1 b).1, (dec s l).2 ++ (it (dec s l).1 b).2) := by
  rw [dec_append, dec_one]
theorem dec_ok {s : St} (h : s.ok) (l : List Int) (hl : ∀ x ∈ l, x < 256) : (dec s l).1.ok := by
  induction l generalizing s with
  | nil => exact h
  | cons b l ih => exact ih (it_ok h b (hl b (by simp))) (fun x hx => hl x (by simp [hx]))
theorem dec_len (s : St) (l : List Int) : (dec s l).2.length ≤ 2 * l.length := by
  induction l generalizing s with
  | nil => simp [dec]
  | cons b l ih =>
    have h1 := it_len s b
    have h2 := ih (it s b).1
    simp only [dec, List.length_append, List.length_cons]
    omega

/-- the bytes of a rune -/
def tl (r : Int) : Int := 128 + r % 64
def en (r : Int) : List Int :=
  if r < 128 then [r] else if r < 2048 then [192 + r / 64, tl r] else if r < 65536 then [224 + r / 4096, tl (r / 64), tl r] else [240 + r / 262144, tl (r / 4096), tl (r / 64), tl r]
def en1 (r : Int) : List Int := if isR r = true then en r else [239, 191, 189]
theorem en_len (r : Int) : (en r).length ≤ 4 := by
  unfold en
  split; · simp
  split; · simp
  split <;> simp
theorem en1_len (r : Int) : (en1 r).length ≤ 4 := by
  have := en_len r
  unfold en1
  split
  · exact this
  · simp
def enc (l : List Int) : List Int := l.flatMap en1
theorem enc_snoc (l : List Int) (r : Int) : enc (l ++ [r]) = enc l ++ en1 r := by simp [enc]
theorem enc_len (l : List Int) : (enc l).length ≤ 4 * l.length := by
  induction l with
  | nil => simp [enc]
  | cons r l ih =>
    have h := en1_len r
    simp only [enc, List.flatMap_cons, List.length_append, List.length_cons] at ih ⊢
    omega
theorem en_u8 (r : Int) (h : isR r = true) : ∀ x ∈ en r, 0 ≤ x ∧ x < 256 := by
  simp [isR] at h
  intro x hx
  unfold en tl at hx
  split at hx
  · simp at hx; omega
  split at hx
  · simp at hx; rcases hx with rfl | rfl <;> omega
  split at hx
  · simp at hx; rcases hx with rfl | rfl | rfl <;> omega
  · simp at hx; rcases hx with rfl | rfl | rfl | rfl <;> omega
theorem en1_u8 (r : Int) : ∀ x ∈ en1 r, 0 ≤ x ∧ x < 256 := by
  unfold en1
  split
  · exact en_u8 r ‹_›
  · intro x hx; simp at hx; rcases hx with rfl | rfl | rfl <;> omega
theorem enc_u8 (l : List Int) : ∀ x ∈ enc l, 0 ≤ x ∧ x < 256 := by
  intro x hx
  obtain ⟨r, _, h⟩ := List.mem_flatMap.1 hx
  exact en1_u8 r x h

/-! bits -/
theorem byAll {p : Int → Prop} [DecidablePred p] (h : ∀ n : Fin 256, p (n.val : Int)) (b : Int) (h0 : 0 ≤ b) (h1 : b < 256) : p b := by
  obtain ⟨n, rfl⟩ := Int.eq_ofNat_of_zero_le h0
  exact h ⟨n, by omega⟩
theorem andNot63 (b : Int) (h0 : 0 ≤ b) (h1 : b < 256) : bits .andNot .u8 b 63 = b - b % 64 :=
  byAll (p := fun b => bits .andNot .u8 b 63 = b - b % 64) (by decide +kernel) b h0 h1
theorem andNot192 (b : Int) (h0 : 0 ≤ b) (h1 : b < 256) : bits .andNot .u8 b 192 = b % 64 :=
  byAll (p := fun b => bits .andNot .u8 b 192 = b % 64) (by decide +kernel) b h0 h1
theorem andNot224 (b : Int) (h0 : 0 ≤ b) (h1 : b < 256) : bits .andNot .u8 b 224 = b % 32 :=
  byAll (p := fun b => bits .andNot .u8 b 224 = b % 32) (by decide +kernel) b h0 h1
theorem andNot240 (b : Int) (h0 : 0 ≤ b) (h1 : b < 256) : bits .andNot .u8 b 240 = b % 16 :=
  byAll (p := fun b => bits .andNot .u8 b 240 = b % 16) (by decide +kernel) b h0 h1
theorem and63 (b : Int) (h0 : 0 ≤ b) (h1 : b < 256) : bits .and .u8 b 63 = b % 64 :=
  byAll (p := fun b => bits .and .u8 b 63 = b % 64) (by decide +kernel) b h0 h1
theorem and127 (b : Int) (h0 : 0 ≤ b) (h1 : b < 256) : bits .and .u8 b 127 = b % 128 :=
  byAll (p := fun b => bits .and .u8 b 127 = b % 128) (by decide +kernel) b h0 h1
end Go.Proofs.YtcbmjdacdjcggaaDoor.U
