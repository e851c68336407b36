/- Package charset's functions as plain mathematics: the line drawing set, drawn and undrawn, a plain byte for each rune (written ahead of stage 4's code, no dump in it). -/
import Derived.WalkKit
set_option maxRecDepth 100000
namespace Go.Proofs.YtdcdinlppjlmfaaDoor
namespace CH
/-- the runes of the bytes 60 to 7E -/
def drawn : List Int := [9670, 9618, 9225, 9228, 9229, 9226, 176, 177, 9252, 9227, 9496, 9488, 9484, 9492, 9532, 9146, 9147, 9472, 9148, 9149, 9500, 9508, 9524, 9516, 9474, 8804, 8805, 960, 8800, 163, 183]
/-- the plain bytes of these -/
def plains : List Int := [42, 35, 72, 70, 67, 76, 111, 43, 78, 86, 43, 43, 43, 43, 43, 45, 45, 45, 45, 95, 43, 43, 43, 43, 124, 60, 62, 112, 33, 76, 46]
theorem drawn_len : drawn.length = 31 := rfl
theorem plains_len : plains.length = 31 := rfl
def drawnAt (k : Nat) : Int := drawn.getD k 0
def plainAt (k : Nat) : Int := plains.getD k 0
/-- what is drawn for a byte -/
def draw (b : Int) : Int := if b = 95 then 32 else if 96 ≤ b ∧ b ≤ 126 then drawnAt (b - 96).toNat else b
/-- the place of a rune among the first k of the drawn ones, or k -/
def placeIn : List Int → Int → Nat
  | [], _ => 0
  | d :: l, r => if d = r then 0 else placeIn l r + 1
def place (r : Int) : Nat := placeIn drawn r
def undraw (r : Int) : Int := if place r < 31 then 96 + (place r : Int) else 0
def undrawn (r : Int) : Bool := decide (place r < 31)
def plain (r : Int) : Int := if 32 ≤ r ∧ r < 127 then r else if place r < 31 then plainAt (place r) else 63
theorem placeIn_le : ∀ (l : List Int) (r : Int), placeIn l r ≤ l.length
  | [], _ => Nat.le_refl _
  | d :: l, r => by
    unfold placeIn
    split
    · exact Nat.zero_le _
    · have := placeIn_le l r
      simp only [List.length_cons]
      omega
theorem place_le (r : Int) : place r ≤ 31 := placeIn_le drawn r
theorem placeIn_at : ∀ (l : List Int) (r : Int), placeIn l r < l.length → l[placeIn l r]? = some r
  | [], r, h => absurd h (by simp [placeIn])
  | d :: l, r, h => by
    unfold placeIn at h ⊢
    split
    · rename_i e
      subst e
      rfl
    · rename_i e
      rw [if_neg e] at h
      simp only [List.length_cons] at h
      rw [List.getElem?_cons_succ]
      exact placeIn_at l r (by omega)
/-- no place ahead of a rune's own holds it -/
theorem placeIn_first : ∀ (l : List Int) (r : Int) (k : Nat), k < placeIn l r → l[k]? ≠ some r
  | [], r, k, h => by simp [placeIn] at h
  | d :: l, r, k, h => by
    unfold placeIn at h
    split at h
    · omega
    · rename_i e
      cases k with
      | zero => simpa using e
      | succ k =>
        rw [List.getElem?_cons_succ]
        exact placeIn_first l r k (by omega)
theorem place_drawn {k : Nat} (h : k < 31) : place (drawnAt k) = k := by
  have : ∀ k : Fin 31, place (drawnAt k.val) = k.val := by decide
  exact this ⟨k, h⟩
theorem drawnAt_is {k : Nat} (h : k < 31) : drawn[k]? = some (drawnAt k) := by
  have : ∀ k : Fin 31, drawn[k.val]? = some (drawnAt k.val) := by decide
  exact this ⟨k, h⟩
theorem drawnAt_place {r : Int} (h : place r < 31) : drawnAt (place r) = r := by
  have := placeIn_at drawn r h
  rw [show placeIn drawn r = place r from rfl, drawnAt_is h] at this
  exact Option.some.inj this
/-- the rune at a place is r just if that is r's place -/
theorem drawnAt_iff {k : Nat} {r : Int} (h : k < 31) : drawnAt k = r ↔ place r = k := by
  constructor
  · rintro rfl
    exact place_drawn h
  · rintro rfl
    exact drawnAt_place h
theorem drawnAt_bd {k : Nat} (h : k < 31) : 163 ≤ drawnAt k ∧ drawnAt k ≤ 9670 := by
  have : ∀ k : Fin 31, 163 ≤ drawnAt k.val ∧ drawnAt k.val ≤ 9670 := by decide
  exact this ⟨k, h⟩
theorem plainAt_bd {k : Nat} (h : k < 31) : 33 ≤ plainAt k ∧ plainAt k ≤ 124 ∧ plainAt k ≠ 63 := by
  have : ∀ k : Fin 31, 33 ≤ plainAt k.val ∧ plainAt k.val ≤ 124 ∧ plainAt k.val ≠ 63 := by decide
  exact this ⟨k, h⟩
/-- what is drawn is undrawn -/
theorem undraw_draw {b : Int} (h0 : 96 ≤ b) (h1 : b ≤ 126) : undraw (draw b) = b ∧ undrawn (draw b) = true := by
  have e : draw b = drawnAt (b - 96).toNat := by unfold draw; rw [if_neg (by omega), if_pos ⟨h0, h1⟩]
  have p : place (draw b) = (b - 96).toNat := by rw [e]; exact place_drawn (by omega)
  unfold undraw undrawn
  rw [p]
  refine ⟨?_, by simp; omega⟩
  rw [if_pos (by omega)]
  omega
theorem draw_inj {b c : Int} (h0 : 96 ≤ b) (h1 : b ≤ 126) (k0 : 96 ≤ c) (k1 : c ≤ 126) (h : draw b = draw c) : b = c := by
  rw [← (undraw_draw h0 h1).1, ← (undraw_draw k0 k1).1, h]
theorem plain_bd (r : Int) : 32 ≤ plain r ∧ plain r < 127 := by
  unfold plain
  split
  · assumption
  split
  · rename_i h
    have := plainAt_bd h
    omega
  · omega
theorem plain_plain (r : Int) : plain (plain r) = plain r := by
  have := plain_bd r
  generalize plain r = p at this
  unfold plain
  rw [if_pos this]
theorem plain_drawn {k : Nat} (h : k < 31) : plain (drawnAt k) = plainAt k := by
  have := drawnAt_bd h
  unfold plain
  rw [if_neg (by omega), place_drawn h, if_pos h]
end CH
end Go.Proofs.YtdcdinlppjlmfaaDoor
