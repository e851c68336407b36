/- The document's own decoder reads whole sequences at once: what holds at the head of its rounds, said of package utf's machine. -/
import Derived.Test.YtnnjppgmadmmaaaDoorUtfLemmas
namespace Go.Proofs.YtnnjppgmadmmaaaDoor.U
/-- at place k, out made: at the end nothing is held; else the next byte begins anew behind what out says. -/
def Head (l : List Int) (k : Nat) (out : List Int) : Prop :=
  (k = l.length → dec z l = (z, out)) ∧ ∀ x, l[k]? = some x → dec z (l.take (k + 1)) = ((bg x).1, out ++ (bg x).2)
theorem take_snoc' {l : List Int} {k : Nat} {x : Int} (hx : l[k]? = some x) : l.take k ++ [x] = l.take (k + 1) := by rw [List.take_add_one, hx]; rfl
theorem head_of_z {l : List Int} {k : Nat} {out : List Int} (h : dec z (l.take k) = (z, out)) : Head l k out := by
  refine ⟨fun e => ?_, fun x hx => ?_⟩
  · rwa [e, List.take_length] at h
  · have := dec_snoc z (l.take k) x
    rw [take_snoc' hx, h] at this
    rw [this]
    rfl
theorem head_zero (l : List Int) : Head l 0 [] := head_of_z (by simp [dec])
theorem head_end {l : List Int} {k : Nat} {out : List Int} (h : Head l k out) (hk : k = l.length) : dec z l = (z, out) := h.1 hk
theorem head_one {l : List Int} {k : Nat} {out : List Int} {x r : Int} (h : Head l k out) (hx : l[k]? = some x) (hb : bg x = (z, [r])) : Head l (k + 1) (out ++ [r]) := by
  have := h.2 x hx
  rw [hb] at this
  exact head_of_z this
/-- h bytes of m + 1 are read behind place k; n: their bits. -/
structure Mid (l : List Int) (k m h : Nat) (n : Int) (out : List Int) : Prop where
  held : h ≤ m → dec z (l.take (k + h)) = (⟨(m : Int) + 1, h, n⟩, out)
  done : h = m + 1 → dec z (l.take (k + h)) = (z, out ++ [wh ((m : Int) + 1) n])
  n0 : 0 ≤ n
  n1 : h = 1 → n < 2 ^ (6 - m)
  n2 : h = 2 → n < 2 ^ (12 - m)
  n3 : h = 3 → n < 2 ^ (18 - m)
  n4 : h = 4 → n < 2 ^ (24 - m)
theorem mid_step {l : List Int} {k m h : Nat} {n y : Int} {out : List Int} (H : Mid l k m h n out) (h1 : 1 ≤ h) (hm : h ≤ m) (hm3 : m ≤ 3) (hy : l[k + h]? = some y) (y0 : 128 ≤ y) (y1 : y < 192) :
    Mid l k m (h + 1) (n * 64 + (y - 128)) out := by
  have hd := dec_snoc z (l.take (k + h)) y
  rw [take_snoc' hy, H.held hm] at hd
  have hi : it ⟨(m : Int) + 1, h, n⟩ y = if (h : Int) + 1 < (m : Int) + 1 then (⟨(m : Int) + 1, (h : Int) + 1, n * 64 + (y - 128)⟩, []) else (z, [wh ((m : Int) + 1) (n * 64 + (y - 128))]) := by
    unfold it
    rw [if_neg (show ¬ ((m : Int) + 1 ≤ 0) by omega), if_neg (by omega)]
  rw [hi] at hd
  have g1 := H.n0
  have g2 := H.n1
  have g3 := H.n2
  have g4 := H.n3
  have hc : m = 1 ∨ m = 2 ∨ m = 3 := by omega
  refine ⟨fun e => ?_, fun e => ?_, by omega, fun e => by omega, fun e => ?_, fun e => ?_, fun e => ?_⟩
  · rw [if_pos (by omega)] at hd
    rw [show k + (h + 1) = k + h + 1 from rfl, hd]
    simp
  · rw [if_neg (by omega)] at hd
    rw [show k + (h + 1) = k + h + 1 from rfl, hd]
  · have := g2 (by omega)
    rcases hc with rfl | rfl | rfl <;> simp at this ⊢ <;> omega
  · have := g3 (by omega)
    rcases hc with rfl | rfl | rfl <;> simp at this ⊢ <;> omega
  · have := g4 (by omega)
    rcases hc with rfl | rfl | rfl <;> simp at this ⊢ <;> omega
theorem mid_start {l : List Int} {k m : Nat} {n x : Int} {out : List Int} (h : Head l k out) (hx : l[k]? = some x) (hb : bg x = (⟨(m : Int) + 1, 1, n⟩, [])) (hm : 1 ≤ m) (hn0 : 0 ≤ n) (hn : n < 2 ^ (6 - m)) : Mid l k m 1 n out := by
  have := h.2 x hx
  rw [hb] at this
  exact ⟨fun _ => by simpa using this, fun e => by omega, hn0, fun _ => hn, fun e => by omega, fun e => by omega, fun e => by omega⟩
theorem mid_held {l : List Int} {k m h : Nat} {n : Int} {out : List Int} (H : Mid l k m h n out) (hm : h ≤ m) (hk : k + h = l.length) : dec z l = (⟨(m : Int) + 1, h, n⟩, out) := by
  have := H.held hm
  rwa [hk, List.take_length] at this
theorem mid_cut {l : List Int} {k m h : Nat} {n y : Int} {out : List Int} (H : Mid l k m h n out) (hm : h ≤ m) (hy : l[k + h]? = some y) (hn : y < 128 ∨ 192 ≤ y) : Head l (k + h) (out ++ [65533]) := by
  refine ⟨fun e => ?_, fun x hx => ?_⟩
  · have := (List.getElem?_eq_some_iff.1 hy).1
    omega
  · rw [hy] at hx
    obtain rfl := Option.some.inj hx
    have hd := dec_snoc z (l.take (k + h)) y
    rw [take_snoc' hy, H.held hm] at hd
    rw [hd]
    unfold it
    rw [if_neg (show ¬ ((m : Int) + 1 ≤ 0) by omega), if_pos hn]
    simp
theorem mid_done {l : List Int} {k m h : Nat} {n : Int} {out : List Int} (H : Mid l k m h n out) (hm : h = m + 1) : Head l (k + h) (out ++ [wh ((m : Int) + 1) n]) := head_of_z (H.done hm)
/-- the last byte's bound, by the sequence's length -/
theorem mid_top {l : List Int} {k m h : Nat} {n : Int} {out : List Int} (H : Mid l k m h n out) (h1 : 1 ≤ h) (h2 : h ≤ m + 1) (hm3 : m ≤ 3) (hm1 : 1 ≤ m) : 0 ≤ n ∧ n < 2097152 ∧ (h ≤ m → n < 32768) ∧ (m = 1 → n < 2048) ∧ (m = 2 → n < 65536) := by
  have g1 := H.n0
  have g2 := H.n1
  have g3 := H.n2
  have g4 := H.n3
  have g5 := H.n4
  have hc : m = 1 ∨ m = 2 ∨ m = 3 := by omega
  have hh : h = 1 ∨ h = 2 ∨ h = 3 ∨ h = 4 := by omega
  rcases hc with rfl | rfl | rfl <;> rcases hh with rfl | rfl | rfl | rfl <;> simp at g1 g2 g3 g4 g5 ⊢ <;> omega
theorem wh_bad (m : Nat) (n : Int) (hb : n < (if m = 1 then 128 else if m = 2 then 2048 else 65536) ∨ 1114111 < n ∨ (55296 ≤ n ∧ n ≤ 57343)) (hm : 1 ≤ m ∧ m ≤ 3) : wh ((m : Int) + 1) n = 65533 := by
  unfold wh
  refine if_neg fun ⟨h1, h2⟩ => ?_
  simp [isR] at h1
  unfold sz at h2
  have hc : m = 1 ∨ m = 2 ∨ m = 3 := by omega
  rcases hc with rfl | rfl | rfl <;> simp at hb h2 <;> (repeat' split at h2) <;> omega
theorem wh_good (m : Nat) (n : Int) (h0 : (if m = 1 then 128 else if m = 2 then 2048 else 65536) ≤ n) (h1 : n ≤ 1114111) (h2 : n < 55296 ∨ 57343 < n) (hm : 1 ≤ m ∧ m ≤ 3) (t1 : m = 1 → n < 2048) (t2 : m = 2 → n < 65536) : wh ((m : Int) + 1) n = n := by
  unfold wh
  have hc : m = 1 ∨ m = 2 ∨ m = 3 := by omega
  refine if_pos ⟨?_, ?_⟩
  · simp [isR]
    rcases hc with rfl | rfl | rfl <;> simp at h0 <;> omega
  · unfold sz
    rcases hc with rfl | rfl | rfl <;> simp at h0 t1 t2 ⊢ <;> (repeat' split) <;> omega
theorem and192 (b : Int) (h0 : 0 ≤ b) (h1 : b < 256) : bits .and .u8 b 192 = b - b % 64 :=
  byAll (p := fun b => bits .and .u8 b 192 = b - b % 64) (by decide +kernel) b h0 h1
end Go.Proofs.YtnnjppgmadmmaaaDoor.U
