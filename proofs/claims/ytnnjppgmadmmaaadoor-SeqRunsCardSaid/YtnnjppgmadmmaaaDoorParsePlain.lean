/- What a parser does behind a CAN, and with plain bytes in the ground. -/
import Derived.Test.YtnnjppgmadmmaaaDoorParseMore
namespace Go.Proofs.YtnnjppgmadmmaaaDoor.PA
theorem dec_z {d : U.St} (h : d.ok) (h0 : ¬ 0 < d.need) : d = U.z := by
  obtain ⟨a, b, c⟩ := d
  unfold U.St.ok at h
  simp only [] at h h0
  obtain ⟨rfl, rfl, rfl⟩ : a = 0 ∧ b = 0 ∧ c = 0 := by omega
  rfl
theorem brk_low {s : S} (h : s.ok) {b : Int} (hb : b < 128) : (brk s b).1 = ⟨s.st, U.z, s.d⟩ := by
  unfold brk
  by_cases hn : 0 < s.dec.need
  · rw [if_pos ⟨hb, hn⟩]
  · rw [if_neg (fun e => hn e.2)]
    have := dec_z h.dec hn
    obtain ⟨st, dec, d⟩ := s
    simp only [] at this
    subst this
    rfl
theorem all12 {p : Int → Prop} [DecidablePred p] (h : ∀ n : Fin 12, p ((n.val : Int) + 1)) (st : Int) (h0 : 1 ≤ st) (h1 : st ≤ 12) : p st := by
  obtain ⟨m, hm⟩ := Int.eq_ofNat_of_zero_le (show 0 ≤ st - 1 by omega)
  obtain rfl : st = (m : Int) + 1 := by omega
  exact h ⟨m, by omega⟩
/-- behind a CAN it is the ground again, whatever was begun -/
theorem take_can {s : S} (h : s.ok) : (take s 24).1 = s0 := by
  have k := all12 (p := fun st => (act st 24 = 192 ∧ act (nxt st 24) 24 = 0 ∧ nxt (nxt st 24) 24 = 1) ∨ (act st 24 = 0 ∧ nxt st 24 = 1)) (by decide +kernel) s.st h.st.1 h.st.2
  have hb := brk_low h (b := 24) (by omega)
  show clr (doo (mid (brk s 24).1 24).2 (mid (brk s 24).1 24).1 24).1 = s0
  rw [hb]
  unfold mid
  simp only []
  rcases k with ⟨k1, k2, k3⟩ | ⟨k1, k2⟩
  · rw [if_pos k1, k2, k3]
    rfl
  · rw [if_neg (by omega), k1, k2]
    rfl
/-- in the ground a byte that can be printed is printed -/
theorem take_plain {b : Int} (h0 : 32 ≤ b) (h1 : b ≤ 126) : take s0 b = (s0, [pr b]) := by
  have k := U.byAll (p := fun b => 32 ≤ b ∧ b ≤ 126 → act 1 b = 16 ∧ nxt 1 b = 1) (by decide +kernel) b (by omega) (by omega) ⟨h0, h1⟩
  have hb : brk s0 b = (s0, []) := by
    unfold brk
    rw [if_neg]
    intro e
    exact absurd e.2 (by decide)
  have hm : mid s0 b = (16, s0) := by
    unfold mid
    show (if act 1 b = 192 then _ else ((act 1 b, (⟨nxt 1 b, s0.dec, s0.d⟩ : S)) : Int × S)) = _
    rw [if_neg (by omega), k.1, k.2]
    rfl
  unfold take
  rw [hb, hm]
  rfl
theorem feed_plain (l : List Int) (h : ∀ x ∈ l, 32 ≤ x ∧ x ≤ 126) : feed s0 l = (s0, l.map pr) := by
  induction l with
  | nil => rfl
  | cons b l ih =>
    have hb := h b (by simp)
    rw [feed, take_plain hb.1 hb.2, ih (fun x hx => h x (by simp [hx]))]
    rfl
end Go.Proofs.YtnnjppgmadmmaaaDoor.PA
