/- Is an event right? as a truth that a program may give back; for events of any numbers. -/
import Derived.Test.YtnnjppgmadmmaaaDoorSeqSpec
namespace Go.Proofs.YtnnjppgmadmmaaaDoor.PA
instance (r : Int) : Decidable (okRune r) := by unfold okRune; infer_instance
instance (i : Int) : Decidable (okInter i) := by unfold okInter; infer_instance
instance (p : Int) : Decidable (okPriv p) := by unfold okPriv; infer_instance
def rightB (e : Ev) : Bool :=
  if e.kind = 1 then decide (okRune e.rune ∧ e.priv = 0 ∧ e.inter = 0 ∧ e.final = 0 ∧ e.params = [] ∧ e.text = [])
  else if e.kind = 2 then decide (e.rune = 0 ∧ e.priv = 0 ∧ e.inter = 0 ∧ e.params = [] ∧ e.text = [] ∧ 0 ≤ e.final ∧ e.final < 32 ∧ e.final ≠ 24 ∧ e.final ≠ 26 ∧ e.final ≠ 27)
  else if e.kind = 3 then decide (e.rune = 0 ∧ e.priv = 0 ∧ e.params = [] ∧ e.text = [] ∧ okInter e.inter ∧ 48 ≤ e.final ∧ e.final ≤ 126 ∧ (e.inter = 0 → ¬ opens e.final))
  else if e.kind = 4 then decide (e.rune = 0 ∧ e.text = [] ∧ okPriv e.priv ∧ okInter e.inter ∧ 64 ≤ e.final ∧ e.final ≤ 126 ∧ e.params.length ≤ 16 ∧ (∀ x ∈ e.params, -1 ≤ x ∧ x ≤ 65535) ∧ e.params ≠ [-1])
  else if e.kind = 5 then decide (e.rune = 0 ∧ e.priv = 0 ∧ e.inter = 0 ∧ e.final = 0 ∧ e.params = [] ∧ e.text.length ≤ 4096 ∧ ∀ x ∈ e.text, 32 ≤ x ∧ x < 256)
  else false
theorem rightB_right {e : Ev} (h : rightB e = true) : Right e := by
  obtain ⟨k, r, p, i, f, ps, t⟩ := e
  unfold rightB at h
  simp only [] at h
  by_cases h1 : k = 1
  · rw [if_pos h1] at h
    obtain ⟨a, rfl, rfl, rfl, rfl, rfl⟩ := of_decide_eq_true h
    subst h1
    exact .inl ⟨r, rfl, a⟩
  rw [if_neg h1] at h
  by_cases h2 : k = 2
  · rw [if_pos h2] at h
    obtain ⟨rfl, rfl, rfl, rfl, rfl, a⟩ := of_decide_eq_true h
    subst h2
    exact .inr (.inl ⟨f, rfl, a⟩)
  rw [if_neg h2] at h
  by_cases h3 : k = 3
  · rw [if_pos h3] at h
    obtain ⟨rfl, rfl, rfl, rfl, a⟩ := of_decide_eq_true h
    subst h3
    exact .inr (.inr (.inl ⟨i, f, rfl, a⟩))
  rw [if_neg h3] at h
  by_cases h4 : k = 4
  · rw [if_pos h4] at h
    obtain ⟨rfl, rfl, a⟩ := of_decide_eq_true h
    subst h4
    exact .inr (.inr (.inr (.inl ⟨p, i, f, ps, rfl, a⟩)))
  rw [if_neg h4] at h
  by_cases h5 : k = 5
  · rw [if_pos h5] at h
    obtain ⟨rfl, rfl, rfl, rfl, rfl, a⟩ := of_decide_eq_true h
    subst h5
    exact .inr (.inr (.inr (.inr ⟨t, rfl, a⟩)))
  rw [if_neg h5] at h
  cases h
theorem right_rightB {e : Ev} (h : Right e) : rightB e = true := by
  rcases h with ⟨r, rfl, h⟩ | ⟨b, rfl, h⟩ | ⟨i, f, rfl, h⟩ | ⟨p, i, f, ps, rfl, h⟩ | ⟨t, rfl, h⟩
  · exact decide_eq_true ⟨h, rfl, rfl, rfl, rfl, rfl⟩
  · exact decide_eq_true ⟨rfl, rfl, rfl, rfl, rfl, h⟩
  · exact decide_eq_true ⟨rfl, rfl, rfl, rfl, h⟩
  · exact decide_eq_true ⟨rfl, rfl, h⟩
  · exact decide_eq_true ⟨rfl, rfl, rfl, rfl, rfl, h⟩
theorem rightB_iff (e : Ev) : rightB e = true ↔ Right e := ⟨rightB_right, right_rightB⟩
/-- what is printed of a right event is something -/
theorem bytes_ne {e : Ev} (h : Right e) : bytesOf e ≠ [] := fun hn => by
  have := feed_bytes h
  rw [hn] at this
  cases congrArg Prod.snd this
/-- the bytes of a right event are bytes -/
theorem dec10F_u8 : ∀ (k n : Nat), n < 10 ^ (k + 1) → ∀ x ∈ dec10F k n, 48 ≤ x ∧ x ≤ 57
  | 0, n, h, x, hx => by
    have : n < 10 := by simpa using h
    simp [dec10F] at hx
    omega
  | k + 1, n, h, x, hx => by
    unfold dec10F at hx
    split at hx
    · simp at hx; omega
    · rcases List.mem_append.1 hx with hx | hx
      · exact dec10F_u8 k (n / 10) (by rw [Nat.pow_succ] at h; omega) x hx
      · simp at hx; omega
theorem num_u8 {y : Int} (h0 : -1 ≤ y) (h1 : y ≤ 65535) : ∀ x ∈ num y, 0 ≤ x ∧ x < 256 := by
  intro x hx
  unfold num at hx
  split at hx
  · cases hx
  · have := dec10F_u8 20 y.toNat (Nat.lt_of_le_of_lt (show y.toNat ≤ 65535 by omega) (by decide)) x hx
    omega
theorem joined_u8 : ∀ (l : List Int), (∀ y ∈ l, -1 ≤ y ∧ y ≤ 65535) → ∀ x ∈ joined l, 0 ≤ x ∧ x < 256
  | [], _, x, hx => by cases hx
  | [y], h, x, hx => num_u8 (h y (by simp)).1 (h y (by simp)).2 x hx
  | y :: z :: l, h, x, hx => by
    rw [joined] at hx
    rcases List.mem_append.1 hx with hx | hx
    · exact num_u8 (h y (by simp)).1 (h y (by simp)).2 x hx
    · rcases List.mem_cons.1 hx with rfl | hx
      · omega
      · exact joined_u8 (z :: l) (fun w hw => h w (by simp only [List.mem_cons] at hw ⊢; exact .inr hw)) x hx
theorem some0_u8 {i : Int} (h0 : 0 ≤ i) (h1 : i < 256) : ∀ x ∈ some0 i, 0 ≤ x ∧ x < 256 := by
  intro x hx
  unfold some0 at hx
  split at hx
  · cases hx
  · simp at hx; omega
theorem bytes_u8 {e : Ev} (h : Right e) : ∀ x ∈ bytesOf e, 0 ≤ x ∧ x < 256 := by
  rcases h with ⟨r, rfl, h⟩ | ⟨b, rfl, h⟩ | ⟨i, f, rfl, hi, h0, h1, h⟩ | ⟨p, i, f, ps, rfl, hp, hi, h0, h1, hl, hn, h⟩ | ⟨t, rfl, hl, h⟩
  · have hr : U.isR r = true := by
      unfold U.isR
      unfold okRune at h
      simp
      omega
    exact U.en_u8 r hr
  · intro x hx
    have hx : x ∈ [b] := hx
    simp at hx
    omega
  · intro x hx
    have hx : x ∈ 27 :: some0 i ++ [f] := hx
    have hi8 : 0 ≤ i ∧ i < 256 := by unfold okInter at hi; omega
    simp only [List.cons_append, List.mem_cons, List.mem_append, List.not_mem_nil, or_false] at hx
    rcases hx with rfl | hx | rfl
    · omega
    · exact some0_u8 hi8.1 hi8.2 x hx
    · omega
  · intro x hx
    have hx : x ∈ 27 :: 91 :: some0 p ++ joined ps ++ some0 i ++ [f] := hx
    have hi8 : 0 ≤ i ∧ i < 256 := by unfold okInter at hi; omega
    have hp8 : 0 ≤ p ∧ p < 256 := by unfold okPriv at hp; omega
    simp only [List.cons_append, List.mem_cons, List.mem_append, List.not_mem_nil, or_false] at hx
    rcases hx with rfl | rfl | ((hx | hx) | hx) | rfl
    · omega
    · omega
    · exact some0_u8 hp8.1 hp8.2 x hx
    · exact joined_u8 ps hn x hx
    · exact some0_u8 hi8.1 hi8.2 x hx
    · omega
  · intro x hx
    have hx : x ∈ 27 :: 93 :: t ++ [7] := hx
    simp only [List.cons_append, List.mem_cons, List.mem_append, List.not_mem_nil, or_false] at hx
    rcases hx with rfl | rfl | hx | rfl
    · omega
    · omega
    · have := h x hx; omega
    · omega
end Go.Proofs.YtnnjppgmadmmaaaDoor.PA
