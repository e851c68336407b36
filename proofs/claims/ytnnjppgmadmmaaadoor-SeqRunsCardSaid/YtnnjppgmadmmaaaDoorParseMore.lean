/- More of what package parse computes: the bounds of its events; runs. -/
import Derived.Test.YtnnjppgmadmmaaaDoorParseSpec
namespace Go.Proofs.YtnnjppgmadmmaaaDoor.PA
theorem doo_params {s : S} (h : s.ok) (a b : Int) : ∀ e ∈ (doo s a b).2, e.params.length ≤ 16 := by
  have hl := h.d.len
  refine doo_by (P := fun r => ∀ e ∈ r.2, e.params.length ≤ 16) s a b ?_ ?_ ?_ ?_ ?_ ?_ ?_ ?_ ?_ ?_ ?_ ?_
  · intro _ e he; simp at he; subst he; simp [pr]
  · intro _ e he; simp at he; subst he; simp
  · intro _ e he
    obtain ⟨r, _, rfl⟩ := List.mem_map.1 he
    simp [pr]
  · intro _ e he; simp at he
  · intro _ e he; simp at he
  · intro _ e he; simp at he
  · intro _ e he; simp at he
  · intro _ e he; simp at he
  · intro _ e he; simp at he; subst he; simp
  · intro _ e he; simp at he; subst he; simp only []; omega
  · intro _ e he; simp at he; subst he; simp
  · intro e he; simp at he
theorem take_params {s : S} (h : s.ok) {b : Int} (h0 : 0 ≤ b) (h1 : b < 256) : ∀ e ∈ (take s b).2, e.params.length ≤ 16 := by
  have k := mid_ok (brk_ok h b) h0 h1
  intro e he
  rcases List.mem_append.1 he with he | he
  · unfold brk at he
    split at he
    · simp at he; subst he; simp [pr]
    · simp at he
  · exact doo_params k.1 _ _ e he
theorem feed_params {s : S} (h : s.ok) (l : List Int) (hl : ∀ x ∈ l, 0 ≤ x ∧ x < 256) : ∀ e ∈ (feed s l).2, e.params.length ≤ 16 := by
  induction l generalizing s with
  | nil => intro e he; simp [feed] at he
  | cons b l ih =>
    intro e he
    have hb := hl b (by simp)
    rcases List.mem_append.1 he with he | he
    · exact take_params h hb.1 hb.2 e he
    · exact ih (take_ok h hb.1 hb.2) (fun x hx => hl x (by simp [hx])) e he
end Go.Proofs.YtnnjppgmadmmaaaDoor.PA
