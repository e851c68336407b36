/- The events that the statements make of numbers, as plain functions: each is right. Names no function of a program. -/
import Derived.Test.YtnnjppgmadmmaaaDoorSeqSpec
namespace Go.Proofs.YtnnjppgmadmmaaaDoor.PA
def keepRunes : List Int := [228, 9472, 19968, 769, 128512, 128]
def keepExecs : List Int := [7, 8, 9, 10, 13, 14, 15, 0, 11]
def keepEscs : List (Int × Int) := [(0, 77), (40, 48), (40, 66), (0, 55), (0, 56), (0, 68), (0, 69), (0, 99), (35, 56), (0, 72)]
def keepFinals : List Int := [72, 65, 66, 67, 68, 71, 100, 74, 75, 76, 77, 80, 88, 64, 83, 84, 114, 109, 104, 108, 110, 99, 115]
def keepText (t : List Int) : List Int := (t.take 20).map fun x => 32 + x % 224
def keepParams (ps : List Int) : List Int := (ps.take 5).map fun x => -1 + x % 62
def keepPriv (rune f : Int) : Int := if f = 104 ∨ f = 108 ∨ rune % 8 = 7 then 63 else 0
def keepEv (kind rune final : Int) (ps t : List Int) : Ev :=
  if kind % 6 = 0 then (if rune.tmod 7 = 3 then pr (keepRunes.getD (final % 6).toNat 0) else pr (32 + rune % 95))
  else if kind % 6 = 1 then ⟨2, 0, 0, 0, keepExecs.getD (final % 9).toNat 0, [], []⟩
  else if kind % 6 = 2 then ⟨3, 0, 0, (keepEscs.getD (final % 10).toNat (0, 0)).1, (keepEscs.getD (final % 10).toNat (0, 0)).2, [], []⟩
  else if kind % 6 = 3 then ⟨5, 0, 0, 0, 0, [], keepText t⟩
  else ⟨4, 0, keepPriv rune (keepFinals.getD (final % 23).toNat 0), 0, keepFinals.getD (final % 23).toNat 0, if keepParams ps = [-1] then [] else keepParams ps, []⟩
theorem getD_all {α : Type} {p : α → Prop} [DecidablePred p] (l : List α) (d : α) (h : ∀ x ∈ l, p x) (k : Nat) (hk : k < l.length) : p (l.getD k d) := by
  rw [List.getD_eq_getElem?_getD, List.getElem?_eq_getElem hk]
  exact h _ (List.getElem_mem hk)
theorem keepFinal_bd (f : Int) : 64 ≤ keepFinals.getD (f % 23).toNat 0 ∧ keepFinals.getD (f % 23).toNat 0 ≤ 126 :=
  getD_all (p := fun x => 64 ≤ x ∧ x ≤ 126) keepFinals 0 (by decide) (f % 23).toNat (by show _ < 23; omega)
theorem keepParams_bd (ps : List Int) : (keepParams ps).length ≤ 5 ∧ ∀ x ∈ keepParams ps, -1 ≤ x ∧ x ≤ 60 := by
  refine ⟨by simp [keepParams]; omega, fun x hx => ?_⟩
  obtain ⟨y, _, rfl⟩ := List.mem_map.1 hx
  omega
theorem keepText_bd (t : List Int) : (keepText t).length ≤ 20 ∧ ∀ x ∈ keepText t, 32 ≤ x ∧ x < 256 := by
  refine ⟨by simp [keepText]; omega, fun x hx => ?_⟩
  obtain ⟨y, _, rfl⟩ := List.mem_map.1 hx
  omega
theorem keep_right (kind rune final : Int) (ps t : List Int) : Right (keepEv kind rune final ps t) := by
  unfold keepEv
  by_cases h0 : kind % 6 = 0
  · rw [if_pos h0]
    by_cases hr : rune.tmod 7 = 3
    · rw [if_pos hr]
      exact .inl ⟨_, rfl, getD_all (p := okRune) keepRunes 0 (by decide) (final % 6).toNat (by show _ < 6; omega)⟩
    · rw [if_neg hr]
      exact .inl ⟨_, rfl, .inl ⟨by omega, by omega⟩⟩
  rw [if_neg h0]
  by_cases h1 : kind % 6 = 1
  · rw [if_pos h1]
    exact .inr (.inl ⟨_, rfl, getD_all (p := fun b => 0 ≤ b ∧ b < 32 ∧ b ≠ 24 ∧ b ≠ 26 ∧ b ≠ 27) keepExecs 0 (by decide) (final % 9).toNat (by show _ < 9; omega)⟩)
  rw [if_neg h1]
  by_cases h2 : kind % 6 = 2
  · rw [if_pos h2]
    exact .inr (.inr (.inl ⟨_, _, rfl, getD_all (p := fun q : Int × Int => okInter q.1 ∧ 48 ≤ q.2 ∧ q.2 ≤ 126 ∧ (q.1 = 0 → ¬ opens q.2)) keepEscs (0, 0) (by decide) (final % 10).toNat (by show _ < 10; omega)⟩))
  rw [if_neg h2]
  by_cases h3 : kind % 6 = 3
  · rw [if_pos h3]
    have := keepText_bd t
    exact .inr (.inr (.inr (.inr ⟨_, rfl, by omega, this.2⟩)))
  rw [if_neg h3]
  have hf := keepFinal_bd final
  have hp := keepParams_bd ps
  generalize keepFinals.getD (final % 23).toNat 0 = f at hf
  refine .inr (.inr (.inr (.inl ⟨_, 0, f, _, rfl, ?_, .inl rfl, hf.1, hf.2, ?_, ?_, ?_⟩)))
  · unfold keepPriv okPriv
    split <;> omega
  · split
    · simp
    · omega
  · intro x hx
    split at hx
    · cases hx
    · have := hp.2 x hx
      omega
  · split
    · simp
    · assumption
end Go.Proofs.YtnnjppgmadmmaaaDoor.PA
