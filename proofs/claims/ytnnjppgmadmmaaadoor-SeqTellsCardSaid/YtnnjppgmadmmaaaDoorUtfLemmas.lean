/- What package utf computes: a rune's bytes are decoded to it, one by one; broken by a plain byte; runes come back out of their bytes, whatever was ahead. -/
import Derived.Test.YtnnjppgmadmmaaaDoorUtfSpec
set_option maxRecDepth 100000
namespace Go.Proofs.YtnnjppgmadmmaaaDoor.U
theorem it_z2 (r : Int) (h0 : 128 ≤ r) (h1 : r < 2048) : it z (192 + r / 64) = (⟨2, 1, r / 64⟩, []) := by
  unfold it bg z
  rw [if_pos (by simp), if_neg (by omega), if_neg (by omega), if_pos (by omega), show 192 + r / 64 - 192 = r / 64 from by omega]
theorem it_z3 (r : Int) (h0 : 2048 ≤ r) (h1 : r < 65536) : it z (224 + r / 4096) = (⟨3, 1, r / 4096⟩, []) := by
  unfold it bg z
  rw [if_pos (by simp), if_neg (by omega), if_neg (by omega), if_neg (by omega), if_pos (by omega), show 224 + r / 4096 - 224 = r / 4096 from by omega]
theorem it_z4 (r : Int) (h0 : 65536 ≤ r) (h1 : r < 1114112) : it z (240 + r / 262144) = (⟨4, 1, r / 262144⟩, []) := by
  unfold it bg z
  rw [if_pos (by simp), if_neg (by omega), if_neg (by omega), if_neg (by omega), if_neg (by omega), if_pos (by omega), show 240 + r / 262144 - 240 = r / 262144 from by omega]
theorem it_mid (n h a x : Int) (hn : 0 < n) (hh : h + 1 < n) : it ⟨n, h, a⟩ (tl x) = (⟨n, h + 1, a * 64 + x % 64⟩, []) := by
  unfold it tl
  rw [if_neg (by simp; omega), if_neg (by omega), if_pos (by simpa using hh), show 128 + x % 64 - 128 = x % 64 from by omega]
theorem it_end (n h a x : Int) (hn : 0 < n) (hh : n ≤ h + 1) : it ⟨n, h, a⟩ (tl x) = (z, [wh n (a * 64 + x % 64)]) := by
  unfold it tl
  rw [if_neg (by simp; omega), if_neg (by omega), if_neg (by simpa using hh), show 128 + x % 64 - 128 = x % 64 from by omega]
theorem wh_of (r n : Int) (hr : isR r = true) (hn : sz r = n) : wh n r = r := by simp [wh, hr, hn]
/-- The bytes l of rune r, one by one from a decoder that holds nothing: a beginning is held and makes nothing, the last byte makes r alone. -/
def Steps (r : Int) (l : List Int) : Prop :=
  ∀ k x, l[k]? = some x → (k + 1 < l.length ∧ 0 < (it (dec z (l.take k)).1 x).1.need ∧ (it (dec z (l.take k)).1 x).2 = []) ∨ (k + 1 = l.length ∧ it (dec z (l.take k)).1 x = (z, [r]))
theorem en_eq2 (r : Int) (h0 : 128 ≤ r) (h1 : r < 2048) : en r = [192 + r / 64, tl r] := by unfold en; rw [if_neg (by omega), if_pos (by omega)]
theorem en_eq3 (r : Int) (h0 : 2048 ≤ r) (h1 : r < 65536) : en r = [224 + r / 4096, tl (r / 64), tl r] := by unfold en; rw [if_neg (by omega), if_neg (by omega), if_pos (by omega)]
theorem en_eq4 (r : Int) (h0 : 65536 ≤ r) : en r = [240 + r / 262144, tl (r / 4096), tl (r / 64), tl r] := by unfold en; rw [if_neg (by omega), if_neg (by omega), if_neg (by omega)]
theorem en_eq1 (r : Int) (h0 : r < 128) : en r = [r] := by unfold en; rw [if_pos h0]
theorem steps_en (r : Int) (hr : isR r = true) : Steps r (en r) := by
  have hb := hr
  simp [isR] at hb
  have cs : (0 ≤ r ∧ r < 128) ∨ (128 ≤ r ∧ r < 2048) ∨ (2048 ≤ r ∧ r < 65536) ∨ (65536 ≤ r ∧ r < 1114112) := by omega
  intro k x hx
  rcases cs with c | c | c | c
  · rw [en_eq1 r c.2] at hx ⊢
    match k, hx with
    | 0, hx =>
      simp at hx
      subst hx
      right
      simp [dec, it, bg, z, c.2]
  · rw [en_eq2 r c.1 c.2] at hx ⊢
    have e1 := it_z2 r c.1 c.2
    match k, hx with
    | 0, hx =>
      simp at hx
      subst hx
      left
      simp [dec, e1]
    | 1, hx =>
      simp at hx
      subst hx
      right
      refine ⟨rfl, ?_⟩
      simp only [List.take, dec, e1]
      rw [it_end _ _ _ _ (by omega) (by omega), show r / 64 * 64 + r % 64 = r from by omega, wh_of r 2 hr (by unfold sz; rw [if_neg (by omega), if_pos (by omega)])]
  · rw [en_eq3 r c.1 c.2] at hx ⊢
    have e1 := it_z3 r c.1 c.2
    have e2 := it_mid 3 1 (r / 4096) (r / 64) (by omega) (by omega)
    match k, hx with
    | 0, hx =>
      simp at hx
      subst hx
      left
      simp [dec, e1]
    | 1, hx =>
      simp at hx
      subst hx
      left
      simp [dec, e1, e2]
    | 2, hx =>
      simp at hx
      subst hx
      right
      refine ⟨rfl, ?_⟩
      simp only [List.take, dec, e1, e2]
      rw [it_end _ _ _ _ (by omega) (by omega), show (r / 4096 * 64 + r / 64 % 64) * 64 + r % 64 = r from by omega,
        wh_of r 3 hr (by unfold sz; rw [if_neg (by omega), if_neg (by omega), if_pos (by omega)])]
  · rw [en_eq4 r c.1] at hx ⊢
    have e1 := it_z4 r c.1 c.2
    have e2 := it_mid 4 1 (r / 262144) (r / 4096) (by omega) (by omega)
    have e3 := it_mid 4 (1 + 1) (r / 262144 * 64 + r / 4096 % 64) (r / 64) (by omega) (by omega)
    match k, hx with
    | 0, hx =>
      simp at hx
      subst hx
      left
      simp [dec, e1]
    | 1, hx =>
      simp at hx
      subst hx
      left
      simp [dec, e1, e2]
    | 2, hx =>
      simp at hx
      subst hx
      left
      simp only [List.take, dec, e1, e2, e3]
      simp
    | 3, hx =>
      simp at hx
      subst hx
      right
      refine ⟨rfl, ?_⟩
      simp only [List.take, dec, e1, e2, e3]
      rw [it_end _ _ _ _ (by omega) (by omega), show ((r / 262144 * 64 + r / 4096 % 64) * 64 + r / 64 % 64) * 64 + r % 64 = r from by omega,
        wh_of r 4 hr (by unfold sz; rw [if_neg (by omega), if_neg (by omega), if_neg (by omega)])]
theorem broken (s : St) (b : Int) (hs : 0 < s.need) (_h0 : 0 ≤ b) (h1 : b < 128) : it s b = (z, [65533, b]) := by
  unfold it bg
  rw [if_neg (by omega), if_pos (by omega), if_pos h1]
theorem steps_dec {r : Int} {l : List Int} (h : Steps r l) (hl : l ≠ []) : dec z l = (z, [r]) := by
  have hpre : ∀ k, k < l.length → (dec z (l.take k)).2 = [] := by
    intro k
    induction k with
    | zero => intro _; simp [dec]
    | succ k ih =>
      intro hk
      have hx : l[k]? = some l[k] := List.getElem?_eq_getElem (by omega)
      have := dec_snoc z (l.take k) l[k]
      rw [show l.take k ++ [l[k]] = l.take (k + 1) from by rw [List.take_add_one, hx]; rfl] at this
      rw [this]
      rcases h k _ hx with ⟨_, _, h3⟩ | ⟨h1, _⟩
      · simp [ih (by omega), h3]
      · omega
  have h0 : 0 < l.length := List.length_pos_iff.2 hl
  have hx : l[l.length - 1]? = some l[l.length - 1] := List.getElem?_eq_getElem (by omega)
  have e := dec_snoc z (l.take (l.length - 1)) l[l.length - 1]
  rw [show l.take (l.length - 1) ++ [l[l.length - 1]] = l from by
    have : l.take (l.length - 1) ++ [l[l.length - 1]] = l.take (l.length - 1 + 1) := by rw [List.take_add_one, hx]; rfl
    rw [this, List.take_of_length_le (by omega)]] at e
  rw [e, hpre _ (by omega)]
  rcases h _ _ hx with ⟨h1, _⟩ | ⟨_, h2⟩
  · omega
  · rw [h2]
    rfl
theorem en_ne (r : Int) : en r ≠ [] := by
  unfold en
  split; · simp
  split; · simp
  split <;> simp
theorem dec_en (r : Int) (hr : isR r = true) : dec z (en r) = (z, [r]) := steps_dec (steps_en r hr) (en_ne r)
/-- a rune's first byte continues nothing -/
theorem en_head (r : Int) (hr : isR r = true) : ∃ x t, en r = x :: t ∧ (x < 128 ∨ 192 ≤ x) := by
  simp [isR] at hr
  unfold en
  split
  · exact ⟨_, _, rfl, by omega⟩
  split
  · exact ⟨_, _, rfl, by omega⟩
  split
  · exact ⟨_, _, rfl, by omega⟩
  · exact ⟨_, _, rfl, by omega⟩
theorem it_idle (s : St) (b : Int) (h : s.need ≤ 0) : it s b = it z b := by
  unfold it
  rw [if_pos h, if_pos (by simp [z])]
theorem it_cut (s : St) (b : Int) (h : 0 < s.need) (hb : b < 128 ∨ 192 ≤ b) : it s b = ((it z b).1, 65533 :: (it z b).2) := by
  unfold it
  rw [if_neg (by omega), if_pos hb, if_pos (by simp [z])]
theorem dec_en_any (s : St) (r : Int) (hr : isR r = true) : ∃ m, dec s (en r) = (z, m ++ [r]) ∧ (s.need ≤ 0 → m = []) := by
  obtain ⟨x, t, he, hx⟩ := en_head r hr
  have h := dec_en r hr
  rw [he] at h ⊢
  by_cases hs : s.need ≤ 0
  · refine ⟨[], ?_, fun _ => rfl⟩
    simp only [dec, it_idle s x hs] at h ⊢
    simpa using h
  · refine ⟨[65533], ?_, fun h => absurd h hs⟩
    simp only [dec, it_cut s x (by omega) hx] at h ⊢
    rw [Prod.ext_iff] at h ⊢
    exact ⟨h.1, by simpa using h.2⟩
theorem enc_cons (r : Int) (l : List Int) : enc (r :: l) = en1 r ++ enc l := by simp [enc]
theorem dec_enc (l : List Int) (hl : ∀ x ∈ l, isR x = true) (s : St) : ∃ m, (dec s (enc l)).2 = m ++ l ∧ (s.need ≤ 0 → m = []) ∧ (l ≠ [] → (dec s (enc l)).1 = z) := by
  induction l generalizing s with
  | nil => exact ⟨[], by simp [enc, dec], fun _ => rfl, fun h => absurd rfl h⟩
  | cons r l ih =>
    have hr := hl r (by simp)
    obtain ⟨m, h1, h2⟩ := dec_en_any s r hr
    obtain ⟨m', h3, h4, h5⟩ := ih (fun x hx => hl x (by simp [hx])) z
    have hm' := h4 (by simp [z])
    subst hm'
    rw [enc_cons, dec_append, show en1 r = en r from by simp [en1, hr], h1]
    refine ⟨m, by simp [h3], h2, fun _ => ?_⟩
    by_cases hn : l = []
    · subst hn
      simp [enc, dec]
    · exact h5 hn
theorem dec_enc_z (l : List Int) (hl : ∀ x ∈ l, isR x = true) : dec z (enc l) = (z, l) := by
  obtain ⟨m, h1, h2, h3⟩ := dec_enc l hl z
  have hm := h2 (by simp [z])
  subst hm
  rw [Prod.ext_iff]
  refine ⟨?_, by simpa using h1⟩
  by_cases hn : l = []
  · subst hn
    simp [enc, dec]
  · exact h3 hn
theorem dec_head_enc (h l : List Int) (hl : ∀ x ∈ l, isR x = true) : ∃ m, (dec z (h ++ enc l)).2 = m ++ l := by
  obtain ⟨m, h1, _, _⟩ := dec_enc l hl (dec z h).1
  exact ⟨(dec z h).2 ++ m, by rw [dec_append, h1]; simp⟩
end Go.Proofs.YtnnjppgmadmmaaaDoor.U
