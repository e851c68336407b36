/- More of what package parse computes: the bounds of its events; runs. What a parser does behind a CAN, and with plain bytes in the ground. What a parser does with strings, with too many parameters, with too long texts. -/
import Derived.Test.YtnnjppgmadmmaaaDoorParseSpec
namespace Go.Proofs.YtnnjppgmadmmaaaDoor.PA
theorem doo_params {s : S} (h : s.ok) (a b : Int) : ∀ e ∈ (doo s a b).2, e.params.length ≤ 16 := by
  have hl := h.d.len
  refine doo_by (P := fun r => ∀ e ∈ r.2, e.params.length ≤ 16) s a b ?_ ?_ ?_ ?_ ?_ ?_ ?_ ?_ ?_ ?_ ?_ ?_
  · intro _ e he; simp at he; subst he; simp [pr]
  · intro _ e he; simp at he; subst he; simp
  · intro _ e he
    obtain ⟨r, _, rfl⟩ := List.mem_map.1 he
    simp [pr]
  · intro _ e he; simp at he
  · intro _ e he; simp at he
  · intro _ e he; simp at he
  · intro _ e he; simp at he
  · intro _ e he; simp at he
  · intro _ e he; simp at he; subst he; simp
  · intro _ e he; simp at he; subst he; simp only []; omega
  · intro _ e he; simp at he; subst he; simp
  · intro e he; simp at he
theorem take_params {s : S} (h : s.ok) {b : Int} (h0 : 0 ≤ b) (h1 : b < 256) : ∀ e ∈ (take s b).2, e.params.length ≤ 16 := by
  have k := mid_ok (brk_ok h b) h0 h1
  intro e he
  rcases List.mem_append.1 he with he | he
  · unfold brk at he
    split at he
    · simp at he; subst he; simp [pr]
    · simp at he
  · exact doo_params k.1 _ _ e he
theorem feed_params {s : S} (h : s.ok) (l : List Int) (hl : ∀ x ∈ l, 0 ≤ x ∧ x < 256) : ∀ e ∈ (feed s l).2, e.params.length ≤ 16 := by
  induction l generalizing s with
  | nil => intro e he; simp [feed] at he
  | cons b l ih =>
    intro e he
    have hb := hl b (by simp)
    rcases List.mem_append.1 he with he | he
    · exact take_params h hb.1 hb.2 e he
    · exact ih (take_ok h hb.1 hb.2) (fun x hx => hl x (by simp [hx])) e he
end Go.Proofs.YtnnjppgmadmmaaaDoor.PA
namespace Go.Proofs.YtnnjppgmadmmaaaDoor.PA
theorem dec_z {d : U.St} (h : d.ok) (h0 : ¬ 0 < d.need) : d = U.z := by
  obtain ⟨a, b, c⟩ := d
  unfold U.St.ok at h
  simp only [] at h h0
  obtain ⟨rfl, rfl, rfl⟩ : a = 0 ∧ b = 0 ∧ c = 0 := by omega
  rfl
theorem brk_low {s : S} (h : s.ok) {b : Int} (hb : b < 128) : (brk s b).1 = ⟨s.st, U.z, s.d⟩ := by
  unfold brk
  by_cases hn : 0 < s.dec.need
  · rw [if_pos ⟨hb, hn⟩]
  · rw [if_neg (fun e => hn e.2)]
    have := dec_z h.dec hn
    obtain ⟨st, dec, d⟩ := s
    simp only [] at this
    subst this
    rfl
theorem all12 {p : Int → Prop} [DecidablePred p] (h : ∀ n : Fin 12, p ((n.val : Int) + 1)) (st : Int) (h0 : 1 ≤ st) (h1 : st ≤ 12) : p st := by
  obtain ⟨m, hm⟩ := Int.eq_ofNat_of_zero_le (show 0 ≤ st - 1 by omega)
  obtain rfl : st = (m : Int) + 1 := by omega
  exact h ⟨m, by omega⟩
/-- behind a CAN it is the ground again, whatever was begun -/
theorem take_can {s : S} (h : s.ok) : (take s 24).1 = s0 := by
  have k := all12 (p := fun st => (act st 24 = 192 ∧ act (nxt st 24) 24 = 0 ∧ nxt (nxt st 24) 24 = 1) ∨ (act st 24 = 0 ∧ nxt st 24 = 1)) (by decide +kernel) s.st h.st.1 h.st.2
  have hb := brk_low h (b := 24) (by omega)
  show clr (doo (mid (brk s 24).1 24).2 (mid (brk s 24).1 24).1 24).1 = s0
  rw [hb]
  unfold mid
  simp only []
  rcases k with ⟨k1, k2, k3⟩ | ⟨k1, k2⟩
  · rw [if_pos k1, k2, k3]
    rfl
  · rw [if_neg (by omega), k1, k2]
    rfl
/-- in the ground a byte that can be printed is printed -/
theorem take_plain {b : Int} (h0 : 32 ≤ b) (h1 : b ≤ 126) : take s0 b = (s0, [pr b]) := by
  have k := U.byAll (p := fun b => 32 ≤ b ∧ b ≤ 126 → act 1 b = 16 ∧ nxt 1 b = 1) (by decide +kernel) b (by omega) (by omega) ⟨h0, h1⟩
  have hb : brk s0 b = (s0, []) := by
    unfold brk
    rw [if_neg]
    intro e
    exact absurd e.2 (by decide)
  have hm : mid s0 b = (16, s0) := by
    unfold mid
    show (if act 1 b = 192 then _ else ((act 1 b, (⟨nxt 1 b, s0.dec, s0.d⟩ : S)) : Int × S)) = _
    rw [if_neg (by omega), k.1, k.2]
    rfl
  unfold take
  rw [hb, hm]
  rfl
theorem feed_plain (l : List Int) (h : ∀ x ∈ l, 32 ≤ x ∧ x ≤ 126) : feed s0 l = (s0, l.map pr) := by
  induction l with
  | nil => rfl
  | cons b l ih =>
    have hb := h b (by simp)
    rw [feed, take_plain hb.1 hb.2, ih (fun x hx => h x (by simp [hx]))]
    rfl
end Go.Proofs.YtnnjppgmadmmaaaDoor.PA
namespace Go.Proofs.YtnnjppgmadmmaaaDoor.PA
theorem take_z {st b a n : Int} (d : D) (ha : act st b = a) (hn : nxt st b = n) (h : a ≠ 192) : take ⟨st, U.z, d⟩ b = (clr (doo ⟨n, U.z, d⟩ a b).1, (doo ⟨n, U.z, d⟩ a b).2) := by
  have hb : brk ⟨st, U.z, d⟩ b = (⟨st, U.z, d⟩, []) := by
    unfold brk
    rw [if_neg]
    intro e
    have hh : ¬ 0 < U.z.need := by decide
    exact hh e.2
  have hm : mid ⟨st, U.z, d⟩ b = (a, ⟨n, U.z, d⟩) := by
    unfold mid
    show (if act st b = 192 then _ else ((act st b, (⟨nxt st b, U.z, d⟩ : S)) : Int × S)) = _
    rw [if_neg (by rw [ha]; exact h), ha, hn]
  unfold take
  rw [hb, hm]
  rfl
/-- an OSC's text, so far -/
def osc (t : List Int) : S := ⟨9, U.z, ⟨0, 0, 0, [], t⟩⟩
/-- another string -/
def oth : S := ⟨11, U.z, d0⟩
theorem take_osc {b : Int} (t : List Int) (h0 : 32 ≤ b) (h1 : b < 256) (ht : t.length < 4096) : take (osc t) b = (osc (t ++ [b]), []) := by
  have k := U.byAll (p := fun b => 32 ≤ b → act 9 b = 128 ∧ nxt 9 b = 9) (by decide +kernel) b (by omega) h1 h0
  unfold osc
  rw [take_z _ k.1 k.2 (by omega)]
  have : doo ⟨9, U.z, ⟨0, 0, 0, [], t⟩⟩ 128 b = (⟨9, U.z, ⟨0, 0, 0, [], t ++ [b]⟩⟩, []) := by
    show ((if t.length = 4096 then (⟨11, U.z, ⟨0, 0, 0, [], t⟩⟩ : S) else ⟨9, U.z, ⟨0, 0, 0, [], t ++ [b]⟩⟩), ([] : List Ev)) = _
    rw [if_neg (by omega)]
  rw [this]
  rfl
theorem take_oth {b : Int} (h0 : 32 ≤ b) (h1 : b < 256) : take oth b = (oth, []) := by
  have k := U.byAll (p := fun b => 32 ≤ b → act 11 b = 0 ∧ nxt 11 b = 11) (by decide +kernel) b (by omega) h1 h0
  unfold oth
  rw [take_z _ k.1 k.2 (by omega)]
  rfl
theorem feed_osc (l t : List Int) (h : ∀ x ∈ l, 32 ≤ x ∧ x < 256) (ht : t.length + l.length ≤ 4096) : feed (osc t) l = (osc (t ++ l), []) := by
  induction l generalizing t with
  | nil => simp [feed]
  | cons b l ih =>
    have hb := h b (by simp)
    simp only [List.length_cons] at ht
    rw [feed, take_osc t hb.1 hb.2 (by omega), ih (t ++ [b]) (fun x hx => h x (by simp [hx])) (by simp; omega)]
    simp
theorem feed_oth (l : List Int) (h : ∀ x ∈ l, 32 ≤ x ∧ x < 256) : feed oth l = (oth, []) := by
  induction l with
  | nil => rfl
  | cons b l ih =>
    have hb := h b (by simp)
    rw [feed, take_oth hb.1 hb.2, ih (fun x hx => h x (by simp [hx]))]
    rfl
theorem head_osc : feed s0 [27, 93] = (osc [], []) := by kernel_rfl
theorem head_oth {c : Int} (h : c = 80 ∨ c = 88 ∨ c = 94 ∨ c = 95) : feed s0 [27, c] = (oth, []) := by
  obtain rfl | rfl | rfl | rfl := h <;> kernel_rfl
def csi5 : Ev := ⟨4, 0, 0, 0, 110, [5], []⟩
theorem osc_bel (t : List Int) : feed (osc t) [7, 122] = (s0, [⟨5, 0, 0, 0, 0, [], t⟩, pr 122]) := by kernel_rfl
theorem osc_st (t : List Int) : feed (osc t) [27, 92, 122] = (s0, [⟨5, 0, 0, 0, 0, [], t⟩, pr 122]) := by kernel_rfl
theorem osc_csi (t : List Int) : feed (osc t) [27, 91, 53, 110] = (s0, [csi5]) := by kernel_rfl
theorem oth_bel : feed oth [7, 122] = (s0, [pr 122]) := by kernel_rfl
theorem oth_st : feed oth [27, 92, 122] = (s0, [pr 122]) := by kernel_rfl
theorem oth_csi : feed oth [27, 91, 53, 110] = (s0, [csi5]) := by kernel_rfl
def ends (bel : Bool) : List Int := if bel = true then [7] else [27, 92]
/-- a string that ends, and a letter behind it -/
theorem feed_string {c : Int} (l : List Int) (bel : Bool) (hc : c = 93 ∨ c = 80 ∨ c = 88 ∨ c = 94 ∨ c = 95) (h : ∀ x ∈ l, 32 ≤ x ∧ x < 256) (hl : l.length ≤ 4096) :
    feed s0 (27 :: c :: l ++ ends bel ++ [122]) = (s0, (if c = 93 then [⟨5, 0, 0, 0, 0, [], l⟩] else []) ++ [pr 122]) := by
  rw [show 27 :: c :: l ++ ends bel ++ [122] = [27, c] ++ (l ++ (ends bel ++ [122])) from by simp, feed_append, feed_append]
  rcases hc with rfl | hc
  · rw [head_osc, feed_osc l [] h (by simpa using hl), List.nil_append]
    cases bel
    · rw [show ends false ++ [122] = [27, 92, 122] from rfl, osc_st]
      rfl
    · rw [show ends true ++ [122] = [7, 122] from rfl, osc_bel]
      rfl
  · rw [head_oth hc, feed_oth l h, if_neg (by omega)]
    cases bel
    · rw [show ends false ++ [122] = [27, 92, 122] from rfl, oth_st]
      rfl
    · rw [show ends true ++ [122] = [7, 122] from rfl, oth_bel]
      rfl
/-- a string that is cut by a sequence -/
theorem feed_cut {c : Int} (l : List Int) (hc : c = 93 ∨ c = 80 ∨ c = 88 ∨ c = 94 ∨ c = 95) (h : ∀ x ∈ l, 32 ≤ x ∧ x < 256) (hl : l.length ≤ 4096) :
    feed s0 (27 :: c :: l ++ [27, 91, 53, 110]) = (s0, [csi5]) := by
  rw [show 27 :: c :: l ++ [27, 91, 53, 110] = [27, c] ++ (l ++ [27, 91, 53, 110]) from by simp, feed_append, feed_append]
  rcases hc with rfl | hc
  · rw [head_osc, feed_osc l [] h (by simpa using hl), List.nil_append, osc_csi]
    rfl
  · rw [head_oth hc, feed_oth l h, oth_csi]
    rfl
/-! too many, too long -/
theorem take_over {b : Int} (t : List Int) (h0 : 32 ≤ b) (h1 : b < 256) (ht : t.length = 4096) : take (osc t) b = (oth, []) := by
  have k := U.byAll (p := fun b => 32 ≤ b → act 9 b = 128 ∧ nxt 9 b = 9) (by decide +kernel) b (by omega) h1 h0
  unfold osc
  rw [take_z _ k.1 k.2 (by omega)]
  have : doo ⟨9, U.z, ⟨0, 0, 0, [], t⟩⟩ 128 b = (⟨11, U.z, ⟨0, 0, 0, [], t⟩⟩, []) := by
    show ((if t.length = 4096 then (⟨11, U.z, ⟨0, 0, 0, [], t⟩⟩ : S) else ⟨9, U.z, ⟨0, 0, 0, [], t ++ [b]⟩⟩), ([] : List Ev)) = _
    rw [if_pos ht]
  rw [this]
  rfl
theorem long_osc (j : Nat) : feed s0 (27 :: 93 :: List.replicate j 120 ++ [7]) = (s0, if j ≤ 4096 then [⟨5, 0, 0, 0, 0, [], List.replicate j 120⟩] else []) := by
  have hx : ∀ n : Nat, ∀ x ∈ List.replicate n (120 : Int), 32 ≤ x ∧ x < 256 := fun n x hx => by
    have := List.eq_of_mem_replicate hx
    omega
  have e1 : ∀ t : List Int, feed (osc t) [7] = (s0, [⟨5, 0, 0, 0, 0, [], t⟩]) := fun t => by kernel_rfl
  have e2 : feed oth [7] = (s0, []) := by kernel_rfl
  rw [show 27 :: 93 :: List.replicate j (120 : Int) ++ [7] = [27, 93] ++ (List.replicate j 120 ++ [7]) from rfl, feed_append, head_osc]
  by_cases h : j ≤ 4096
  · rw [feed_append, feed_osc _ [] (hx j) (by rw [List.length_replicate]; simpa using h), List.nil_append, if_pos h, e1]
    rfl
  · obtain ⟨N, hN⟩ : ∃ N : Nat, N = 4096 := ⟨_, rfl⟩
    have hs : List.replicate j (120 : Int) = List.replicate N 120 ++ (120 :: List.replicate (j - (N + 1)) 120) := by
      rw [show (120 : Int) :: List.replicate (j - (N + 1)) 120 = List.replicate (j - (N + 1) + 1) 120 from List.replicate_succ.symm, List.replicate_append_replicate]
      congr 1
      omega
    rw [hs, if_neg h, List.append_assoc, List.cons_append, feed_append, feed_osc _ [] (hx N) (by rw [List.length_replicate]; simp; omega), List.nil_append, feed, take_over _ (by omega) (by omega) (by rw [List.length_replicate]; exact hN), feed_append, feed_oth _ (hx _), e2]
    rfl
/-- a CSI that has k parameters of nines so far -/
def nine : List Int := List.replicate 20 57
def parm (k : Nat) (ps : List Int) : S := ⟨6, U.z, ⟨0, 0, k, ps, []⟩⟩
theorem take_nine_in (k : Nat) (ps : List Int) (x : Int) (h : ps.length = k) (hk : k + 1 ≤ 16) : take (parm (k + 1) (ps ++ [x])) 57 = (parm (k + 1) (ps ++ [up x 9]), []) := by
  have k1 : act 6 57 = 80 ∧ nxt 6 57 = 6 := by decide +kernel
  unfold parm
  rw [take_z _ k1.1 k1.2 (by omega)]
  have : doo ⟨6, U.z, ⟨0, 0, k + 1, ps ++ [x], []⟩⟩ 80 57 = (⟨6, U.z, ⟨0, 0, k + 1, ps ++ [up x 9], []⟩⟩, []) := by
    show ((⟨6, U.z, D.digit ⟨0, 0, k + 1, ps ++ [x], []⟩ (57 - 48)⟩ : S), ([] : List Ev)) = _
    have e1 : D.first ⟨0, 0, k + 1, ps ++ [x], []⟩ = ⟨0, 0, k + 1, ps ++ [x], []⟩ := by unfold D.first; rw [if_neg (by simp)]
    unfold D.digit
    rw [e1]
    unfold D.put
    rw [if_neg (by simp only []; omega)]
    simp only [Nat.add_sub_cancel]
    rw [← h]
    simp
  rw [this]
  rfl
theorem take_nine_out (k : Nat) (ps : List Int) (hk : 16 < k) : take (parm k ps) 57 = (parm k ps, []) := by
  have k1 : act 6 57 = 80 ∧ nxt 6 57 = 6 := by decide +kernel
  unfold parm
  rw [take_z _ k1.1 k1.2 (by omega)]
  have : doo ⟨6, U.z, ⟨0, 0, k, ps, []⟩⟩ 80 57 = (⟨6, U.z, ⟨0, 0, k, ps, []⟩⟩, []) := by
    show ((⟨6, U.z, D.digit ⟨0, 0, k, ps, []⟩ (57 - 48)⟩ : S), ([] : List Ev)) = _
    have e1 : D.first ⟨0, 0, k, ps, []⟩ = ⟨0, 0, k, ps, []⟩ := by unfold D.first; rw [if_neg (by simp only []; omega)]
    unfold D.digit
    rw [e1]
    unfold D.put
    rw [if_pos hk]
  rw [this]
  rfl
theorem feed_in (k : Nat) (ps : List Int) (h : ps.length = k) (hk : k + 1 ≤ 16) : ∀ (n : Nat) (x : Int), feed (parm (k + 1) (ps ++ [x])) (List.replicate n 57) = (parm (k + 1) (ps ++ [Nat.repeat (fun x => up x 9) n x]), [])
  | 0, x => rfl
  | n + 1, x => by
    rw [List.replicate_succ', feed_append, feed_in k ps h hk n x, feed_one, take_nine_in _ _ _ h hk]
    rfl
theorem feed_out (k : Nat) (ps : List Int) (hk : 16 < k) : ∀ n : Nat, feed (parm k ps) (List.replicate n 57) = (parm k ps, [])
  | 0 => rfl
  | n + 1 => by
    rw [List.replicate_succ', feed_append, feed_out k ps hk n, feed_one, take_nine_out _ _ hk]
    rfl
theorem up20 : Nat.repeat (fun x => up x 9) 20 (-1) = 65535 := by decide +kernel
theorem up19 : Nat.repeat (fun x => up x 9) 19 9 = 65535 := by decide +kernel
def many (k : Nat) : List Int := List.replicate (min k 16) 65535
/-- another group -/
theorem feed_group (k : Nat) (hk : 1 ≤ k) : feed (parm k (many k)) (59 :: nine) = (parm (k + 1) (many (k + 1)), []) := by
  have k1 : act 6 59 = 96 ∧ nxt 6 59 = 6 := by decide +kernel
  have hsemi : take (parm k (many k)) 59 = (parm (k + 1) (if k < 16 then many k ++ [-1] else many k), []) := by
    unfold parm
    rw [take_z _ k1.1 k1.2 (by omega)]
    have : doo ⟨6, U.z, ⟨0, 0, k, many k, []⟩⟩ 96 59 = (⟨6, U.z, ⟨0, 0, k + 1, if k < 16 then many k ++ [-1] else many k, []⟩⟩, []) := by
      show ((⟨6, U.z, D.semi ⟨0, 0, k, many k, []⟩⟩ : S), ([] : List Ev)) = _
      have e1 : D.first ⟨0, 0, k, many k, []⟩ = ⟨0, 0, k, many k, []⟩ := by unfold D.first; rw [if_neg (by simp only []; omega)]
      unfold D.semi
      rw [e1]
      rfl
    rw [this]
    rfl
  rw [feed, hsemi]
  by_cases h : k < 16
  · rw [if_pos h]
    have hl : (many k).length = k := by simp [many]; omega
    unfold nine
    rw [feed_in k (many k) hl (by omega) 20 (-1), up20]
    have : many k ++ [65535] = many (k + 1) := by
      unfold many
      rw [show min k 16 = k by omega, show min (k + 1) 16 = k + 1 by omega, List.replicate_succ']
    rw [this]
    rfl
  · rw [if_neg h]
    unfold nine
    rw [feed_out (k + 1) (many k) (by omega) 20]
    have : many k = many (k + 1) := by
      unfold many
      rw [show min k 16 = min (k + 1) 16 by omega]
    rw [this]
    rfl
theorem feed_first : feed s0 (27 :: 91 :: nine) = (parm 1 (many 1), []) := by kernel_rfl
/-- the text of k parameters of nines -/
def nines : Nat → List Int
  | 0 => [27, 91]
  | k + 1 => nines k ++ ((if k = 0 then [] else [59]) ++ nine)
theorem feed_nines : ∀ k : Nat, 1 ≤ k → feed s0 (nines k) = (parm k (many k), [])
  | 0, h => by omega
  | 1, _ => feed_first
  | k + 2, _ => by
    have ih := feed_nines (k + 1) (by omega)
    show feed s0 (nines (k + 1) ++ ((if k + 1 = 0 then [] else [59]) ++ nine)) = _
    rw [if_neg (by omega), feed_append, ih]
    show ((feed (parm (k + 1) (many (k + 1))) (59 :: nine)).1, [] ++ (feed (parm (k + 1) (many (k + 1))) (59 :: nine)).2) = _
    rw [feed_group (k + 1) (by omega)]
    rfl
theorem feed_csi (k : Nat) (h : 1 ≤ k) : feed s0 (nines k ++ [109]) = (s0, [⟨4, 0, 0, 0, 109, many k, []⟩]) := by
  rw [feed_append, feed_nines k h, feed_one]
  have k1 : act 6 109 = 160 ∧ nxt 6 109 = 1 := by decide +kernel
  unfold parm
  rw [take_z _ k1.1 k1.2 (by omega)]
  rfl
theorem nines_u8 : ∀ (k : Nat), ∀ x ∈ nines k, 0 ≤ x ∧ x < 256
  | 0, x, hx => by simp [nines] at hx; omega
  | k + 1, x, hx => by
    rcases List.mem_append.1 hx with hx | hx
    · exact nines_u8 k x hx
    · rcases List.mem_append.1 hx with hx | hx
      · split at hx
        · simp at hx
        · simp at hx; omega
      · have := List.eq_of_mem_replicate hx
        omega
theorem nines_len : ∀ (k : Nat), (nines k).length ≤ 2 + 21 * k
  | 0 => by simp [nines]
  | k + 1 => by
    have ih := nines_len k
    have : nine.length = 20 := rfl
    simp only [nines, List.length_append]
    split <;> simp <;> omega
end Go.Proofs.YtnnjppgmadmmaaaDoor.PA
