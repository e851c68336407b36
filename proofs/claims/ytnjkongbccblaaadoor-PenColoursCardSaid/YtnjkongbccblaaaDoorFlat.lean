/- A package-level variable of plain data (numbers, truths, texts, in structs and arrays): what its datum says is what its block holds, cell for cell. -/
import Derived.OpenShut
import Derived.ChangeArms
import Derived.MakeChecks
import GoSem.ClaimJoined
namespace Go.Proofs.YtnjkongbccblaaaDoor
open Go
mutual
def flat {H : Type} : DataW H → Option (List Value)
  | .lit (.int k n) => some [.int k n]
  | .lit (.bool b) => some [.bool b]
  | .lit (.string s) => some [.string ⟨s.toArray⟩]
  | .agg ds => flatAll ds
  | _ => none
def flatAll {H : Type} : List (DataW H) → Option (List Value)
  | [] => some []
  | d :: ds => (flat d).bind fun a => (flatAll ds).map fun b => a ++ b
end
/-- a type of plain data whose parts lie one behind the other -/
def fieldsTile (P : Program) (tl : TypeId → Bool) : Nat → List Field → Nat → Bool
  | o, [], n => decide (o = n)
  | o, f :: r, n => decide (f.offset = o) && tl f.type && fieldsTile P tl (o + P.cellsOf f.type) r n
def tiled (P : Program) : Nat → TypeId → Bool
  | 0, _ => false
  | k + 1, t =>
    match P.underlying t with
    | some (.int _) => true
    | some .bool => true
    | some .string => true
    | some (.struct fs) => fieldsTile P (tiled P k) 0 fs.toList (P.cellsOf t)
    | some (.array n e) => decide (P.cellsOf t = n * P.cellsOf e) && tiled P k e
    | _ => false
section
variable {H : Type} {enc : TypeId × Value → H} {P : Program} {w : World} {base : Nat} {spare : Nat → Bool} {held : Bool}
theorem fieldsTile_le {tl : TypeId → Bool} : ∀ (l : List Field) (o n : Nat), fieldsTile P tl o l n = true → o ≤ n
  | [], o, n, h => by simp [fieldsTile] at h; omega
  | f :: r, o, n, h => by
    simp only [fieldsTile, Bool.and_eq_true, decide_eq_true_eq] at h
    have := fieldsTile_le r _ _ h.2
    omega
theorem flat_fields {tl : TypeId → Bool} {n : Nat} {cs : List Value} (hl : cs.length = n) (g : TypeId → List Value → Option (DataW H × List MemPlace))
    (ih : ∀ t c d, tl t = true → g t c = some d → flat d.1 = some c) :
    ∀ (l : List Field) (o : Nat) (xs : List (DataW H × List MemPlace)), fieldsTile P tl o l n = true → xs.length = l.length →
      (∀ (i : Nat) (f : Field), l[i]? = some f → g f.type ((cs.drop f.offset).take (P.cellsOf f.type)) = xs[i]?) → flatAll (xs.map (·.1)) = some (cs.drop o)
  | [], o, xs, h, hx, _ => by
    simp [fieldsTile] at h
    have : xs = [] := List.eq_nil_of_length_eq_zero (by simpa using hx)
    subst this
    rw [List.drop_eq_nil_of_le (by omega)]
    rfl
  | f :: r, o, [], h, hx, _ => by simp at hx
  | f :: r, o, x :: xs, h, hx, hf => by
    simp only [fieldsTile, Bool.and_eq_true, decide_eq_true_eq] at h
    obtain ⟨⟨h1, h2⟩, h3⟩ := h
    have e0 := hf 0 f rfl
    simp only [List.getElem?_cons_zero] at e0
    have e1 := ih _ _ _ h2 e0
    have e2 := flat_fields hl g ih r _ xs h3 (by simpa using hx) (fun i f' hi => by simpa using hf (i + 1) f' (by simpa using hi))
    simp only [List.map_cons, flatAll, e1, e2, Option.bind_some, Option.map_some, Option.some.injEq]
    rw [h1, ← List.drop_drop]
    exact List.take_append_drop _ _
theorem flat_rows {c m : Nat} {cs : List Value} (g : List Value → Option (DataW H × List MemPlace)) (ih : ∀ l d, g l = some d → flat d.1 = some l) :
    ∀ (k j : Nat) (xs : List (DataW H × List MemPlace)), j + k = m → cs.length = m * c → xs.length = k →
      (∀ i, i < k → g ((cs.drop ((j + i) * c)).take c) = xs[i]?) → flatAll (xs.map (·.1)) = some (cs.drop (j * c))
  | 0, j, xs, hj, hl, hx, _ => by
    have : xs = [] := List.eq_nil_of_length_eq_zero (by simpa using hx)
    subst this
    have : j = m := by omega
    subst this
    rw [List.drop_eq_nil_of_le (by omega)]
    rfl
  | k + 1, j, [], hj, hl, hx, _ => by simp at hx
  | k + 1, j, x :: xs, hj, hl, hx, hf => by
    have e0 := hf 0 (by omega)
    simp only [List.getElem?_cons_zero, Nat.add_zero] at e0
    have e1 := ih _ _ e0
    have e2 := flat_rows (c := c) (m := m) g ih k (j + 1) xs (by omega) hl (by simpa using hx) (fun i hi => by
      have := hf (i + 1) (by omega)
      rw [show j + (i + 1) = j + 1 + i by omega] at this
      simpa using this)
    simp only [List.map_cons, flatAll, e1, e2, Option.bind_some, Option.map_some, Option.some.injEq]
    rw [Nat.add_mul, Nat.one_mul, ← List.drop_drop]
    exact List.take_append_drop _ _
theorem flat_trod : ∀ (k : Nat) (t : TypeId) (fuel : Nat) (cs : List Value) (x : DataW H × List MemPlace), tiled P k t = true →
    DataW.trod enc P w base spare held fuel t cs = some x → flat x.1 = some cs
  | 0, t, fuel, cs, x, h, _ => by simp [tiled] at h
  | k + 1, t, fuel, cs, x, h, hx => by
    unfold tiled at h
    split at h
    · rename_i ht
      obtain ⟨n, rfl, rfl, _⟩ := DataW.trod_int ht hx
      rfl
    · rename_i ht
      cases fuel with
      | zero => simp [DataW.trod] at hx
      | succ n =>
        unfold DataW.trod at hx
        rw [ht] at hx
        split at hx <;> simp_all
        subst hx
        rfl
    · rename_i ht
      obtain ⟨s, rfl, rfl, _⟩ := DataW.trod_string ht hx
      simp [flat]
    · rename_i fs ht
      obtain ⟨xs, n, _, rfl, hl, hlen, hf⟩ := DataW.trod_struct ht hx
      have := flat_fields (P := P) (n := P.cellsOf t) hl (fun t c => DataW.trod enc P w base spare held n t c) (fun t c d h1 h2 => flat_trod k t n c d h1 h2) fs.toList 0 xs h (by simpa using hlen) (fun i f hi => hf i f (by simpa using hi))
      simpa [flat] using this
    · rename_i n e ht
      obtain ⟨xs, m, _, rfl, hl, hlen, hf⟩ := DataW.trod_array ht hx
      simp only [Bool.and_eq_true, decide_eq_true_eq] at h
      have := flat_rows (c := P.cellsOf e) (m := n) (cs := cs) (fun c => DataW.trod enc P w base spare held m e c) (fun c d h2 => flat_trod k e m c d h.2 h2) n 0 xs (by omega) (by omega) hlen (fun i hi => by simpa using hf i hi)
      simpa [flat] using this
    · cases h
/-- the head of what is laid: a variable of plain data is one block, known whole -/
theorem laid_flat {name : String} {D : DataW Unit} {rest : List (String × DataW Unit)} {g : Nat} {t : TypeId} {vs : List Value} (k : Nat)
    (hg : P.globalNamed name = some g) (ht : (P.globals[g]?).map (·.type) = some t) (htl : tiled P k t = true) (hD : flat D = some vs) (hvs : 0 < vs.length)
    (h : laidMet P ((name, D) :: rest) w) : ∃ t', w.heap[g]? = some (.cells vs.toArray t' (0, 0)) := by
  obtain ⟨ps, ⟨g0, t0, cs0, f0, p0, q0, hg0, ht0, hv0, hd0, _, hps⟩, _, hall⟩ := h
  obtain rfl := Option.some.inj (hg.symm.trans hg0)
  obtain rfl := Option.some.inj (ht.symm.trans ht0)
  have e := flat_trod k _ _ _ _ htl hd0
  rw [hD] at e
  have e : vs = cs0.toList := Option.some.inj e
  subst e
  have hm : MemPlace.cell g 0 ∈ ps := by
    rw [hps]
    simp [MemPlace.row]
    exact .inl (by simpa using hvs)
  obtain ⟨⟨c, t', hc⟩, _⟩ := hall g 0 hm
  refine ⟨t', ?_⟩
  have hv := hv0
  simp [World.var?, hg, hc] at hv
  simp [hc, hv]
/-- the rest of what is laid -/
theorem laid_tail {x : String × DataW Unit} {rest : List (String × DataW Unit)} (h : laidMet P (x :: rest) w) : laidMet P rest w := by
  obtain ⟨n, D⟩ := x
  obtain ⟨ps, ⟨g0, t0, cs0, f0, p0, q0, hg0, ht0, hv0, hd0, hr, hps⟩, hn, hall⟩ := h
  refine ⟨q0, hr, ?_, fun b off hb => hall b off (by rw [hps]; exact List.mem_append_right _ hb)⟩
  rw [hps] at hn
  exact (List.nodup_append.1 hn).2.1
/-- a variable of plain data, wherever it stands on the list -/
theorem laid_flat_mem {name : String} {D : DataW Unit} {g : Nat} {t : TypeId} {vs : List Value} (k : Nat)
    (hg : P.globalNamed name = some g) (ht : (P.globals[g]?).map (·.type) = some t) (htl : tiled P k t = true) (hD : flat D = some vs) (hvs : 0 < vs.length) :
    ∀ {l : List (String × DataW Unit)}, laidMet P l w → (name, D) ∈ l → ∃ t', w.heap[g]? = some (.cells vs.toArray t' (0, 0))
  | x :: rest, h, hm => by
    rcases List.mem_cons.1 hm with rfl | hm
    · exact laid_flat k hg ht htl hD hvs h
    · exact laid_flat_mem k hg ht htl hD hvs (laid_tail h) hm
end
end Go.Proofs.YtnjkongbccblaaaDoor
