/- What EditRows asks beside: a row of letters put one by one; what is put in and taken out of it; wiped to the left and to the right; bytes as a string; what a region of appends, each to what the one ahead made, leaves. -/
import Derived.Test.YtcbmjdacdjcggaaDoorEditRuns
import Derived.Test.YtcbmjdacdjcggaaDoorGridPlaysP
import Derived.Test.YtcbmjdacdjcggaaDoorArgs
set_option maxRecDepth 100000
namespace Go.Proofs.YtcbmjdacdjcggaaDoor
open Go.RowKit
set_option linter.unusedVariables false
namespace PG
/-- letters put in a row, the first k of them -/
def lets (s : List Int) : Nat → Gr
  | 0 => newG 1 s.length plain
  | k + 1 => putI (lets s k) 0 k (s[k]?.getD 32) plain
theorem lets_all {s : List Int} (h0 : 1 ≤ s.length) (h9 : s.length ≤ 60) (ha : ∀ x ∈ s, 32 ≤ x ∧ x ≤ 126) : ∀ k, k ≤ s.length → RightG (lets s k) ∧ (lets s k).rows = 1 ∧ (lets s k).cols = s.length ∧ RowOf ((lets s k).f 0) (s.take k) ∧ ∀ j, k ≤ j → (lets s k).f 0 j = blank plain
  | 0, _ => ⟨right_newG plain_ok (by omega) (by omega) (by omega) (by omega), rfl, rfl, fun j x h => by simp at h, fun _ _ => rfl⟩
  | k + 1, h => by
    obtain ⟨h1, h2, h3, h4, h5⟩ := lets_all h0 h9 ha k (by omega)
    have hk : s[k]? = some s[k] := List.getElem?_eq_getElem (by omega)
    have hm := ha s[k] (List.getElem_mem _)
    have e : lets s (k + 1) = putG (lets s k) 0 k s[k] plain := by
      show putI (lets s k) 0 k (s[k]?.getD 32) plain = _
      rw [hk]
      exact putI_in rfl rfl
    have hl : (s.take k).length = k := by rw [List.length_take]; omega
    have hp := put_letter (g := lets s k) (k := k) (s := s.take k) (x := s[k]) (by omega) (by rw [hl, h3]; omega) hm.1 hm.2 h4 (by rw [hl]; exact h5)
    rw [hl] at hp
    rw [e]
    refine ⟨right_putG h1 plain_ok _ _ _, (put_size ..).1.trans h2, (put_size ..).2.trans h3, ?_, fun j hj => hp.2 j (by simp; omega)⟩
    rw [List.take_add_one, hk]
    exact hp.1
theorem lets_row {s : List Int} (h0 : 1 ≤ s.length) (h9 : s.length ≤ 60) (ha : ∀ x ∈ s, 32 ≤ x ∧ x ≤ 126) : RowOf ((lets s s.length).f 0) s := by
  have h := (lets_all h0 h9 ha s.length (Nat.le_refl _)).2.2.2.1
  rw [List.take_length] at h
  exact h
theorem wipe_singles {g : Gr} {a b : Nat} {p : Pn} (hr : 0 < g.rows) (h : Singles (g.f 0) g.cols) {j : Nat} (hj : j < g.cols) : (wipeG g 0 a b p).f 0 j = if a ≤ j ∧ j < b then blank p else g.f 0 j := by
  have hw : Singles (wiped (g.f 0) a b p) g.cols := fun i hi => by
    unfold wiped
    split
    · rfl
    · exact h i hi
  unfold wipeG
  rw [if_pos hr]
  show (if (0 : Nat) = 0 then mend (wiped (g.f 0) a b p) g.cols j else g.f 0 j) = _
  rw [if_pos rfl, mend_singles hw hj]
  rfl
theorem wipe_single {g : Gr} {a b : Nat} {p : Pn} (hr : 0 < g.rows) (h : Singles (g.f 0) g.cols) : Singles ((wipeG g 0 a b p).f 0) g.cols := fun j hj => by
  rw [wipe_singles hr h hj]
  split
  · rfl
  · exact h j hj
theorem lineI_at {g : Gr} {c : Nat} (k : Nat) (p : Pn) (hr : 0 < g.rows) (hc : c < g.cols) (hk : k ≤ 2) : lineI g 0 c k p = wipeG g 0 (if k = 0 then c else 0) (if k = 1 then c + 1 else g.cols) p := by
  unfold lineI
  rw [if_pos ⟨⟨by omega, by omega, by omega, by omega⟩, by omega, by omega⟩]
  congr 1
  · by_cases h : k = 0
    · rw [if_pos (by omega), if_pos h]; omega
    · rw [if_neg (by omega), if_neg h]
  · by_cases h : k = 1
    · rw [if_pos (by omega), if_pos h]; omega
    · rw [if_neg (by omega), if_neg h]
theorem line_both {g : Gr} {c : Nat} {p : Pn} (hr : g.rows = 1) (hc : c < g.cols) (h : Singles (g.f 0) g.cols) : Alike (lineI (lineI g 0 c 0 p) 0 c 1 p) (lineI g 0 c 2 p) := by
  have e0 := lineI_at (g := g) (c := c) 0 p (by omega) hc (by omega)
  have e2 := lineI_at (g := g) (c := c) 2 p (by omega) hc (by omega)
  have s0 := wipe_size g 0 c g.cols p
  have e0 : lineI g 0 c 0 p = wipeG g 0 c g.cols p := e0
  have e2 : lineI g 0 c 2 p = wipeG g 0 0 g.cols p := e2
  have e1 : lineI (wipeG g 0 c g.cols p) 0 c 1 p = wipeG (wipeG g 0 c g.cols p) 0 0 (c + 1) p := lineI_at (g := wipeG g 0 c g.cols p) (c := c) 1 p (by rw [s0.1]; omega) (by rw [s0.2]; exact hc) (by omega)
  rw [e0, e1, e2]
  have s1 := wipe_size (wipeG g 0 c g.cols p) 0 0 (c + 1) p
  have s2 := wipe_size g 0 0 g.cols p
  refine ⟨by rw [s1.1, s0.1, s2.1], by rw [s1.2, s0.2, s2.2], fun i j hi hj => ?_⟩
  rw [s1.1, s0.1] at hi
  rw [s1.2, s0.2] at hj
  obtain rfl : i = 0 := by omega
  have hs := wipe_single (g := g) (a := c) (b := g.cols) (p := p) (by omega) h
  rw [wipe_singles (g := wipeG g 0 c g.cols p) (by rw [s0.1]; omega) (by rw [s0.2]; exact hs) (by rw [s0.2]; exact hj), wipe_singles (by omega) h hj, wipe_singles (by omega) h hj, if_pos (show 0 ≤ j ∧ j < g.cols by omega)]
  by_cases hjc : j < c + 1
  · rw [if_pos (by omega)]
  · rw [if_neg (by omega), if_pos (by omega)]
theorem erase_line {g : Gr} {c : Nat} {p : Pn} (hr : g.rows = 1) (hc : c < g.cols) : Alike (eraseI g 0 c 0 p) (lineI g 0 c 0 p) := by
  have e0 : lineI g 0 c 0 p = wipeG g 0 c g.cols p := lineI_at (g := g) (c := c) 0 p (by omega) hc (by omega)
  have e1 : eraseI g 0 c 0 p = eraseG g 0 c 0 p := if_pos ⟨⟨by omega, by omega, by omega, by omega⟩, by omega, by omega⟩
  rw [e0, e1]
  have s0 := wipe_size g 0 c g.cols p
  refine ⟨s0.1.symm, s0.2.symm, fun i j hi hj => ?_⟩
  have hi : i < g.rows := hi
  obtain rfl : i = 0 := by omega
  have ew : wipeG g 0 c g.cols p = ⟨g.rows, g.cols, fun i j => if i = 0 then mend (wiped (g.f 0) c g.cols p) g.cols j else g.f i j⟩ := if_pos (by omega)
  rw [ew]
  unfold eraseG
  show (if (0 : Nat) = 2 ∨ (0 : Nat) = 0 ∧ (0 : Nat) < 0 ∨ (0 : Nat) = 1 ∧ (0 : Nat) < 0 then blank p else if (0 : Nat) = 0 then mend (wiped (g.f 0) (if (0 : Nat) = 0 then c else 0) (if (0 : Nat) = 1 then c + 1 else g.cols) p) g.cols j else g.f 0 j) = (if (0 : Nat) = 0 then mend (wiped (g.f 0) c g.cols p) g.cols j else g.f 0 j)
  rw [if_neg (by omega)]
  rfl
/-- texts of letters: put in, taken out -/
def inT (s : List Int) (k m : Nat) : List Int := (s.take k ++ (List.replicate m 32 ++ s.drop k)).take s.length
def outT (s : List Int) (k m : Nat) : List Int := (s.take k ++ (s.drop (min (k + m) s.length) ++ List.replicate m 32)).take s.length
theorem ascii_in {s : List Int} (ha : ∀ x ∈ s, 32 ≤ x ∧ x ≤ 126) (k m : Nat) : ∀ x ∈ inT s k m, 0 ≤ x ∧ x < 128 := fun x hx => by
  have h := List.mem_of_mem_take hx
  simp only [List.mem_append] at h
  rcases h with h | h | h
  · have := ha x (List.mem_of_mem_take h); omega
  · have := (List.mem_replicate.1 h).2; omega
  · have := ha x (List.mem_of_mem_drop h); omega
theorem ascii_out {s : List Int} (ha : ∀ x ∈ s, 32 ≤ x ∧ x ≤ 126) (k m : Nat) : ∀ x ∈ outT s k m, 0 ≤ x ∧ x < 128 := fun x hx => by
  have h := List.mem_of_mem_take hx
  simp only [List.mem_append] at h
  rcases h with h | h | h
  · have := ha x (List.mem_of_mem_take h); omega
  · have := ha x (List.mem_of_mem_drop h); omega
  · have := (List.mem_replicate.1 h).2; omega
theorem text_in {s : List Int} {k m : Nat} (h0 : 1 ≤ s.length) (h9 : s.length ≤ 60) (ha : ∀ x ∈ s, 32 ≤ x ∧ x ≤ 126) (hk : k < s.length) : text ((shiftI (lets s s.length) 0 k m plain).f 0) (shiftI (lets s s.length) 0 k m plain).cols = inT s k m := by
  obtain ⟨h1, h2, h3, _, _⟩ := lets_all h0 h9 ha s.length (Nat.le_refl _)
  have e : shiftI (lets s s.length) 0 k m plain = shiftG (lets s s.length) 0 k m plain := if_pos (by omega)
  have h := insert_runes (g := lets s s.length) (s := s) (k := k) (m := m) (by omega) h3 (lets_row h0 h9 ha) hk
  rw [e]
  refine text_of ?_ (ascii_in ha k m)
  rw [(shift_size ..).2, h3]
  exact h
theorem text_out {s : List Int} {k m : Nat} (h0 : 1 ≤ s.length) (h9 : s.length ≤ 60) (ha : ∀ x ∈ s, 32 ≤ x ∧ x ≤ 126) (hk : k < s.length) (hm : k + m ≤ s.length) : text ((shiftI (lets s s.length) 0 k (-m) plain).f 0) (shiftI (lets s s.length) 0 k (-m) plain).cols = outT s k m := by
  obtain ⟨h1, h2, h3, _, _⟩ := lets_all h0 h9 ha s.length (Nat.le_refl _)
  have e : shiftI (lets s s.length) 0 k (-m) plain = shiftG (lets s s.length) 0 k (-m) plain := if_pos (by omega)
  have h := delete_runes (g := lets s s.length) (s := s) (k := k) (m := m) (by omega) h3 (lets_row h0 h9 ha) hk hm
  rw [e]
  refine text_of ?_ (ascii_out ha k m)
  rw [(shift_size ..).2, h3]
  unfold outT
  rw [Nat.min_eq_left hm]
  exact h
/-- the law's letters -/
def lts (l : List Int) : List Int := (l.take 9).map fun x => 33 + x % 94
theorem lts_len (l : List Int) : (lts l).length = min l.length 9 := by simp [lts, Nat.min_comm]
theorem lts_ascii (l : List Int) : ∀ x ∈ lts l, 32 ≤ x ∧ x ≤ 126 := fun x hx => by
  obtain ⟨y, _, rfl⟩ := List.mem_map.1 hx
  omega
theorem lts_next {l : List Int} {k : Nat} {x : Int} (hx : l[k]? = some x) (hk : k < 9) : (lts l).take (k + 1) = (lts l).take k ++ [33 + x % 94] := by
  rw [List.take_add_one]
  congr 1
  unfold lts
  rw [List.getElem?_map, List.getElem?_take_of_lt hk, hx]
  rfl
end PG
/-- a row of bytes of the law's own -/
def OwnB (w : World) (b : Nat) (l : List Int) (A : Option Addr) (n c : Nat) : Prop := w.ownsRow b 5 1 (.slice A n c) n (u8s l)
theorem OwnB.low {w w' : World} {b : Nat} {l : List Int} {A : Option Addr} {n c : Nat} (h : OwnB w b l A n c) (k : Below w.heap.size w w') : OwnB w' b l A n c := own_below h k
theorem OwnB.box {w w' : World} {b g : Nat} {T : TypeId} {cs : Array Value} {l : List Int} {A : Option Addr} {n c : Nat} (h : OwnB w b l A n c) (hb : Box w g T cs) (hT : 5 ≠ T) (k : Kept [some g] w w') : OwnB w' b l A n c :=
  own_kept h k (fun q hq hm => by
    simp only [List.mem_singleton, Option.some.injEq] at hm
    subst hm
    exact own_ne_box h hb hT hq)
theorem conv_seenE {w : World} {B n c : Nat} {A : Option Addr} {l : List Int} (h : Seen w B A n (u8s l)) : (convert 52 9 (.slice A n c)).run Tryd.prog w = .ok (.string (strOfNums l)) w := by
  have hl : l.length = n := by simpa [u8s] using h.1
  rcases A with _ | ad
  · have : l = [] := by
      rcases l with _ | ⟨x, l⟩
      · rfl
      · obtain ⟨ad, h0, _⟩ := h.2 0 _ rfl
        cases h0
    subst this
    exact run_convert_bytes_nil w _ _ Tryd.underlying52 Tryd.underlying5 _ _ _ Tryd.underlying9
  · have hh : (loadCells ad n).run Tryd.prog w = .ok ((l.map (Value.int .u8)).toArray) w := by
      have := run_loadCells_list (P := Tryd.prog) w ad (l.map (Value.int .u8)) (fun j v hj => by
        obtain ⟨ad', h1, _, h3⟩ := h.2 j v hj
        injection h1 with h1
        subst h1
        exact h3)
      simpa [hl] using this
    rw [run_convert_bytes_string w _ _ _ _ n c Tryd.underlying52 Tryd.underlying5 Tryd.underlying9, run_bytesToString w _ n c l hh, foldl_push_bytes]
    simp [strOfNums, ByteArray.empty, ByteArray.emptyWithCapacity]
    rfl
section
variable {P : Program} {ops : Array Oper} {Q : Exit → Act → World → Prop} {J : (Nat → Bool) → (Nat → Value) → World → Prop} {L : Nat → Bool} {a : Act} {w : World} {i : Nat}
/-- append as one operation of a region that draws its order -/
theorem Step.app (o : Oper) (ho : ops[i]? = some o) (hd : o.dst.isSome = true) (hgd : o.guard = none) (s x : Operand) (t : TypeId)
    (hop : o.op = .call { callee := .builtin .append, args := #[s, x], argTypes := #[t, t] })
    (base : Nat) (e : TypeId) (j : TypeInfo) (z : Value) (bytes : Nat) (ht : P.underlying t = some (.slice e)) (hi : P.info? e = some j) (hz : j.zero = some z)
    (hsize : j.size = 1) (hby : j.bytes = bytes) (hzs : z.cells.size = 1)
    (v : Value) (n : Nat) (xs : List Value) (hs : a.eval s = v) (hown : w.ownsRow base e 1 v n xs)
    (B : Nat) (A : Option Addr) (m c : Nat) (ys : List Value) (hx : a.eval x = .slice A m c) (hy : Seen w B A m ys) (h1 : ∀ u ∈ ys, u.oneCell' = true) (hb8 : bytes ≤ 64) (hn : n + m ≤ 1099511627776) (hbase : base ≤ w.heap.size)
    (h : ∀ v' w', w'.ownsRow base e 1 v' (n + m) (xs ++ ys) → w.grownBy w' v.ownBlock → J (mark L i) (upd (fun j => valOf ops j a) i v') w') : Step P ops Q J L a w i := by
  unfold Step wpOp
  simp only [ho]
  rw [if_pos (wanted_none hgd)]
  exact .inl (wp_appN s x t hop base e j z bytes ht hi hz hsize hby hzs v n xs hs hown B A m c ys hx hy h1 hb8 hn hbase fun v' w' h2 h3 _ => ⟨o, v', rfl, fun h => by simp [h] at hd, rfl, h v' w' h2 h3⟩)
end
/-- a region of three appends, each to what the one ahead made of a new slice; cut, and made a string -/
structure CJ (sz c0 c1 c2 c3 sl : Nat) (w0 : World) (N : Nat) (r1 r2 r3 : List Int) (vals : Nat → Value) (L : Nat → Bool) (u : Nat → Value) (w : World) : Prop where
  bel : Below w0.heap.size w0 w
  all : ∀ j, j < sz → L j = true → j ≠ c0 → j ≠ c1 → j ≠ c2 → j ≠ c3 → j ≠ sl → u j = vals j
  a0 : L c0 = true → L c1 = false → w.ownsRow w0.heap.size 5 1 (u c0) 0 []
  a1 : L c1 = true → L c2 = false → w.ownsRow w0.heap.size 5 1 (u c1) r1.length (u8s r1)
  a2 : L c2 = true → L c3 = false → w.ownsRow w0.heap.size 5 1 (u c2) r2.length (u8s r2)
  a3 : L c3 = true → w.ownsRow w0.heap.size 5 1 (u c3) r3.length (u8s r3)
  a4 : L sl = true → ∃ A c c', u c3 = .slice A r3.length c ∧ u sl = .slice A N c'
section
variable {sz c0 c1 c2 c3 sl N : Nat} {w0 w wy : World} {r1 r2 r3 : List Int} {vals : Nat → Value} {L : Nat → Bool} {u u' : Nat → Value}
theorem CJ.same (hc : c0 < sz ∧ c1 < sz ∧ c2 < sz ∧ c3 < sz ∧ sl < sz) (he : ∀ j, j < sz → u j = u' j) (h : CJ sz c0 c1 c2 c3 sl w0 N r1 r2 r3 vals L u w) : CJ sz c0 c1 c2 c3 sl w0 N r1 r2 r3 vals L u' w := by
  have e0 := he c0 hc.1
  have e1 := he c1 hc.2.1
  have e2 := he c2 hc.2.2.1
  have e3 := he c3 hc.2.2.2.1
  have e4 := he sl hc.2.2.2.2
  refine ⟨h.bel, fun j hj hl n0 n1 n2 n3 n4 => (he j hj).symm.trans (h.all j hj hl n0 n1 n2 n3 n4), ?_, ?_, ?_, ?_, ?_⟩
  · rw [← e0]; exact h.a0
  · rw [← e1]; exact h.a1
  · rw [← e2]; exact h.a2
  · rw [← e3]; exact h.a3
  · rw [← e3, ← e4]; exact h.a4
theorem CJ.val (h : CJ sz c0 c1 c2 c3 sl w0 N r1 r2 r3 vals L u w) {i : Nat} (hi : i ≠ c0 ∧ i ≠ c1 ∧ i ≠ c2 ∧ i ≠ c3 ∧ i ≠ sl) (v : Value) (hv : vals i = v) : CJ sz c0 c1 c2 c3 sl w0 N r1 r2 r3 vals (mark L i) (upd u i v) w := by
  obtain ⟨n0, n1, n2, n3, n4⟩ := hi
  have e : ∀ j, j ≠ i → mark L i j = L j ∧ upd u i v j = u j := fun j hj => ⟨mark_at hj, upd_at hj⟩
  have k0 := e c0 (Ne.symm n0)
  have k1 := e c1 (Ne.symm n1)
  have k2 := e c2 (Ne.symm n2)
  have k3 := e c3 (Ne.symm n3)
  have k4 := e sl (Ne.symm n4)
  refine ⟨h.bel, fun j hj hl m0 m1 m2 m3 m4 => ?_, ?_, ?_, ?_, ?_, ?_⟩
  · by_cases hji : j = i
    · subst hji
      rw [upd_self]
      exact hv.symm
    · rw [(e j hji).2]
      rw [(e j hji).1] at hl
      exact h.all j hj hl m0 m1 m2 m3 m4
  · rw [k0.1, k0.2, k1.1]; exact h.a0
  · rw [k1.1, k1.2, k2.1]; exact h.a1
  · rw [k2.1, k2.2, k3.1]; exact h.a2
  · rw [k3.1, k3.2]; exact h.a3
  · rw [k4.1, k4.2, k3.2]; exact h.a4
theorem CJ.s0 (h : CJ sz c0 c1 c2 c3 sl w0 N r1 r2 r3 vals L u w) (n1 : c1 ≠ c0 ∧ c2 ≠ c0 ∧ c3 ≠ c0 ∧ sl ≠ c0) (f : L c1 = false ∧ L c2 = false ∧ L c3 = false ∧ L sl = false) (v : Value) (b : Below w0.heap.size w0 wy) (o : wy.ownsRow w0.heap.size 5 1 v 0 []) : CJ sz c0 c1 c2 c3 sl w0 N r1 r2 r3 vals (mark L c0) (upd u c0 v) wy := by
  have k1 : mark L c0 c1 = false := (mark_at n1.1).trans f.1
  have k2 : mark L c0 c2 = false := (mark_at n1.2.1).trans f.2.1
  have k3 : mark L c0 c3 = false := (mark_at n1.2.2.1).trans f.2.2.1
  have k4 : mark L c0 sl = false := (mark_at n1.2.2.2).trans f.2.2.2
  refine ⟨b, fun j hj hl m0 m1 m2 m3 m4 => ?_, fun _ _ => by rw [upd_self]; exact o, fun x => ?_, fun x => ?_, fun x => ?_, fun x => ?_⟩
  · rw [upd_at m0]
    rw [mark_at m0] at hl
    exact h.all j hj hl m0 m1 m2 m3 m4
  · rw [k1] at x; cases x
  · rw [k2] at x; cases x
  · rw [k3] at x; cases x
  · rw [k4] at x; cases x
theorem CJ.s1 (h : CJ sz c0 c1 c2 c3 sl w0 N r1 r2 r3 vals L u w) (n1 : c2 ≠ c1 ∧ c3 ≠ c1 ∧ sl ≠ c1) (f : L c2 = false ∧ L c3 = false ∧ L sl = false) (v : Value) (b : Below w0.heap.size w0 wy) (o : wy.ownsRow w0.heap.size 5 1 v r1.length (u8s r1)) : CJ sz c0 c1 c2 c3 sl w0 N r1 r2 r3 vals (mark L c1) (upd u c1 v) wy := by
  have k2 : mark L c1 c2 = false := (mark_at n1.1).trans f.1
  have k3 : mark L c1 c3 = false := (mark_at n1.2.1).trans f.2.1
  have k4 : mark L c1 sl = false := (mark_at n1.2.2).trans f.2.2
  refine ⟨b, fun j hj hl m0 m1 m2 m3 m4 => ?_, fun _ x => ?_, fun _ _ => by rw [upd_self]; exact o, fun x => ?_, fun x => ?_, fun x => ?_⟩
  · rw [upd_at m1]
    rw [mark_at m1] at hl
    exact h.all j hj hl m0 m1 m2 m3 m4
  · rw [mark_self] at x; cases x
  · rw [k2] at x; cases x
  · rw [k3] at x; cases x
  · rw [k4] at x; cases x
theorem CJ.s2 (h : CJ sz c0 c1 c2 c3 sl w0 N r1 r2 r3 vals L u w) (n1 : c3 ≠ c2 ∧ sl ≠ c2 ∧ c1 ≠ c2) (f : L c3 = false ∧ L sl = false ∧ L c1 = true) (v : Value) (b : Below w0.heap.size w0 wy) (o : wy.ownsRow w0.heap.size 5 1 v r2.length (u8s r2)) : CJ sz c0 c1 c2 c3 sl w0 N r1 r2 r3 vals (mark L c2) (upd u c2 v) wy := by
  have k3 : mark L c2 c3 = false := (mark_at n1.1).trans f.1
  have k4 : mark L c2 sl = false := (mark_at n1.2.1).trans f.2.1
  have k1 : mark L c2 c1 = true := (mark_at n1.2.2).trans f.2.2
  refine ⟨b, fun j hj hl m0 m1 m2 m3 m4 => ?_, fun _ x => ?_, fun _ x => ?_, fun _ _ => by rw [upd_self]; exact o, fun x => ?_, fun x => ?_⟩
  · rw [upd_at m2]
    rw [mark_at m2] at hl
    exact h.all j hj hl m0 m1 m2 m3 m4
  · rw [k1] at x; cases x
  · rw [mark_self] at x; cases x
  · rw [k3] at x; cases x
  · rw [k4] at x; cases x
theorem CJ.s3 (h : CJ sz c0 c1 c2 c3 sl w0 N r1 r2 r3 vals L u w) (n1 : sl ≠ c3 ∧ c1 ≠ c3 ∧ c2 ≠ c3) (f : L sl = false ∧ L c1 = true ∧ L c2 = true) (v : Value) (b : Below w0.heap.size w0 wy) (o : wy.ownsRow w0.heap.size 5 1 v r3.length (u8s r3)) : CJ sz c0 c1 c2 c3 sl w0 N r1 r2 r3 vals (mark L c3) (upd u c3 v) wy := by
  have k4 : mark L c3 sl = false := (mark_at n1.1).trans f.1
  have k1 : mark L c3 c1 = true := (mark_at n1.2.1).trans f.2.1
  have k2 : mark L c3 c2 = true := (mark_at n1.2.2).trans f.2.2
  refine ⟨b, fun j hj hl m0 m1 m2 m3 m4 => ?_, fun _ x => ?_, fun _ x => ?_, fun _ x => ?_, fun _ => by rw [upd_self]; exact o, fun x => ?_⟩
  · rw [upd_at m3]
    rw [mark_at m3] at hl
    exact h.all j hj hl m0 m1 m2 m3 m4
  · rw [k1] at x; cases x
  · rw [k2] at x; cases x
  · rw [mark_self] at x; cases x
  · rw [k4] at x; cases x
theorem CJ.s4 (h : CJ sz c0 c1 c2 c3 sl w0 N r1 r2 r3 vals L u w) (n1 : c0 ≠ sl ∧ c1 ≠ sl ∧ c2 ≠ sl ∧ c3 ≠ sl) {A : Option Addr} {c c' : Nat} (e : u c3 = .slice A r3.length c) : CJ sz c0 c1 c2 c3 sl w0 N r1 r2 r3 vals (mark L sl) (upd u sl (.slice A N c')) w := by
  have e' : ∀ j, j ≠ sl → mark L sl j = L j ∧ upd u sl (.slice A N c') j = u j := fun j hj => ⟨mark_at hj, upd_at hj⟩
  have k0 := e' c0 n1.1
  have k1 := e' c1 n1.2.1
  have k2 := e' c2 n1.2.2.1
  have k3 := e' c3 n1.2.2.2
  refine ⟨h.bel, fun j hj hl m0 m1 m2 m3 m4 => ?_, ?_, ?_, ?_, ?_, fun _ => ⟨A, c, c', by rw [k3.2]; exact e, by rw [upd_self]⟩⟩
  · rw [(e' j m4).2]
    rw [(e' j m4).1] at hl
    exact h.all j hj hl m0 m1 m2 m3 m4
  · rw [k0.1, k0.2, k1.1]; exact h.a0
  · rw [k1.1, k1.2, k2.1]; exact h.a1
  · rw [k2.1, k2.2, k3.1]; exact h.a2
  · rw [k3.1, k3.2]; exact h.a3
end
theorem not_came {L : Nat → Bool} {ops : Array Oper} (hcl : Closed ops L) {i j : Nat} (h : L j = false) (hd : depIn ops i j = true) : L i = false := by
  cases hi : L i with
  | false => rfl
  | true => rw [came hcl hi hd] at h; cases h
end Go.Proofs.YtcbmjdacdjcggaaDoor
