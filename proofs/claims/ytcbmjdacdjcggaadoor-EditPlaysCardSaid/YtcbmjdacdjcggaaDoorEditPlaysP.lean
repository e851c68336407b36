/- What EditPlays asks beside: rows wiped one by one are what Erase leaves; grids alike are one in memory; a grid stored over a box, told of what stays. -/
import Derived.Test.YtcbmjdacdjcggaaDoorEditRuns
import Derived.Test.YtcbmjdacdjcggaaDoorGridScroll
import Derived.Test.YtcbmjdacdjcggaaDoorGridPlaysP
import Derived.Test.YtcbmjdacdjcggaaDoorKeepPen
set_option maxRecDepth 100000
namespace Go.Proofs.YtcbmjdacdjcggaaDoor
open Go.RowKit
set_option linter.unusedVariables false
namespace PG
/-- from where, and up to where row y is wiped -/
def erA (r c k y : Nat) : Int := if (k = 0 ∧ y < r) ∨ (k = 1 ∧ r < y) then 0 else if k = 0 ∧ y = r then c else 0
def erB (r c k K y : Nat) : Int := if (k = 0 ∧ y < r) ∨ (k = 1 ∧ r < y) then 0 else if k = 1 ∧ y = r then c + 1 else K
/-- the rows up to y wiped -/
def er (G : Gr) (r c k : Nat) (p : Pn) : Nat → Gr
  | 0 => G
  | y + 1 => wipeI (er G r c k p y) y (erA r c k y) (erB r c k G.cols y) p
theorem wipeG_f {g : Gr} {y a b : Nat} {p : Pn} (hy : y < g.rows) (i j : Nat) : (wipeG g y a b p).f i j = if i = y then mend (wiped (g.f y) a b p) g.cols j else g.f i j := by
  unfold wipeG
  rw [if_pos hy]
theorem er_all {G : Gr} {r c k : Nat} {p : Pn} (hG : RightG G) (hp : okPen p) (hr : r < G.rows) (hc : c < G.cols) (hk : k ≤ 2) : ∀ y, y ≤ G.rows → RightG (er G r c k p y) ∧ (er G r c k p y).rows = G.rows ∧ (er G r c k p y).cols = G.cols ∧
    ∀ i j, i < G.rows → j < G.cols → (er G r c k p y).f i j = if i < y then (eraseG G r c k p).f i j else G.f i j
  | 0, _ => ⟨hG, rfl, rfl, fun i j _ _ => by rw [if_neg (by omega)]; rfl⟩
  | y + 1, h => by
    obtain ⟨h1, h2, h3, h4⟩ := er_all hG hp hr hc hk y (by omega)
    have hs := wipeI_size (er G r c k p y) y (erA r c k y) (erB r c k G.cols y) p
    refine ⟨right_wipeI h1 hp _ _ _, hs.1.trans h2, hs.2.trans h3, fun i j hi hj => ?_⟩
    have e : er G r c k p (y + 1) = wipeG (er G r c k p y) y (max (erA r c k y) 0).toNat (min (erB r c k G.cols y) (er G r c k p y).cols).toNat p := by
      show wipeI _ _ _ _ _ = _
      unfold wipeI
      rw [if_pos (by omega)]
      rfl
    rw [e, wipeG_f (by rw [h2]; omega), h3]
    by_cases hiy : i = y
    · subst hiy
      rw [if_pos rfl, if_pos (by omega)]
      have hrow : ∀ q, q < G.cols → (er G r c k p i).f i q = G.f i q := fun q hq => by rw [h4 i q hi hq, if_neg (by omega)]
      have hw : ∀ a b q, q < G.cols → wiped ((er G r c k p i).f i) a b p q = wiped (G.f i) a b p q := fun a b q hq => by
        unfold wiped
        rw [hrow q hq]
      rw [mend_congr (hw _ _) hj]
      show _ = (if k = 2 ∨ (k = 0 ∧ r < i) ∨ (k = 1 ∧ i < r) then blank p else if i = r then mend (wiped (G.f r) (if k = 0 then c else 0) (if k = 1 then c + 1 else G.cols) p) G.cols j else G.f i j)
      unfold erA erB
      by_cases c1 : (k = 0 ∧ i < r) ∨ (k = 1 ∧ r < i)
      · rw [if_pos c1, if_pos c1, if_neg (by omega), if_neg (by omega)]
        exact wiped_none (hG.2.2.2.2 i hi) (by omega) hj
      · rw [if_neg c1, if_neg c1]
        by_cases c2 : i = r
        · subst c2
          by_cases k2 : k = 2
          · subst k2
            rw [if_neg (show ¬ ((2 : Nat) = 0 ∧ i = i) by omega), if_neg (show ¬ ((2 : Nat) = 1 ∧ i = i) by omega), if_pos (.inl rfl)]
            rw [show (max (0 : Int) 0).toNat = 0 by omega, show (min (G.cols : Int) G.cols).toNat = G.cols by omega]
            exact wiped_all _ _ _ hj
          · rw [if_neg (show ¬ (k = 2 ∨ (k = 0 ∧ i < i) ∨ (k = 1 ∧ i < i)) by omega), if_pos rfl]
            obtain rfl | rfl : k = 0 ∨ k = 1 := by omega
            · rw [if_pos (show (0 : Nat) = 0 ∧ i = i from ⟨rfl, rfl⟩), if_neg (show ¬ ((0 : Nat) = 1 ∧ i = i) by omega), if_pos rfl, if_neg (show ¬ (0 : Nat) = 1 by omega)]
              rw [show (max (c : Int) 0).toNat = c by omega, show (min (G.cols : Int) G.cols).toNat = G.cols by omega]
            · rw [if_neg (show ¬ ((1 : Nat) = 0 ∧ i = i) by omega), if_pos (show (1 : Nat) = 1 ∧ i = i from ⟨rfl, rfl⟩), if_neg (show ¬ (1 : Nat) = 0 by omega), if_pos rfl]
              rw [show (max (0 : Int) 0).toNat = 0 by omega, show (min ((c : Int) + 1) G.cols).toNat = c + 1 by omega]
        · rw [if_neg (show ¬ (k = 0 ∧ i = r) from fun x => c2 x.2), if_neg (show ¬ (k = 1 ∧ i = r) from fun x => c2 x.2), if_pos (show k = 2 ∨ (k = 0 ∧ r < i) ∨ (k = 1 ∧ i < r) by omega)]
          rw [show (max (0 : Int) 0).toNat = 0 by omega, show (min (G.cols : Int) G.cols).toNat = G.cols by omega]
          exact wiped_all _ _ _ hj
    · rw [if_neg hiy, h4 i j hi hj]
      by_cases c1 : i < y
      · rw [if_pos c1, if_pos (by omega)]
      · rw [if_neg c1, if_neg (by omega)]
theorem er_end {G : Gr} {r c k : Nat} {p : Pn} (hG : RightG G) (hp : okPen p) (hr : r < G.rows) (hc : c < G.cols) (hk : k ≤ 2) : Alike (er G r c k p G.rows) (eraseI G r c k p) := by
  obtain ⟨_, h2, h3, h4⟩ := er_all hG hp hr hc hk G.rows (Nat.le_refl _)
  have e : eraseI G r c k p = eraseG G r c k p := if_pos ⟨⟨by omega, by omega, by omega, by omega⟩, by omega, by omega⟩
  rw [e]
  refine ⟨h2, h3, fun i j hi hj => ?_⟩
  rw [h2] at hi
  rw [h3] at hj
  rw [h4 i j hi hj, if_pos hi]
end PG
theorem IsG.alike {w : World} {G H : PG.Gr} {v : Value} (h : IsG w G v) (e : PG.Alike G H) : IsG w H v := by
  obtain ⟨s, rfl, ho⟩ := h
  exact ⟨s, by rw [e.1, e.2.1], by rw [← e.1, ← e.2.1, ← PG.cells_ext e]; exact ho⟩
theorem GBox.alike {w : World} {G H : PG.Gr} {g : Nat} (h : GBox w G g) (e : PG.Alike G H) : GBox w H g := by
  obtain ⟨s, hb, hi⟩ := h
  have h2 := hi.alike e
  rw [e.1, e.2.1] at h2
  exact ⟨s, by rw [← e.1, ← e.2.1]; exact hb, h2⟩
/-- a grid stored over a box -/
theorem gstore {w0 w : World} {S : List (Option Nat)} {G : PG.Gr} {g R K : Nat} {cs : Array Value} {s : Value} (hb : Box w g 27 cs) (hs : cs.size = 3) (hR : G.rows = R) (hK : G.cols = K) (hg : IsG w G (gv R K s)) (k0 : Kept S w0 w) (hS : From w0 S (some g)) : GBox (set3 w g (.int .i64 R) (.int .i64 K) s) G g ∧ Kept S w0 (set3 w g (.int .i64 R) (.int .i64 K) s) := by
  subst hR hK
  have k := set3_kept w g (.int .i64 G.rows) (.int .i64 G.cols) s
  exact ⟨⟨s, set3_box hb hs _ _ _, hg.kept hb (by decide) k⟩, k0.trans k (fun x hx => by simp at hx; subst hx; exact hS)⟩
/-- two slices of three numbers made, one number of each read, a grid made of them, and stored: in any order -/
structure QR (w0 : World) (H : PG.Gr) (xs ys : Array Value) (e : Nat) (vals : Nat → Value) (L : Nat → Bool) (u : Nat → Value) (w : World) : Prop where
  bel : Below w0.heap.size w0 w
  all : ∀ j, j < 20 → L j = true → j ≠ 3 → j ≠ 6 → j ≠ 14 → j ≠ 17 → u j = vals j
  s1 : L 3 = true → ∃ g, u 3 = .slice (some ⟨g, 0, none⟩) 3 3 ∧ Box w g 3 xs
  p1 : L 6 = true → ∃ g, u 6 = .pointer (some ⟨g, e, none⟩) ∧ Box w g 3 xs
  s2 : L 14 = true → ∃ g, u 14 = .slice (some ⟨g, 0, none⟩) 3 3 ∧ Box w g 3 ys
  p2 : L 17 = true → ∃ g, u 17 = .pointer (some ⟨g, e, none⟩) ∧ Box w g 3 ys
  gr : L 20 = true → IsG w H (u 20)
theorem QR.step {w0 w w' : World} {H : PG.Gr} {xs ys : Array Value} {e : Nat} {vals : Nat → Value} {L : Nat → Bool} {u : Nat → Value} (h : QR w0 H xs ys e vals L u w) {i : Nat} {v : Value} (b : Below w.heap.size w w')
    (hv : i < 20 → i ≠ 3 → i ≠ 6 → i ≠ 14 → i ≠ 17 → v = vals i) (h3 : i = 3 → ∃ g, v = .slice (some ⟨g, 0, none⟩) 3 3 ∧ Box w' g 3 xs) (h6 : i = 6 → ∃ g, v = .pointer (some ⟨g, e, none⟩) ∧ Box w' g 3 xs)
    (h14 : i = 14 → ∃ g, v = .slice (some ⟨g, 0, none⟩) 3 3 ∧ Box w' g 3 ys) (h17 : i = 17 → ∃ g, v = .pointer (some ⟨g, e, none⟩) ∧ Box w' g 3 ys) (h20 : i = 20 → IsG w' H v) : QR w0 H xs ys e vals (mark L i) (upd u i v) w' := by
  have at_ : ∀ j, j ≠ i → mark L i j = L j ∧ upd u i v j = u j := fun j hj => ⟨mark_at hj, upd_at hj⟩
  refine ⟨h.bel.trans (b.mono h.bel.size), fun j hj hl n3 n6 n14 n17 => ?_, fun hl => ?_, fun hl => ?_, fun hl => ?_, fun hl => ?_, fun hl => ?_⟩
  · by_cases c : j = i
    · subst c
      rw [upd_self]
      exact hv hj n3 n6 n14 n17
    · rw [(at_ j c).2]
      rw [(at_ j c).1] at hl
      exact h.all j hj hl n3 n6 n14 n17
  · by_cases c : 3 = i
    · subst c
      rw [upd_self]
      exact h3 rfl
    · rw [(at_ 3 c).2]
      rw [(at_ 3 c).1] at hl
      obtain ⟨g, e1, e2⟩ := h.s1 hl
      exact ⟨g, e1, e2.below b e2.lt⟩
  · by_cases c : 6 = i
    · subst c
      rw [upd_self]
      exact h6 rfl
    · rw [(at_ 6 c).2]
      rw [(at_ 6 c).1] at hl
      obtain ⟨g, e1, e2⟩ := h.p1 hl
      exact ⟨g, e1, e2.below b e2.lt⟩
  · by_cases c : 14 = i
    · subst c
      rw [upd_self]
      exact h14 rfl
    · rw [(at_ 14 c).2]
      rw [(at_ 14 c).1] at hl
      obtain ⟨g, e1, e2⟩ := h.s2 hl
      exact ⟨g, e1, e2.below b e2.lt⟩
  · by_cases c : 17 = i
    · subst c
      rw [upd_self]
      exact h17 rfl
    · rw [(at_ 17 c).2]
      rw [(at_ 17 c).1] at hl
      obtain ⟨g, e1, e2⟩ := h.p2 hl
      exact ⟨g, e1, e2.below b e2.lt⟩
  · by_cases c : 20 = i
    · subst c
      rw [upd_self]
      exact h20 rfl
    · rw [(at_ 20 c).2]
      rw [(at_ 20 c).1] at hl
      exact (h.gr hl).low b
theorem QR.same {w0 w : World} {H : PG.Gr} {xs ys : Array Value} {e : Nat} {vals : Nat → Value} {L : Nat → Bool} {u u' : Nat → Value} (he : ∀ j, j < 22 → u j = u' j) (h : QR w0 H xs ys e vals L u w) : QR w0 H xs ys e vals L u' w := by
  refine ⟨h.bel, fun j hj hl n3 n6 n14 n17 => (he j (by omega)).symm.trans (h.all j hj hl n3 n6 n14 n17), ?_, ?_, ?_, ?_, ?_⟩
  · rw [← he 3 (by omega)]; exact h.s1
  · rw [← he 6 (by omega)]; exact h.p1
  · rw [← he 14 (by omega)]; exact h.s2
  · rw [← he 17 (by omega)]; exact h.p2
  · rw [← he 20 (by omega)]; exact h.gr
/-- and stored -/
def QJ (F : World → Prop) (w0 : World) (H : PG.Gr) (xs ys : Array Value) (e : Nat) (vals : Nat → Value) (L : Nat → Bool) (u : Nat → Value) (w : World) : Prop := (L 21 = true → F w) ∧ (L 21 = false → QR w0 H xs ys e vals L u w)
theorem QJ.step {F : World → Prop} {w0 w' : World} {H : PG.Gr} {xs ys : Array Value} {e : Nat} {vals : Nat → Value} {L : Nat → Bool} {u : Nat → Value} {i : Nat} {v : Value} (hi : 21 ≠ i) (f : L 21 = false) (h : QR w0 H xs ys e vals (mark L i) (upd u i v) w') : QJ F w0 H xs ys e vals (mark L i) (upd u i v) w' :=
  ⟨(fun x => by rw [mark_at hi, f] at x; cases x), fun _ => h⟩
theorem not_cameE {L : Nat → Bool} {ops : Array Oper} (hcl : Closed ops L) {i j : Nat} (h : L j = false) (hd : depIn ops i j = true) : L i = false := by
  cases hi : L i with
  | false => rfl
  | true => rw [came hcl hi hd] at h; cases h
end Go.Proofs.YtcbmjdacdjcggaaDoor
