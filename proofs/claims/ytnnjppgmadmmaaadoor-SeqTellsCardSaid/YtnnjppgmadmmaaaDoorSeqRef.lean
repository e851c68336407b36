/- What the document's own Parse makes of a CSI's bytes, as a plain fold over them: for what Print prints it is the event. Names no function of a program. -/
import Derived.Test.YtnnjppgmadmmaaaDoorSeqSpec
namespace Go.Proofs.YtnnjppgmadmmaaaDoor.PA
/-- what is known of a CSI, as the document's own Parse keeps it -/
structure RC where
  priv : Int
  inter : Int
  many : Nat
  right : Bool
  first : Bool
  params : List Int
def rc0 : RC := ⟨0, 0, 0, true, true, [-1]⟩
/-- one byte of it, of 32 to 63 -/
def rcStep (s : RC) (c : Int) : RC :=
  if c < 48 then ⟨s.priv, c, s.many + 1, s.right, false, s.params⟩
  else if 0 < s.many ∨ c = 58 then ⟨s.priv, s.inter, s.many, false, false, s.params⟩
  else if 60 ≤ c then ⟨c, s.inter, s.many, s.right && s.first, false, s.params⟩
  else if c = 59 then ⟨s.priv, s.inter, s.many, s.right, false, s.params ++ [-1]⟩
  else ⟨s.priv, s.inter, s.many, s.right, false, s.params.set (s.params.length - 1) (up (s.params.getD (s.params.length - 1) 0) (c - 48))⟩
def rcAll (s : RC) (l : List Int) : RC := l.foldl rcStep s
theorem rcAll_app (s : RC) (l m : List Int) : rcAll s (l ++ m) = rcAll (rcAll s l) m := by simp [rcAll]
/-- with parameters so far, none collected -/
def rcAt (p : Int) (fst : Bool) (ps : List Int) : RC := ⟨p, 0, 0, true, fst, ps⟩
theorem rc_digit {p d x : Int} {fst : Bool} {qs : List Int} (h0 : 0 ≤ d) (h1 : d ≤ 9) : rcStep (rcAt p fst (qs ++ [x])) (48 + d) = rcAt p false (qs ++ [up x d]) := by
  unfold rcStep rcAt
  simp only []
  rw [if_neg (by omega), if_neg (by omega), if_neg (by omega), if_neg (by omega), show 48 + d - 48 = d by omega]
  simp
theorem rc_semi {p : Int} {fst : Bool} {ps : List Int} : rcStep (rcAt p fst ps) 59 = rcAt p false (ps ++ [-1]) := by
  unfold rcStep rcAt
  simp
theorem rc_dec {p : Int} {qs : List Int} : ∀ (n : Nat) (fst : Bool), n ≤ 65535 → rcAll (rcAt p fst (qs ++ [-1])) (dec10 n) = rcAt p false (qs ++ [(n : Int)]) := by
  intro n
  induction n using Nat.strongRecOn with
  | ind n ih =>
    intro fst hn
    by_cases h : n < 10
    · rw [dec10_small h]
      show rcStep (rcAt p fst (qs ++ [-1])) (48 + (n : Int)) = _
      rw [rc_digit (by omega) (by omega), up_first (by omega) (by omega)]
    · rw [dec10_step h hn, rcAll_app, ih (n / 10) (by omega) fst (by omega)]
      show rcStep (rcAt p false (qs ++ [((n / 10 : Nat) : Int)])) (48 + ((n % 10 : Nat) : Int)) = _
      rw [rc_digit (by omega) (by omega), up_digit (by omega) (by omega)]
      have : ((n / 10 : Nat) : Int) * 10 + ((n % 10 : Nat) : Int) = (n : Int) := by omega
      rw [this]
theorem rc_num {p x : Int} {fst : Bool} {qs : List Int} (h0 : -1 ≤ x) (h1 : x ≤ 65535) : ∃ f', rcAll (rcAt p fst (qs ++ [-1])) (num x) = rcAt p f' (qs ++ [x]) := by
  unfold num
  split
  · rename_i e
    subst e
    exact ⟨fst, rfl⟩
  · have := rc_dec (p := p) (qs := qs) x.toNat fst (by omega)
    rw [show (x.toNat : Int) = x by omega] at this
    exact ⟨false, this⟩
theorem rc_joined {p : Int} : ∀ (l : List Int) (y : Int) (fst : Bool) (qs : List Int), (∀ x ∈ y :: l, -1 ≤ x ∧ x ≤ 65535) → ∃ f', rcAll (rcAt p fst (qs ++ [-1])) (joined (y :: l)) = rcAt p f' (qs ++ y :: l)
  | [], y, fst, qs, hn => rc_num (hn y (by simp)).1 (hn y (by simp)).2
  | z :: l, y, fst, qs, hn => by
    obtain ⟨f1, e1⟩ := rc_num (p := p) (fst := fst) (qs := qs) (hn y (by simp)).1 (hn y (by simp)).2
    obtain ⟨f2, e2⟩ := rc_joined (p := p) l z false (qs ++ [y]) (fun x hx => hn x (by simp only [List.mem_cons] at hx ⊢; exact .inr hx))
    refine ⟨f2, ?_⟩
    rw [joined, rcAll_app, e1]
    show rcAll (rcStep (rcAt p f1 (qs ++ [y])) 59) (joined (z :: l)) = _
    rw [rc_semi, e2]
    simp
/-- the parameters that a CSI without any bears there -/
def orNone (ps : List Int) : List Int := if ps = [] then [-1] else ps
theorem rc_params {p : Int} {fst : Bool} (ps : List Int) (hn : ∀ x ∈ ps, -1 ≤ x ∧ x ≤ 65535) : ∃ f', rcAll (rcAt p fst [-1]) (joined ps) = rcAt p f' (orNone ps) := by
  rcases ps with _ | ⟨y, l⟩
  · exact ⟨fst, rfl⟩
  · obtain ⟨f', e⟩ := rc_joined (p := p) l y fst [] hn
    exact ⟨f', e⟩
/-- all bytes of what Print prints of a right CSI, but its letter -/
theorem rc_right {p i : Int} {ps : List Int} (hp : okPriv p) (hi : okInter i) (hn : ∀ x ∈ ps, -1 ≤ x ∧ x ≤ 65535) : ∃ s : RC, rcAll rc0 (some0 p ++ joined ps ++ some0 i) = s ∧ s.priv = p ∧ s.inter = i ∧ s.many < 2 ∧ s.right = true ∧ s.params = orNone ps := by
  have head : ∃ f', rcAll rc0 (some0 p) = rcAt p f' [-1] := by
    unfold some0
    split
    · rename_i e
      subst e
      exact ⟨true, rfl⟩
    · rename_i e
      have hp' : 60 ≤ p ∧ p ≤ 63 := hp.resolve_left e
      refine ⟨false, ?_⟩
      show rcStep rc0 p = _
      unfold rcStep rc0
      simp only []
      rw [if_neg (by omega), if_neg (by omega), if_pos (by omega)]
      rfl
  obtain ⟨f1, e1⟩ := head
  obtain ⟨f2, e2⟩ := rc_params (p := p) (fst := f1) ps hn
  rw [rcAll_app, rcAll_app, e1, e2]
  unfold some0
  split
  · rename_i e
    subst e
    exact ⟨_, rfl, rfl, rfl, by show 0 < 2; omega, rfl, rfl⟩
  · rename_i e
    have hi' : 32 ≤ i ∧ i ≤ 47 := hi.resolve_left e
    refine ⟨_, rfl, ?_⟩
    show (rcStep (rcAt p f2 (orNone ps)) i).priv = p ∧ (rcStep (rcAt p f2 (orNone ps)) i).inter = i ∧ (rcStep (rcAt p f2 (orNone ps)) i).many < 2 ∧ (rcStep (rcAt p f2 (orNone ps)) i).right = true ∧ (rcStep (rcAt p f2 (orNone ps)) i).params = orNone ps
    unfold rcStep
    rw [if_pos (by omega)]
    exact ⟨rfl, rfl, by show 0 + 1 < 2; omega, rfl, rfl⟩
/-- the parameters that it gives the event -/
theorem orNone_back {ps : List Int} (hl : ps.length ≤ 16) (h : ps ≠ [-1]) : (if 1 < (orNone ps).length ∨ (orNone ps).getD 0 0 ≠ -1 then (orNone ps).take 16 else []) = ps := by
  unfold orNone
  split
  · rename_i e
    subst e
    rfl
  · rename_i e
    rw [if_pos, List.take_of_length_le hl]
    rcases ps with _ | ⟨x, _ | ⟨y, l⟩⟩
    · exact absurd rfl e
    · exact .inr (fun hx => h (by simp at hx; rw [hx]))
    · exact .inl (by simp)
/-- the bytes between ESC [ and the letter are of 32 to 63 -/
theorem body_bd {p i : Int} {ps : List Int} (hp : okPriv p) (hi : okInter i) (hn : ∀ x ∈ ps, -1 ≤ x ∧ x ≤ 65535) : ∀ x ∈ some0 p ++ joined ps ++ some0 i, 32 ≤ x ∧ x < 64 := by
  have hs : ∀ q : Int, (q = 0 ∨ (32 ≤ q ∧ q ≤ 63)) → ∀ x ∈ some0 q, 32 ≤ x ∧ x < 64 := fun q hq x hx => by
    unfold some0 at hx
    split at hx
    · cases hx
    · simp at hx; omega
  have hd : ∀ (k n : Nat), ∀ x ∈ dec10F k n, n < 10 ^ (k + 1) → 32 ≤ x ∧ x < 64 := fun k n x hx hn => by
    have := dec10F_u8 k n hn x hx
    omega
  have hnum : ∀ y : Int, -1 ≤ y → y ≤ 65535 → ∀ x ∈ num y, 32 ≤ x ∧ x < 64 := fun y h0 h1 x hx => by
    unfold num at hx
    split at hx
    · cases hx
    · exact hd 20 y.toNat x hx (Nat.lt_of_le_of_lt (show y.toNat ≤ 65535 by omega) (by decide))
  have hj : ∀ l : List Int, (∀ y ∈ l, -1 ≤ y ∧ y ≤ 65535) → ∀ x ∈ joined l, 32 ≤ x ∧ x < 64 := by
    intro l
    induction l with
    | nil => intro _ x hx; cases hx
    | cons y l ih =>
      intro h x hx
      rcases l with _ | ⟨z, l⟩
      · exact hnum y (h y (by simp)).1 (h y (by simp)).2 x hx
      · rw [joined] at hx
        rcases List.mem_append.1 hx with hx | hx
        · exact hnum y (h y (by simp)).1 (h y (by simp)).2 x hx
        · rcases List.mem_cons.1 hx with rfl | hx
          · omega
          · exact ih (fun w hw => h w (by simp only [List.mem_cons] at hw ⊢; exact .inr hw)) x hx
  intro x hx
  simp only [List.mem_append] at hx
  rcases hx with (hx | hx) | hx
  · exact hs p (by unfold okPriv at hp; omega) x hx
  · exact hj ps hn x hx
  · exact hs i (by unfold okInter at hi; omega) x hx
end Go.Proofs.YtnnjppgmadmmaaaDoor.PA
