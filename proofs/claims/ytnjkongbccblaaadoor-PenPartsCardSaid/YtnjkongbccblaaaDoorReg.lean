/- A region that draws its order, makes memory, calls functions, and stores structs of any size into boxes of its own or old ones: of each operation its kind. Names no function of a program. -/
import Derived.Test.YtnjkongbccblaaaDoorAnyOrder
set_option maxRecDepth 100000
namespace Go.Proofs.YtnjkongbccblaaaDoor
open Go.RowKit
set_option linter.unusedVariables false
/-- a box's cells written, from place i on -/
def setL (w : World) (g : Nat) : Nat → List Value → World
  | _, [] => w
  | i, v :: l => setL (w.setCell ⟨g, i, none⟩ v) g (i + 1) l
def setA (cs : Array Value) : Nat → List Value → Array Value
  | _, [] => cs
  | i, v :: l => setA (cs.setIfInBounds i v) (i + 1) l
theorem setA_all : ∀ (l : List Value) (cs : Array Value) (i : Nat), i + l.length = cs.size → setA cs i l = (cs.toList.take i ++ l).toArray
  | [], cs, i, h => by
    have : cs.toList.take i = cs.toList := List.take_of_length_le (by simp at h; simp; omega)
    rw [this, List.append_nil]
    rfl
  | v :: l, cs, i, h => by
    simp only [List.length_cons] at h
    show setA (cs.setIfInBounds i v) (i + 1) l = _
    rw [setA_all l _ (i + 1) (by rw [Array.size_setIfInBounds]; omega)]
    have hi : i < cs.toList.length := by simp; omega
    rw [Array.toList_setIfInBounds, List.take_set, List.take_succ_eq_append_getElem hi, List.set_append, if_neg (by simp; omega), List.length_take, show i - min i cs.toList.length = 0 by omega, List.set_cons_zero, List.append_assoc]
    rfl
section
variable {w : World} {g g' : Nat} {T : TypeId} {cs : Array Value}
theorem setL_boxI : ∀ (l : List Value) (w : World) (cs : Array Value) (i : Nat), Box w g T cs → Box (setL w g i l) g T (setA cs i l)
  | [], w, cs, i, h => h
  | v :: l, w, cs, i, h => setL_boxI l _ _ (i + 1) (h.set i v)
theorem setL_box {ds : Array Value} (h : Box w g T cs) (hs : cs.size = ds.size) : Box (setL w g 0 ds.toList) g T ds := by
  have := setL_boxI ds.toList w cs 0 h
  rw [setA_all _ _ _ (by simp; omega)] at this
  simpa using this
theorem setL_far (h : Box w g T cs) (hne : g ≠ g') : ∀ (i : Nat) (l : List Value), Box (setL w g' i l) g T cs := by
  intro i l
  induction l generalizing w i with
  | nil => exact h
  | cons v l ih => exact ih (h.far (p := ⟨g', i, none⟩) hne v) (i + 1)
theorem setL_kept (w : World) (g : Nat) : ∀ (i : Nat) (l : List Value), Kept [some g] w (setL w g i l) := by
  intro i l
  induction l generalizing w i with
  | nil => exact Kept.refl _ w
  | cons v l ih => exact ((Kept.refl [some g] w).setCell (p := ⟨g, i, none⟩) (From.mem (by simp)) v).trans (ih _ (i + 1)) (fun x hx => From.mem hx)
end
/-- the shape of a region: of each operation its kind (0 a value that is known, 1 a grid, 2 a new box, 3 a store into a new box, 4 a store into an old one), whose box, whose value, the box's type -/
abbrev GShape := List (Nat × Nat × Nat × Nat × Nat)
def gskd (sh : GShape) (j : Nat) : Nat := (sh.getD j (0, 0, 0, 0, 0)).1
def gsba (sh : GShape) (j : Nat) : Nat := (sh.getD j (0, 0, 0, 0, 0)).2.1
def gsva (sh : GShape) (j : Nat) : Nat := (sh.getD j (0, 0, 0, 0, 0)).2.2.1
def gsty (sh : GShape) (j : Nat) : Nat := (sh.getD j (0, 0, 0, 0, 0)).2.2.2.1
def gsz (sh : GShape) (j : Nat) : Nat := (sh.getD j (0, 0, 0, 0, 0)).2.2.2.2
/-- a type that the region stores -/
def Stored (sh : GShape) (T : TypeId) : Prop := ∃ j, (gskd sh j = 3 ∨ gskd sh j = 4) ∧ gsty sh j = T
def gdepIn (ops : Array Oper) (i j : Nat) : Bool := ((ops[i]?).map fun o => o.after.any fun e => Region.binds .any e && e.on == j).getD false
def gokShape (sh : GShape) (ops : Array Oper) : Bool := sh.length == ops.size && (List.range ops.size).all fun j =>
  (!(gskd sh j == 3) || (gdepIn ops j (gsba sh j) && gdepIn ops j (gsva sh j) && gskd sh (gsba sh j) == 2 && gsty sh (gsba sh j) == gsty sh j && gsz sh (gsba sh j) == gsz sh j && Nat.blt (gsva sh j) ops.size && (List.range j).all fun i => !(gskd sh i == 3 && gsba sh i == gsba sh j))) &&
  (!(gskd sh j == 4) || (gdepIn ops j (gsva sh j) && Nat.blt (gsva sh j) ops.size))
def GHolds (w0 : World) (sh : GShape) (vals : Nat → Value) (pr : Nat → Value → World → Prop) (gs : Nat → Nat) (j : Nat) (u : Nat → Value) (w : World) : Prop :=
  (gskd sh j = 0 → u j = vals j) ∧
  (gskd sh j = 1 → pr j (u j) w) ∧
  (gskd sh j = 2 → ∃ g cs, u j = .pointer (some ⟨g, 0, none⟩) ∧ w0.heap.size ≤ g ∧ Box w g (gsty sh j) cs ∧ cs.size = gsz sh j) ∧
  (gskd sh j = 3 → ∃ g cs, u (gsba sh j) = .pointer (some ⟨g, 0, none⟩) ∧ u (gsva sh j) = .agg cs ∧ Box w g (gsty sh j) cs) ∧
  (gskd sh j = 4 → ∃ cs, u (gsva sh j) = .agg cs ∧ Box w (gs j) (gsty sh j) cs)
structure GJ (ops : Array Oper) (S : List (Option Nat)) (w0 : World) (olds : Nat → Array Value) (sh : GShape) (vals : Nat → Value) (pr : Nat → Value → World → Prop) (gs : Nat → Nat) (L : Nat → Bool) (u : Nat → Value) (w : World) : Prop where
  kept : Kept S w0 w
  old : ∀ j, gskd sh j = 4 → L j = false → Box w (gs j) (gsty sh j) (olds j)
  dist : ∀ i j, gskd sh i = 2 → gskd sh j = 2 → L i = true → L j = true → i ≠ j → u i ≠ u j
  all : ∀ j, j < ops.size → L j = true → GHolds w0 sh vals pr gs j u w
/-- what is known of the region whatever its order -/
structure GS (ops : Array Oper) (S : List (Option Nat)) (w0 : World) (olds : Nat → Array Value) (sh : GShape) (pr : Nat → Value → World → Prop) (gs : Nat → Nat) : Prop where
  shape : gokShape sh ops = true
  inS : ∀ j, gskd sh j = 4 → some (gs j) ∈ S ∧ gs j < w0.heap.size ∧ (olds j).size = gsz sh j
  low1 : ∀ j, gskd sh j = 1 → ∀ v w w', pr j v w → Below w.heap.size w w' → pr j v w'
  kept1 : ∀ j, gskd sh j = 1 → ∀ v w w' g T cs, pr j v w → Box w g T cs → Stored sh T → Kept [some g] w w' → pr j v w'
  ne4 : ∀ i j, gskd sh i = 4 → gskd sh j = 4 → i ≠ j → gs i ≠ gs j
section
variable {ops : Array Oper} {S : List (Option Nat)} {w0 : World} {olds : Nat → Array Value} {sh : GShape} {vals : Nat → Value} {pr : Nat → Value → World → Prop} {gs : Nat → Nat}
theorem gskd_lt (hs : GS ops S w0 olds sh pr gs) {j : Nat} (h : gskd sh j ≠ 0) : j < ops.size := by
  have hl := hs.shape
  unfold gokShape at hl
  simp only [Bool.and_eq_true, beq_iff_eq] at hl
  rcases Nat.lt_or_ge j ops.size with h1 | h1
  · exact h1
  · exfalso
    apply h
    unfold gskd
    rw [List.getD_eq_getElem?_getD, List.getElem?_eq_none (by omega)]
    rfl
theorem gshape3 (hs : GS ops S w0 olds sh pr gs) {j : Nat} (h : gskd sh j = 3) : gdepIn ops j (gsba sh j) = true ∧ gdepIn ops j (gsva sh j) = true ∧ gskd sh (gsba sh j) = 2 ∧ gsty sh (gsba sh j) = gsty sh j ∧ gsz sh (gsba sh j) = gsz sh j ∧ gsva sh j < ops.size ∧ ∀ i, i < j → gskd sh i = 3 → gsba sh i ≠ gsba sh j := by
  have hj := gskd_lt hs (j := j) (by omega)
  have hl := hs.shape
  unfold gokShape at hl
  simp only [Bool.and_eq_true] at hl
  have := List.all_eq_true.1 hl.2 j (by simpa using hj)
  simp only [Bool.and_eq_true, Bool.or_eq_true, Bool.not_eq_true', beq_eq_false_iff_ne, beq_iff_eq, Nat.blt_eq] at this
  rcases this.1 with h1 | ⟨⟨⟨⟨⟨⟨h1, h2⟩, h3⟩, h4⟩, h5⟩, h7⟩, h6⟩
  · exact absurd h h1
  · refine ⟨h1, h2, h3, h4, h5, h7, fun i hi hk e => ?_⟩
    have := List.all_eq_true.1 h6 i (by simpa using hi)
    simp [hk, e] at this
theorem gshape4 (hs : GS ops S w0 olds sh pr gs) {j : Nat} (h : gskd sh j = 4) : gdepIn ops j (gsva sh j) = true ∧ gsva sh j < ops.size := by
  have hj := gskd_lt hs (j := j) (by omega)
  have hl := hs.shape
  unfold gokShape at hl
  simp only [Bool.and_eq_true] at hl
  have := List.all_eq_true.1 hl.2 j (by simpa using hj)
  simp only [Bool.and_eq_true, Bool.or_eq_true, Bool.not_eq_true', beq_eq_false_iff_ne, beq_iff_eq, Nat.blt_eq] at this
  rcases this.2 with h1 | ⟨h1, h2⟩
  · exact absurd h h1
  · exact ⟨h1, h2⟩
theorem gcame {L : Nat → Bool} (hcl : Closed ops L) {i j : Nat} (h : L i = true) (hd : gdepIn ops i j = true) : L j = true := by
  refine dep_of (ops := ops) (i := i) (fun o ho e he hb => hcl i h o ho e he hb) j hd
variable {L : Nat → Bool} {u : Nat → Value} {w w' : World}
theorem GJ.same {u' : Nat → Value} (hs : GS ops S w0 olds sh pr gs) (h : GJ ops S w0 olds sh vals pr gs L u w) (he : ∀ j, j < ops.size → u j = u' j) : GJ ops S w0 olds sh vals pr gs L u' w := by
  refine ⟨h.kept, h.old, fun i j hi hj li lj hne => by rw [← he i (gskd_lt hs (by omega)), ← he j (gskd_lt hs (by omega))]; exact h.dist i j hi hj li lj hne, fun j hl hj => ?_⟩
  obtain ⟨a, b, c, d, e⟩ := h.all j hl hj
  refine ⟨fun k => by rw [← he j hl]; exact a k, fun k => by rw [← he j hl]; exact b k, fun k => by rw [← he j hl]; exact c k, fun k => ?_, fun k => ?_⟩
  · obtain ⟨_, _, s3, _, _, s6, _⟩ := gshape3 hs k
    rw [← he _ (gskd_lt hs (j := gsba sh j) (by omega)), ← he _ s6]
    exact d k
  · rw [← he _ (gshape4 hs k).2]
    exact e k
/-- one that comes up, and leaves all that was there -/
theorem GJ.low (hs : GS ops S w0 olds sh pr gs) (h : GJ ops S w0 olds sh vals pr gs L u w) (hcl : Closed ops L) {i : Nat} (hL : L i = false) (b : Below w.heap.size w w') (v : Value) (hk4 : gskd sh i ≠ 4)
    (hd2 : gskd sh i = 2 → ∀ j, gskd sh j = 2 → L j = true → u j ≠ v) (hi : GHolds w0 sh vals pr gs i (upd u i v) w') : GJ ops S w0 olds sh vals pr gs (mark L i) (upd u i v) w' := by
  have hu : ∀ j, L j = true → upd u i v j = u j := fun j hj => upd_at (fun e => by rw [e, hL] at hj; cases hj)
  have hm : ∀ j, mark L i j = true → j = i ∨ L j = true := fun j hj => by
    by_cases e : j = i
    · exact .inl e
    · rw [mark_at e] at hj; exact .inr hj
  refine ⟨h.kept.below b, fun j hk hj => ?_, fun a c ha hc la lc hne => ?_, fun j hl hj => ?_⟩
  · have hj' : L j = false := by
      by_cases e : j = i
      · rw [e, mark_self] at hj; cases hj
      · rwa [mark_at e] at hj
    have hb := h.old j hk hj'
    exact hb.below b hb.lt
  · rcases hm a la with rfl | la'
    · rcases hm c lc with rfl | lc'
      · exact absurd rfl hne
      · rw [upd_self, hu c lc']
        exact fun e => hd2 ha c hc lc' e.symm
    · rcases hm c lc with rfl | lc'
      · rw [upd_self, hu a la']
        exact hd2 hc a ha la'
      · rw [hu a la', hu c lc']
        exact h.dist a c ha hc la' lc' hne
  · rcases hm j hj with rfl | hj'
    · exact hi
    · obtain ⟨a, c, d, e, f⟩ := h.all j hl hj'
      refine ⟨fun k => by rw [hu j hj']; exact a k, fun k => by rw [hu j hj']; exact hs.low1 j k _ _ _ (c k) b, fun k => ?_, fun k => ?_, fun k => ?_⟩
      · obtain ⟨g, cs, k1, k2, k3, k4⟩ := d k
        exact ⟨g, cs, by rw [hu j hj']; exact k1, k2, k3.below b k3.lt, k4⟩
      · obtain ⟨g, cs, k1, k2, k3⟩ := e k
        obtain ⟨s1, s2, _⟩ := gshape3 hs k
        exact ⟨g, cs, by rw [hu _ (gcame hcl hj' s1)]; exact k1, by rw [hu _ (gcame hcl hj' s2)]; exact k2, k3.below b k3.lt⟩
      · obtain ⟨cs, k1, k2⟩ := f k
        exact ⟨cs, by rw [hu _ (gcame hcl hj' (gshape4 hs k).1)]; exact k1, k2.below b k2.lt⟩
/-- a value that is known -/
theorem GJ.val (hs : GS ops S w0 olds sh pr gs) (h : GJ ops S w0 olds sh vals pr gs L u w) (hcl : Closed ops L) {i : Nat} (hL : L i = false) (hk : gskd sh i = 0) (b : Below w.heap.size w w') (v : Value) (hv : vals i = v) : GJ ops S w0 olds sh vals pr gs (mark L i) (upd u i v) w' :=
  h.low hs hcl hL b v (by omega) (fun e => by omega) ⟨fun _ => by rw [upd_self, hv], fun e => by omega, fun e => by omega, fun e => by omega, fun e => by omega⟩
theorem GJ.pred (hs : GS ops S w0 olds sh pr gs) (h : GJ ops S w0 olds sh vals pr gs L u w) (hcl : Closed ops L) {i : Nat} (hL : L i = false) (hk : gskd sh i = 1) (b : Below w.heap.size w w') (v : Value) (hv : pr i v w') : GJ ops S w0 olds sh vals pr gs (mark L i) (upd u i v) w' :=
  h.low hs hcl hL b v (by omega) (fun e => by omega) ⟨fun e => by omega, fun _ => by rw [upd_self]; exact hv, fun e => by omega, fun e => by omega, fun e => by omega⟩
theorem GJ.box (hs : GS ops S w0 olds sh pr gs) (h : GJ ops S w0 olds sh vals pr gs L u w) (hcl : Closed ops L) {i : Nat} (hL : L i = false) (hk : gskd sh i = 2) (T : TypeId) (hT : gsty sh i = T) (cs : Array Value) (hcs : cs.size = gsz sh i) : GJ ops S w0 olds sh vals pr gs (mark L i) (upd u i (.pointer (some ⟨w.heap.size, 0, none⟩))) (w.alloc (.cells cs T)) := by
  subst hT
  refine h.low hs hcl hL ((Below.refl _ _).alloc (Nat.le_refl _) _) _ (by omega) (fun _ j hj lj e => ?_) ⟨fun e => by omega, fun e => by omega, fun _ => ⟨_, _, upd_self, h.kept.size, Box.new w _ _, hcs⟩, fun e => by omega, fun e => by omega⟩
  obtain ⟨g, cs, k1, k2, k3, k4⟩ := (h.all j (gskd_lt hs (by omega)) lj).2.2.1 hj
  rw [k1] at e
  cases e
  exact absurd k3.lt (Nat.lt_irrefl _)
/-- one that stores -/
theorem GJ.hit (hs : GS ops S w0 olds sh pr gs) (h : GJ ops S w0 olds sh vals pr gs L u w) (hcl : Closed ops L) {i g : Nat} {T : TypeId} {cs : Array Value} (hL : L i = false) (hb : Box w g T cs) (hsz : cs.size = gsz sh i) (hT : gsty sh i = T) (ds : Array Value) (hds : ds.size = gsz sh i) (hk : gskd sh i = 3 ∨ gskd sh i = 4)
    (hS : From w0 S (some g)) (h4 : ∀ j, j ≠ i → gskd sh j = 4 → gs j ≠ g) (h3 : ∀ j, j ≠ i → gskd sh j = 3 → L j = true → ∀ g', u (gsba sh j) = .pointer (some ⟨g', 0, none⟩) → g' ≠ g) (hi : GHolds w0 sh vals pr gs i (upd u i undef) (setL w g 0 ds.toList)) :
    GJ ops S w0 olds sh vals pr gs (mark L i) (upd u i undef) (setL w g 0 ds.toList) := by
  have hu : ∀ j, L j = true → upd u i undef j = u j := fun j hj => upd_at (fun e => by rw [e, hL] at hj; cases hj)
  have hm : ∀ j, mark L i j = true → j = i ∨ L j = true := fun j hj => by
    by_cases e : j = i
    · exact .inl e
    · rw [mark_at e] at hj; exact .inr hj
  have hk2 := setL_kept w g 0 ds.toList
  refine ⟨h.kept.trans hk2 (by simpa using hS), fun j hk hj => ?_, fun a c ha hc la lc hne => ?_, fun j hl hj => ?_⟩
  · by_cases e : j = i
    · rw [e, mark_self] at hj; cases hj
    · rw [mark_at e] at hj
      exact setL_far (h.old j hk hj) (h4 j e hk) 0 ds.toList
  · rcases hm a la with rfl | la'
    · omega
    · rcases hm c lc with rfl | lc'
      · omega
      · rw [hu a la', hu c lc']
        exact h.dist a c ha hc la' lc' hne
  · rcases hm j hj with rfl | hj'
    · exact hi
    · have hji : j ≠ i := fun e => by rw [e, hL] at hj'; cases hj'
      obtain ⟨a, c, d, e, f⟩ := h.all j hl hj'
      refine ⟨fun k => by rw [hu j hj']; exact a k, fun k => by rw [hu j hj']; exact hs.kept1 j k _ _ _ _ _ _ (c k) hb ⟨i, hk, hT⟩ hk2, fun k => ?_, fun k => ?_, fun k => ?_⟩
      · obtain ⟨g', cs', k1, k2, k3, k4⟩ := d k
        by_cases eg : g' = g
        · subst eg
          have e2 : cs'.size = ds.size := by
            have := hb
            unfold Box at this k3
            rw [this] at k3
            simp only [Option.some.injEq, Obj.cells.injEq] at k3
            rw [← k3.1, hsz, hds]
          exact ⟨g', ds, by rw [hu j hj']; exact k1, k2, setL_box k3 e2, e2 ▸ k4⟩
        · exact ⟨g', cs', by rw [hu j hj']; exact k1, k2, setL_far k3 eg 0 ds.toList, k4⟩
      · obtain ⟨g', cs', k1, k2, k3⟩ := e k
        obtain ⟨s1, s2, _⟩ := gshape3 hs k
        exact ⟨g', cs', by rw [hu _ (gcame hcl hj' s1)]; exact k1, by rw [hu _ (gcame hcl hj' s2)]; exact k2, setL_far k3 (h3 j hji k hj' g' k1) 0 ds.toList⟩
      · obtain ⟨cs', k1, k2⟩ := f k
        exact ⟨cs', by rw [hu _ (gcame hcl hj' (gshape4 hs k).1)]; exact k1, setL_far k2 (h4 j hji k) 0 ds.toList⟩
theorem GJ.put (hs : GS ops S w0 olds sh pr gs) (h : GJ ops S w0 olds sh vals pr gs L u w) (hcl : Closed ops L) {i g : Nat} (hL : L i = false) (hk : gskd sh i = 3) (la : L (gsba sh i) = true) (lv : L (gsva sh i) = true) (hg : u (gsba sh i) = .pointer (some ⟨g, 0, none⟩)) {ds : Array Value} (hds : ds.size = gsz sh i) (hv : u (gsva sh i) = .agg ds) :
    GJ ops S w0 olds sh vals pr gs (mark L i) (upd u i undef) (setL w g 0 ds.toList) := by
  obtain ⟨s1, s2, s3, s4, s5, _, s6⟩ := gshape3 hs hk
  obtain ⟨g', cs, k1, k2, k3, k4⟩ := (h.all _ (gskd_lt hs (by omega)) la).2.2.1 s3
  rw [hg] at k1
  cases k1
  rw [s4] at k3
  have hna : gsba sh i ≠ i := fun e => by rw [e, hL] at la; cases la
  have hnv : gsva sh i ≠ i := fun e => by rw [e, hL] at lv; cases lv
  refine h.hit hs hcl hL k3 (k4.trans s5) rfl ds hds (.inl hk) (fun b e => by cases e; exact .inr k2) (fun j _ hj e => ?_) (fun j hne hj lj g' hg' e => ?_) ⟨fun e => by omega, fun e => by omega, fun e => by omega, fun _ => ⟨g, ds, by rw [upd_at hna]; exact hg, by rw [upd_at hnv]; exact hv, setL_box k3 (by rw [k4, s5, hds])⟩, fun e => by omega⟩
  · have := (hs.inS j hj).2.1
    omega
  · subst e
    obtain ⟨t1, t2, t3, t4, t5, _, t6⟩ := gshape3 hs hj
    have hd : gsba sh j ≠ gsba sh i := by
      rcases Nat.lt_or_gt_of_ne hne with hlt | hlt
      · exact s6 j hlt hj
      · exact fun e => t6 i hlt hk e.symm
    exact h.dist _ _ t3 s3 (gcame hcl lj t1) la hd (hg'.trans hg.symm)
theorem GJ.set (hs : GS ops S w0 olds sh pr gs) (h : GJ ops S w0 olds sh vals pr gs L u w) (hcl : Closed ops L) {i : Nat} (hL : L i = false) (hk : gskd sh i = 4) (lv : L (gsva sh i) = true) {ds : Array Value} (hds : ds.size = gsz sh i) (hv : u (gsva sh i) = .agg ds) :
    GJ ops S w0 olds sh vals pr gs (mark L i) (upd u i undef) (setL w (gs i) 0 ds.toList) := by
  obtain ⟨s1, _⟩ := gshape4 hs hk
  obtain ⟨a1, a2, a3⟩ := hs.inS i hk
  have hb := h.old i hk hL
  have hnv : gsva sh i ≠ i := fun e => by rw [e, hL] at lv; cases lv
  refine h.hit hs hcl hL hb a3 rfl ds hds (.inr hk) (From.mem a1) (fun j hne hj => hs.ne4 j i hj hk hne) (fun j hne hj lj g' hg' e => ?_) ⟨fun e => by omega, fun e => by omega, fun e => by omega, fun e => by omega, fun _ => ⟨ds, by rw [upd_at hnv]; exact hv, setL_box hb (by rw [a3, hds])⟩⟩
  subst e
  obtain ⟨t1, t2, t3, _⟩ := gshape3 hs hj
  obtain ⟨g, cs, k1, k2, _⟩ := (h.all _ (gskd_lt hs (by omega)) (gcame hcl lj t1)).2.2.1 t3
  rw [hg'] at k1
  cases k1
  omega
/-- what came up -/
theorem GJ.valOf (h : GJ ops S w0 olds sh vals pr gs L u w) {j : Nat} (hl : j < ops.size) (hj : L j = true) (hk : gskd sh j = 0) {v : Value} (hv : vals j = v) : u j = v := ((h.all j hl hj).1 hk).trans hv
theorem GJ.predOf (h : GJ ops S w0 olds sh vals pr gs L u w) {j : Nat} (hl : j < ops.size) (hj : L j = true) (hk : gskd sh j = 1) : pr j (u j) w := (h.all j hl hj).2.1 hk
theorem GJ.boxOf (h : GJ ops S w0 olds sh vals pr gs L u w) {j : Nat} (hl : j < ops.size) (hj : L j = true) (hk : gskd sh j = 2) : ∃ g cs, u j = .pointer (some ⟨g, 0, none⟩) ∧ w0.heap.size ≤ g ∧ Box w g (gsty sh j) cs ∧ cs.size = gsz sh j := (h.all j hl hj).2.2.1 hk
theorem GJ.keptBox (h : GJ ops S w0 olds sh vals pr gs L u w) {g : Nat} {T : TypeId} {cs : Array Value} (hb : Box w0 g T cs) (hn : some g ∉ S) : Box w g T cs := hb.kept h.kept hn
theorem GJ.start (hb : ∀ j, gskd sh j = 4 → Box w0 (gs j) (gsty sh j) (olds j)) (u : Nat → Value) : GJ ops S w0 olds sh vals pr gs (fun _ => false) u { w0 with drawn := w0.drawn + 1 } :=
  ⟨(Kept.refl S w0).drew, fun j hk _ => hb j hk, (fun i j _ _ li => by cases li), (fun j _ hj => by cases hj)⟩
end
/-- the types that a region stores -/
def tys (sh : GShape) : List TypeId := sh.filterMap fun x => if x.1 == 3 || x.1 == 4 then some x.2.2.2.1 else none
theorem stored_tys {sh : GShape} {T : TypeId} (h : Stored sh T) : T ∈ tys sh := by
  obtain ⟨j, hk, ht⟩ := h
  unfold gskd at hk
  unfold gsty at ht
  rw [List.getD_eq_getElem?_getD] at hk ht
  rcases Nat.lt_or_ge j sh.length with hl | hl
  · rw [List.getElem?_eq_getElem hl] at hk ht
    simp only [Option.getD_some] at hk ht
    unfold tys
    rw [List.mem_filterMap]
    refine ⟨sh[j], List.getElem_mem hl, ?_⟩
    rw [if_pos (by rcases hk with hk | hk <;> simp [hk]), ht]
  · rw [List.getElem?_eq_none hl] at hk
    simp at hk
/-- a predicate that stays, whatever comes up, whatever of these types is stored -/
def StaysG (Ts : List TypeId) (p : Value → World → Prop) : Prop := (∀ v w w', p v w → Below w.heap.size w w' → p v w') ∧ (∀ v w w' g T cs, p v w → Box w g T cs → T ∈ Ts → Kept [some g] w w' → p v w')
abbrev Spec := List (Option (Value → World → Prop))
def AllG (Ts : List TypeId) (sp : Spec) : Prop := ∀ j p, sp.getD j none = some p → StaysG Ts p
theorem AllG.nil (Ts : List TypeId) : AllG Ts [] := fun j p h => by simp at h
theorem AllG.none_ {Ts : List TypeId} {l : Spec} (h : AllG Ts l) : AllG Ts (none :: l)
  | 0, p, e => by simp at e
  | j + 1, p, e => h j p (by simpa using e)
theorem AllG.some_ {Ts : List TypeId} {l : Spec} {q : Value → World → Prop} (hq : StaysG Ts q) (h : AllG Ts l) : AllG Ts (some q :: l)
  | 0, p, e => by
    have : q = p := by simpa using e
    exact this ▸ hq
  | j + 1, p, e => h j p (by simpa using e)
def prOf (sp : Spec) (j : Nat) (v : Value) (w : World) : Prop := match sp.getD j none with
  | some p => p v w
  | none => True
/-- a slice that was just built: its cells are a box -/
def NewS (T : TypeId) (n : Nat) (cs : Array Value) (v : Value) (w : World) : Prop := ∃ g, v = .slice (some ⟨g, 0, none⟩) n n ∧ Box w g T cs
theorem NewS.stays {Ts : List TypeId} {T : TypeId} {n : Nat} {cs : Array Value} (h : Ts.all (fun x => x != T) = true) : StaysG Ts (NewS T n cs) :=
  ⟨fun v w w' ⟨g, h1, h2⟩ hb => ⟨g, h1, h2.below hb h2.lt⟩, fun v w w' g' T' cs' ⟨g, h1, h2⟩ hb hT hk => ⟨g, h1, h2.kept hk (fun hm => by
    have e : g = g' := by simpa using hm
    subst e
    unfold Box at h2 hb
    rw [hb] at h2
    simp only [Option.some.injEq, Obj.cells.injEq] at h2
    have := List.all_eq_true.1 h _ hT
    simp [h2.2.1] at this)⟩⟩
/-- a row of the call's own -/
def OwnR (T : TypeId) (n : Nat) (xs : List Value) (v : Value) (w : World) : Prop := w.ownsRow 0 T 1 v n xs
theorem OwnR.stays {Ts : List TypeId} {T : TypeId} {n : Nat} {xs : List Value} (h : Ts.all (fun x => x != T) = true) : StaysG Ts (OwnR T n xs) :=
  ⟨fun v w w' h1 hb => own_below h1 hb, fun v w w' g' T' cs' h1 hb hT hk => own_kept h1 hk (fun b hb' hm => own_ne_box h1 hb (fun e => by
    have := List.all_eq_true.1 h _ hT
    simp [e] at this) (by simp at hm; rw [hb', hm]))⟩
/-- a row of the call's own, written out -/
def OwnS (T : TypeId) (n : Nat) (xs : List Value) (v : Value) (w : World) : Prop := ∃ A c, v = .slice A n c ∧ w.ownsRow 0 T 1 (.slice A n c) n xs
theorem OwnS.stays {Ts : List TypeId} {T : TypeId} {n : Nat} {xs : List Value} (h : Ts.all (fun x => x != T) = true) : StaysG Ts (OwnS T n xs) :=
  ⟨fun v w w' ⟨A, c, h1, h2⟩ hb => ⟨A, c, h1, own_below h2 hb⟩, fun v w w' g' T' cs' ⟨A, c, h1, h2⟩ hb hT hk => ⟨A, c, h1, own_kept h2 hk (fun b hb' hm => own_ne_box h2 hb (fun e => by
    have := List.all_eq_true.1 h _ hT
    simp [e] at this) (by simp at hm; rw [hb', hm]))⟩⟩
/-- a pointer into a slice that was just built -/
def PtrIn (T : TypeId) (cs : Array Value) (i : Nat) (v : Value) (w : World) : Prop := ∃ g, v = .pointer (some ⟨g, i, none⟩) ∧ Box w g T cs
theorem PtrIn.stays {Ts : List TypeId} {T : TypeId} {i : Nat} {cs : Array Value} (h : Ts.all (fun x => x != T) = true) : StaysG Ts (PtrIn T cs i) := by
  have hs := NewS.stays (Ts := Ts) (T := T) (n := 0) (cs := cs) h
  refine ⟨fun v w w' ⟨g, h1, h2⟩ hb => ⟨g, h1, h2.below hb h2.lt⟩, fun v w w' g' T' cs' ⟨g, h1, h2⟩ hb hT hk => ?_⟩
  obtain ⟨g2, e, hx⟩ := hs.2 (.slice (some ⟨g, 0, none⟩) 0 0) w w' g' T' cs' ⟨g, rfl, h2⟩ hb hT hk
  cases e
  exact ⟨g, h1, hx⟩
theorem wp_region_gj {P : Program} {Q : Exit → Act → World → Prop} {ops : Array Oper} {id n : Nat} {a0 : Act} {w0 : World} (S : List (Option Nat)) (olds : Nat → Array Value) (sh : GShape) (vals : Nat → Value) (sp : Spec) (gs : Nat → Nat)
    (hm : P.follows .mixedOrders = true) (hd : depsOk ops = true) (hs : slotsOk ops n = true) (hn : a0.tmps.size = n) (hsh : gokShape sh ops = true)
    (hin : ∀ j, gskd sh j = 4 → some (gs j) ∈ S ∧ (olds j).size = gsz sh j ∧ Box w0 (gs j) (gsty sh j) (olds j)) (hne : ∀ i j, gskd sh i = 4 → gskd sh j = 4 → i ≠ j → gs i ≠ gs j) (hsp : AllG (tys sh) sp)
    (hstep : GS ops S w0 olds sh (prOf sp) gs → ∀ i, i < ops.size → ∀ L a w, L i = false → SameBut ops a0 a → a.tmps.size = n → GJ ops S w0 olds sh vals (prOf sp) gs L (fun j => valOf ops j a) w → (∀ o, ops[i]? = some o → ∀ e ∈ o.after, Region.binds .any e = true → L e.on = true) → Closed ops L →
      Step P ops Q (GJ ops S w0 olds sh vals (prOf sp) gs) L a w i)
    (hdone : ∀ (u : Nat → Value) w, GJ ops S w0 olds sh vals (prOf sp) gs (fun _ => true) u w → Q .normal (putAll ops u ops.size a0) w) : (Code.region id ops true).wp P Q a0 w0 := by
  have hGS : GS ops S w0 olds sh (prOf sp) gs := by
    refine ⟨hsh, fun j hk => ⟨(hin j hk).1, (hin j hk).2.2.lt, (hin j hk).2.1⟩, fun j _ v w w' h b => ?_, fun j _ v w w' g T cs h hb hT hk => ?_, hne⟩
    · unfold prOf at h ⊢
      cases hsj : sp.getD j none with
      | none => trivial
      | some p => rw [hsj] at h; exact (hsp j p hsj).1 v w w' h b
    · unfold prOf at h ⊢
      cases hsj : sp.getD j none with
      | none => trivial
      | some p => rw [hsj] at h; exact (hsp j p hsj).2 v w w' g T cs h hb (stored_tys hT) hk
  refine wp_region_vals (GJ ops S w0 olds sh vals (prOf sp) gs) hm hd hs hn (fun L u u' w h hj => hj.same hGS h) (hstep hGS) ?_ (GJ.start (fun j hk => (hin j hk).2.2) _)
  intro L a w hsame _ hJ hall
  obtain ⟨u, hu, ha⟩ := act_puts hsame
  rw [ha]
  refine hdone u w ⟨hJ.kept, fun j hk h => (by cases h), fun i j hi hj _ _ hne => ?_, fun j hj _ => ?_⟩
  · rw [hu i, hu j]
    exact hJ.dist i j hi hj (hall i (gskd_lt hGS (by omega))) (hall j (gskd_lt hGS (by omega))) hne
  · have h := (hJ.same hGS (u' := u) (fun j _ => (hu j).symm)).all j hj (hall j hj)
    exact h
theorem gno4 {p : Nat → Prop} {sh : GShape} (h : sh.all (fun x => x.1 != 4) = true) : ∀ j, gskd sh j = 4 → p j := fun j hj => by
  exfalso
  unfold gskd at hj
  rw [List.getD_eq_getElem?_getD] at hj
  rcases Nat.lt_or_ge j sh.length with hl | hl
  · rw [List.getElem?_eq_getElem hl] at hj
    have := List.all_eq_true.1 h _ (List.getElem_mem hl)
    simp only [Option.getD_some] at hj
    simp [hj] at this
  · rw [List.getElem?_eq_none hl] at hj
    cases hj
/-- what waits for this one has not come up -/
theorem not_cameG {ops : Array Oper} {L : Nat → Bool} (hcl : Closed ops L) {i j : Nat} (hL : L i = false) (hd : gdepIn ops j i = true) : L j = false := by
  cases h : L j with
  | false => rfl
  | true => rw [gcame hcl h hd] at hL; cases hL
theorem GJ.fin0 {ops : Array Oper} {S : List (Option Nat)} {w0 w : World} {olds : Nat → Array Value} {sh : GShape} {vals : Nat → Value} {pr : Nat → Value → World → Prop} {gs : Nat → Nat} {u : Nat → Value} (h : GJ ops S w0 olds sh vals pr gs (fun _ => true) u w) {j : Nat} (hl : j < ops.size) (hk : gskd sh j = 0) {v : Value} (hv : vals j = v) : u j = v := ((h.all j hl rfl).1 hk).trans hv
theorem GJ.fin1 {ops : Array Oper} {S : List (Option Nat)} {w0 w : World} {olds : Nat → Array Value} {sh : GShape} {vals : Nat → Value} {pr : Nat → Value → World → Prop} {gs : Nat → Nat} {u : Nat → Value} (h : GJ ops S w0 olds sh vals pr gs (fun _ => true) u w) {j : Nat} (hl : j < ops.size) (hk : gskd sh j = 1) : pr j (u j) w := (h.all j hl rfl).2.1 hk
/-- a new box that was stored -/
theorem GJ.fin3 {ops : Array Oper} {S : List (Option Nat)} {w0 w : World} {olds : Nat → Array Value} {sh : GShape} {vals : Nat → Value} {pr : Nat → Value → World → Prop} {gs : Nat → Nat} {u : Nat → Value} (h : GJ ops S w0 olds sh vals pr gs (fun _ => true) u w) {j a v : Nat} (hl : j < ops.size) (hk : gskd sh j = 3) (ha : gsba sh j = a) (hv : gsva sh j = v) (hla : a < ops.size) (hka : gskd sh a = 2) (hlv : v < ops.size) (hkv : gskd sh v = 0) {cs : Array Value} (hcs : vals v = .agg cs) :
    ∃ g, u a = .pointer (some ⟨g, 0, none⟩) ∧ w0.heap.size ≤ g ∧ Box w g (gsty sh j) cs := by
  obtain ⟨g, ds, h1, h2, h3⟩ := (h.all j hl rfl).2.2.2.1 hk
  rw [ha] at h1
  rw [hv, h.fin0 hlv hkv hcs] at h2
  cases h2
  obtain ⟨g', cs', k1, k2, _⟩ := (h.all a hla rfl).2.2.1 hka
  rw [h1] at k1
  cases k1
  exact ⟨g, h1, k2, h3⟩
/-- an old box that was stored -/
theorem GJ.fin4 {ops : Array Oper} {S : List (Option Nat)} {w0 w : World} {olds : Nat → Array Value} {sh : GShape} {vals : Nat → Value} {pr : Nat → Value → World → Prop} {gs : Nat → Nat} {u : Nat → Value} (h : GJ ops S w0 olds sh vals pr gs (fun _ => true) u w) {j v : Nat} (hl : j < ops.size) (hk : gskd sh j = 4) (hv : gsva sh j = v) (hlv : v < ops.size) (hkv : gskd sh v = 0) {cs : Array Value} (hcs : vals v = .agg cs) : Box w (gs j) (gsty sh j) cs := by
  obtain ⟨ds, h2, h3⟩ := (h.all j hl rfl).2.2.2.2 hk
  rw [hv, h.fin0 hlv hkv hcs] at h2
  cases h2
  exact h3
section
variable {P : Program} {ops : Array Oper} {Q : Exit → Act → World → Prop} {J : (Nat → Bool) → (Nat → Value) → World → Prop} {L : Nat → Bool} {a : Act} {w : World} {i : Nat}
theorem gwanted_not {o : Oper} {g : Nat} {b c : Bool} (h : o.guard = some (g, b)) (hv : valOf ops g a = .bool c) (hne : c ≠ b) : Region.wanted o (yielded ops a.tmps) = false := by
  have : yielded ops a.tmps g = some c := by
    unfold yielded
    unfold valOf at hv
    cases hd : slotOf ops g with
    | none => simp [hd] at hv; cases hv
    | some d =>
      rw [hd] at hv
      have hd' : (ops[g]?).bind (·.dst) = some d := hd
      rw [hd']
      simp only [Option.bind_some, Array.getD_eq_getD_getElem?] at hv ⊢
      cases hx : a.tmps[d]? with
      | none => rw [hx] at hv; simp at hv; cases hv
      | some x => rw [hx] at hv; simp at hv; subst hv; rfl
  simp [Region.wanted, h, this, hne]
theorem GStep.pass (o : Oper) (ho : ops[i]? = some o) (hw : Region.wanted o (yielded ops a.tmps) = false) (hj : J (mark L i) (upd (fun j => valOf ops j a) i undef) w) : Step P ops Q J L a w i := by
  unfold Step wpOp
  simp only [ho, hw]
  exact ⟨o, undef, rfl, fun _ => rfl, rfl, hj⟩
end
theorem gonly {sh : GShape} {k : Nat} (h : (List.range sh.length).all (fun j => gskd sh j != 4 || j == k) = true) : ∀ j, gskd sh j = 4 → j = k := fun j hj => by
  rcases Nat.lt_or_ge j sh.length with hl | hl
  · have := List.all_eq_true.1 h j (by simpa using hl)
    simpa [hj] using this
  · exfalso
    unfold gskd at hj
    rw [List.getD_eq_getElem?_getD, List.getElem?_eq_none hl] at hj
    cases hj
theorem gonly4 {p : Nat → Prop} {sh : GShape} {k : Nat} (h : (List.range sh.length).all (fun j => gskd sh j != 4 || j == k) = true) (hp : p k) : ∀ j, gskd sh j = 4 → p j := fun j hj => by
  rw [gonly h j hj]
  exact hp
theorem gonly44 {p : Nat → Nat → Prop} {sh : GShape} {k : Nat} (h : (List.range sh.length).all (fun j => gskd sh j != 4 || j == k) = true) : ∀ i j, gskd sh i = 4 → gskd sh j = 4 → i ≠ j → p i j := fun i j hi hj hne => absurd ((gonly h i hi).trans (gonly h j hj).symm) hne
end Go.Proofs.YtnjkongbccblaaaDoor
