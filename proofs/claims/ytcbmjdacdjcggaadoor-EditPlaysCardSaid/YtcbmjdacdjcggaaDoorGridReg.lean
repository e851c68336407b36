/- A region that draws its order, of loads, calls that make grids, new boxes and stores into boxes: one relation, kept by each operation. Names no function of a program but the types. -/
import Derived.Test.YtcbmjdacdjcggaaDoorAnyOrder
import Derived.Test.YtcbmjdacdjcggaaDoorGridRefNew
set_option maxRecDepth 100000
namespace Go.Proofs.YtcbmjdacdjcggaaDoor
open Go.RowKit
set_option linter.unusedVariables false
/-- a grid by value, its cells in a row -/
def IsG (w : World) (G : PG.Gr) (v : Value) : Prop := ∃ s, v = gv G.rows G.cols s ∧ w.ownsRow 0 45 5 s (G.rows * G.cols) (ccells (PG.cells G))
theorem IsG.low {w w' : World} {G : PG.Gr} {v : Value} (h : IsG w G v) (b : Below w.heap.size w w') : IsG w' G v := by
  obtain ⟨s, h1, h2⟩ := h
  exact ⟨s, h1, own_low h2 b⟩
theorem IsG.kept {w w' : World} {G : PG.Gr} {v : Value} {g : Nat} {T : TypeId} {cs : Array Value} (h : IsG w G v) (hb : Box w g T cs) (hT : T ≠ 45) (k : Kept [some g] w w') : IsG w' G v := by
  obtain ⟨s, h1, h2⟩ := h
  exact ⟨s, h1, own_kept h2 k (fun b hb' hm => own_ne_box h2 hb (Ne.symm hT) (by simp at hm; rw [hb', hm]))⟩
/-- a struct of three cells stored over a box -/
def set3 (w : World) (g : Nat) (x y z : Value) : World := ((w.setCell ⟨g, 0, none⟩ x).setCell ⟨g, 1, none⟩ y).setCell ⟨g, 2, none⟩ z
theorem three_of {cs : Array Value} (hs : cs.size = 3) : ∃ x y z, cs = #[x, y, z] := by
  obtain ⟨l⟩ := cs
  rcases l with _ | ⟨x, _ | ⟨y, _ | ⟨z, _ | ⟨u, l⟩⟩⟩⟩ <;> simp at hs
  exact ⟨x, y, z, rfl⟩
theorem set3_box {w : World} {g : Nat} {T : TypeId} {cs : Array Value} (h : Box w g T cs) (hs : cs.size = 3) (x y z : Value) : Box (set3 w g x y z) g T #[x, y, z] := by
  obtain ⟨a, b, c, rfl⟩ := three_of hs
  exact h.set3 x y z
theorem set3_far {w : World} {g g' : Nat} {T : TypeId} {cs : Array Value} (h : Box w g T cs) (hne : g ≠ g') (x y z : Value) : Box (set3 w g' x y z) g T cs := h.far3 hne x y z
theorem set3_kept (w : World) (g : Nat) (x y z : Value) : Kept [some g] w (set3 w g x y z) :=
  (((Kept.refl _ w).setCell (p := ⟨g, 0, none⟩) (From.mem (by simp)) _).setCell (p := ⟨g, 1, none⟩) (From.mem (by simp)) _).setCell (p := ⟨g, 2, none⟩) (From.mem (by simp)) _
/-- the shape of a region: of each operation its kind (0 a value that is known, 1 a grid, 2 a new box, 3 a store into a new box, 4 a store into an old one), whose box, whose value, the box's type -/
abbrev Shape := List (Nat × Nat × Nat × Nat)
def skd (sh : Shape) (j : Nat) : Nat := (sh.getD j (0, 0, 0, 0)).1
def sba (sh : Shape) (j : Nat) : Nat := (sh.getD j (0, 0, 0, 0)).2.1
def sva (sh : Shape) (j : Nat) : Nat := (sh.getD j (0, 0, 0, 0)).2.2.1
def sty (sh : Shape) (j : Nat) : Nat := (sh.getD j (0, 0, 0, 0)).2.2.2
def depIn (ops : Array Oper) (i j : Nat) : Bool := ((ops[i]?).map fun o => o.after.any fun e => Region.binds .any e && e.on == j).getD false
def okShape (sh : Shape) (ops : Array Oper) : Bool := sh.length == ops.size && (List.range ops.size).all fun j =>
  (!(skd sh j == 3) || (depIn ops j (sba sh j) && depIn ops j (sva sh j) && skd sh (sba sh j) == 2 && sty sh (sba sh j) == sty sh j && sty sh j != 45 && Nat.blt (sva sh j) ops.size && (List.range j).all fun i => !(skd sh i == 3 && sba sh i == sba sh j))) &&
  (!(skd sh j == 4) || (depIn ops j (sva sh j) && sty sh j != 45 && Nat.blt (sva sh j) ops.size))
def Holds (w0 : World) (sh : Shape) (vals : Nat → Value) (grs : Nat → PG.Gr) (gs : Nat → Nat) (j : Nat) (u : Nat → Value) (w : World) : Prop :=
  (skd sh j = 0 → u j = vals j) ∧
  (skd sh j = 1 → IsG w (grs j) (u j)) ∧
  (skd sh j = 2 → ∃ g cs, u j = .pointer (some ⟨g, 0, none⟩) ∧ w0.heap.size ≤ g ∧ Box w g (sty sh j) cs ∧ cs.size = 3) ∧
  (skd sh j = 3 → ∃ g x y z, u (sba sh j) = .pointer (some ⟨g, 0, none⟩) ∧ u (sva sh j) = .agg #[x, y, z] ∧ Box w g (sty sh j) #[x, y, z]) ∧
  (skd sh j = 4 → ∃ x y z, u (sva sh j) = .agg #[x, y, z] ∧ Box w (gs j) (sty sh j) #[x, y, z])
structure RJ (ops : Array Oper) (S : List (Option Nat)) (w0 : World) (olds : Nat → Array Value) (sh : Shape) (vals : Nat → Value) (grs : Nat → PG.Gr) (gs : Nat → Nat) (L : Nat → Bool) (u : Nat → Value) (w : World) : Prop where
  kept : Kept S w0 w
  old : ∀ j, skd sh j = 4 → L j = false → Box w (gs j) (sty sh j) (olds j)
  dist : ∀ i j, skd sh i = 2 → skd sh j = 2 → L i = true → L j = true → i ≠ j → u i ≠ u j
  all : ∀ j, j < ops.size → L j = true → Holds w0 sh vals grs gs j u w
/-- what is known of the region whatever its order -/
structure RS (ops : Array Oper) (S : List (Option Nat)) (w0 : World) (olds : Nat → Array Value) (sh : Shape) (gs : Nat → Nat) : Prop where
  shape : okShape sh ops = true
  inS : ∀ j, skd sh j = 4 → some (gs j) ∈ S ∧ gs j < w0.heap.size ∧ (olds j).size = 3
  ne4 : ∀ i j, skd sh i = 4 → skd sh j = 4 → i ≠ j → gs i ≠ gs j
section
variable {ops : Array Oper} {S : List (Option Nat)} {w0 : World} {olds : Nat → Array Value} {sh : Shape} {vals : Nat → Value} {grs : Nat → PG.Gr} {gs : Nat → Nat}
theorem skd_lt (hs : RS ops S w0 olds sh gs) {j : Nat} (h : skd sh j ≠ 0) : j < ops.size := by
  have hl := hs.shape
  unfold okShape at hl
  simp only [Bool.and_eq_true, beq_iff_eq] at hl
  rcases Nat.lt_or_ge j ops.size with h1 | h1
  · exact h1
  · exfalso
    apply h
    unfold skd
    rw [List.getD_eq_getElem?_getD, List.getElem?_eq_none (by omega)]
    rfl
theorem shape3 (hs : RS ops S w0 olds sh gs) {j : Nat} (h : skd sh j = 3) : depIn ops j (sba sh j) = true ∧ depIn ops j (sva sh j) = true ∧ skd sh (sba sh j) = 2 ∧ sty sh (sba sh j) = sty sh j ∧ sty sh j ≠ 45 ∧ sva sh j < ops.size ∧ ∀ i, i < j → skd sh i = 3 → sba sh i ≠ sba sh j := by
  have hj := skd_lt hs (j := j) (by omega)
  have hl := hs.shape
  unfold okShape at hl
  simp only [Bool.and_eq_true] at hl
  have := List.all_eq_true.1 hl.2 j (by simpa using hj)
  simp only [Bool.and_eq_true, Bool.or_eq_true, Bool.not_eq_true', beq_eq_false_iff_ne, beq_iff_eq, bne_iff_ne, ne_eq, Nat.blt_eq] at this
  rcases this.1 with h1 | ⟨⟨⟨⟨⟨⟨h1, h2⟩, h3⟩, h4⟩, h5⟩, h7⟩, h6⟩
  · exact absurd h h1
  · refine ⟨h1, h2, h3, h4, h5, h7, fun i hi hk e => ?_⟩
    have := List.all_eq_true.1 h6 i (by simpa using hi)
    simp [hk, e] at this
theorem shape4 (hs : RS ops S w0 olds sh gs) {j : Nat} (h : skd sh j = 4) : depIn ops j (sva sh j) = true ∧ sty sh j ≠ 45 ∧ sva sh j < ops.size := by
  have hj := skd_lt hs (j := j) (by omega)
  have hl := hs.shape
  unfold okShape at hl
  simp only [Bool.and_eq_true] at hl
  have := List.all_eq_true.1 hl.2 j (by simpa using hj)
  simp only [Bool.and_eq_true, Bool.or_eq_true, Bool.not_eq_true', beq_eq_false_iff_ne, beq_iff_eq, bne_iff_ne, ne_eq, Nat.blt_eq] at this
  rcases this.2 with h1 | ⟨⟨h1, h2⟩, h3⟩
  · exact absurd h h1
  · exact ⟨h1, h2, h3⟩
theorem came {L : Nat → Bool} (hcl : Closed ops L) {i j : Nat} (h : L i = true) (hd : depIn ops i j = true) : L j = true := by
  refine dep_of (ops := ops) (i := i) (fun o ho e he hb => hcl i h o ho e he hb) j hd
variable {L : Nat → Bool} {u : Nat → Value} {w w' : World}
theorem RJ.same {u' : Nat → Value} (hs : RS ops S w0 olds sh gs) (h : RJ ops S w0 olds sh vals grs gs L u w) (he : ∀ j, j < ops.size → u j = u' j) : RJ ops S w0 olds sh vals grs gs L u' w := by
  refine ⟨h.kept, h.old, fun i j hi hj li lj hne => by rw [← he i (skd_lt hs (by omega)), ← he j (skd_lt hs (by omega))]; exact h.dist i j hi hj li lj hne, fun j hl hj => ?_⟩
  obtain ⟨a, b, c, d, e⟩ := h.all j hl hj
  refine ⟨fun k => by rw [← he j hl]; exact a k, fun k => by rw [← he j hl]; exact b k, fun k => by rw [← he j hl]; exact c k, fun k => ?_, fun k => ?_⟩
  · obtain ⟨_, _, s3, _, _, s6, _⟩ := shape3 hs k
    rw [← he _ (skd_lt hs (j := sba sh j) (by omega)), ← he _ s6]
    exact d k
  · rw [← he _ (shape4 hs k).2.2]
    exact e k
/-- one that comes up, and leaves all that was there -/
theorem RJ.low (hs : RS ops S w0 olds sh gs) (h : RJ ops S w0 olds sh vals grs gs L u w) (hcl : Closed ops L) {i : Nat} (hL : L i = false) (b : Below w.heap.size w w') (v : Value) (hk4 : skd sh i ≠ 4)
    (hd2 : skd sh i = 2 → ∀ j, skd sh j = 2 → L j = true → u j ≠ v) (hi : Holds w0 sh vals grs gs i (upd u i v) w') : RJ ops S w0 olds sh vals grs gs (mark L i) (upd u i v) w' := by
  have hu : ∀ j, L j = true → upd u i v j = u j := fun j hj => upd_at (fun e => by rw [e, hL] at hj; cases hj)
  have hm : ∀ j, mark L i j = true → j = i ∨ L j = true := fun j hj => by
    by_cases e : j = i
    · exact .inl e
    · rw [mark_at e] at hj; exact .inr hj
  refine ⟨h.kept.below b, fun j hk hj => ?_, fun a c ha hc la lc hne => ?_, fun j hl hj => ?_⟩
  · have hj' : L j = false := by
      by_cases e : j = i
      · rw [e, mark_self] at hj; cases hj
      · rwa [mark_at e] at hj
    have hb := h.old j hk hj'
    exact hb.below b hb.lt
  · rcases hm a la with rfl | la'
    · rcases hm c lc with rfl | lc'
      · exact absurd rfl hne
      · rw [upd_self, hu c lc']
        exact fun e => hd2 ha c hc lc' e.symm
    · rcases hm c lc with rfl | lc'
      · rw [upd_self, hu a la']
        exact hd2 hc a ha la'
      · rw [hu a la', hu c lc']
        exact h.dist a c ha hc la' lc' hne
  · rcases hm j hj with rfl | hj'
    · exact hi
    · obtain ⟨a, c, d, e, f⟩ := h.all j hl hj'
      refine ⟨fun k => by rw [hu j hj']; exact a k, fun k => by rw [hu j hj']; exact (c k).low b, fun k => ?_, fun k => ?_, fun k => ?_⟩
      · obtain ⟨g, cs, k1, k2, k3, k4⟩ := d k
        exact ⟨g, cs, by rw [hu j hj']; exact k1, k2, k3.below b k3.lt, k4⟩
      · obtain ⟨g, x, y, z, k1, k2, k3⟩ := e k
        obtain ⟨s1, s2, _⟩ := shape3 hs k
        exact ⟨g, x, y, z, by rw [hu _ (came hcl hj' s1)]; exact k1, by rw [hu _ (came hcl hj' s2)]; exact k2, k3.below b k3.lt⟩
      · obtain ⟨x, y, z, k1, k2⟩ := f k
        exact ⟨x, y, z, by rw [hu _ (came hcl hj' (shape4 hs k).1)]; exact k1, k2.below b k2.lt⟩
/-- a value that is known -/
theorem RJ.val (hs : RS ops S w0 olds sh gs) (h : RJ ops S w0 olds sh vals grs gs L u w) (hcl : Closed ops L) {i : Nat} (hL : L i = false) (hk : skd sh i = 0) (b : Below w.heap.size w w') (v : Value) (hv : vals i = v) : RJ ops S w0 olds sh vals grs gs (mark L i) (upd u i v) w' :=
  h.low hs hcl hL b v (by omega) (fun e => by omega) ⟨fun _ => by rw [upd_self, hv], fun e => by omega, fun e => by omega, fun e => by omega, fun e => by omega⟩
theorem RJ.grid (hs : RS ops S w0 olds sh gs) (h : RJ ops S w0 olds sh vals grs gs L u w) (hcl : Closed ops L) {i : Nat} (hL : L i = false) (hk : skd sh i = 1) (b : Below w.heap.size w w') (v : Value) (hv : IsG w' (grs i) v) : RJ ops S w0 olds sh vals grs gs (mark L i) (upd u i v) w' :=
  h.low hs hcl hL b v (by omega) (fun e => by omega) ⟨fun e => by omega, fun _ => by rw [upd_self]; exact hv, fun e => by omega, fun e => by omega, fun e => by omega⟩
theorem RJ.box (hs : RS ops S w0 olds sh gs) (h : RJ ops S w0 olds sh vals grs gs L u w) (hcl : Closed ops L) {i : Nat} (hL : L i = false) (hk : skd sh i = 2) (T : TypeId) (hT : sty sh i = T) (x y z : Value) : RJ ops S w0 olds sh vals grs gs (mark L i) (upd u i (.pointer (some ⟨w.heap.size, 0, none⟩))) (w.alloc (.cells #[x, y, z] T)) := by
  subst hT
  refine h.low hs hcl hL ((Below.refl _ _).alloc (Nat.le_refl _) _) _ (by omega) (fun _ j hj lj e => ?_) ⟨fun e => by omega, fun e => by omega, fun _ => ⟨_, _, upd_self, h.kept.size, Box.new w _ _, rfl⟩, fun e => by omega, fun e => by omega⟩
  obtain ⟨g, cs, k1, k2, k3, k4⟩ := (h.all j (skd_lt hs (by omega)) lj).2.2.1 hj
  rw [k1] at e
  cases e
  exact absurd k3.lt (Nat.lt_irrefl _)
/-- one that stores -/
theorem RJ.hit (hs : RS ops S w0 olds sh gs) (h : RJ ops S w0 olds sh vals grs gs L u w) (hcl : Closed ops L) {i g : Nat} {T : TypeId} {cs : Array Value} (hL : L i = false) (hb : Box w g T cs) (hsz : cs.size = 3) (hT : T ≠ 45) (x y z : Value) (hk : skd sh i = 3 ∨ skd sh i = 4)
    (hS : From w0 S (some g)) (h4 : ∀ j, j ≠ i → skd sh j = 4 → gs j ≠ g) (h3 : ∀ j, j ≠ i → skd sh j = 3 → L j = true → ∀ g', u (sba sh j) = .pointer (some ⟨g', 0, none⟩) → g' ≠ g) (hi : Holds w0 sh vals grs gs i (upd u i undef) (set3 w g x y z)) :
    RJ ops S w0 olds sh vals grs gs (mark L i) (upd u i undef) (set3 w g x y z) := by
  have hu : ∀ j, L j = true → upd u i undef j = u j := fun j hj => upd_at (fun e => by rw [e, hL] at hj; cases hj)
  have hm : ∀ j, mark L i j = true → j = i ∨ L j = true := fun j hj => by
    by_cases e : j = i
    · exact .inl e
    · rw [mark_at e] at hj; exact .inr hj
  have hk2 := set3_kept w g x y z
  refine ⟨h.kept.trans hk2 (by simpa using hS), fun j hk hj => ?_, fun a c ha hc la lc hne => ?_, fun j hl hj => ?_⟩
  · by_cases e : j = i
    · rw [e, mark_self] at hj; cases hj
    · rw [mark_at e] at hj
      exact set3_far (h.old j hk hj) (h4 j e hk) x y z
  · rcases hm a la with rfl | la'
    · omega
    · rcases hm c lc with rfl | lc'
      · omega
      · rw [hu a la', hu c lc']
        exact h.dist a c ha hc la' lc' hne
  · rcases hm j hj with rfl | hj'
    · exact hi
    · have hji : j ≠ i := fun e => by rw [e, hL] at hj'; cases hj'
      obtain ⟨a, c, d, e, f⟩ := h.all j hl hj'
      refine ⟨fun k => by rw [hu j hj']; exact a k, fun k => by rw [hu j hj']; exact (c k).kept hb hT hk2, fun k => ?_, fun k => ?_, fun k => ?_⟩
      · obtain ⟨g', cs', k1, k2, k3, k4⟩ := d k
        by_cases eg : g' = g
        · subst eg
          exact ⟨g', #[x, y, z], by rw [hu j hj']; exact k1, k2, set3_box k3 k4 x y z, rfl⟩
        · exact ⟨g', cs', by rw [hu j hj']; exact k1, k2, set3_far k3 eg x y z, k4⟩
      · obtain ⟨g', x', y', z', k1, k2, k3⟩ := e k
        obtain ⟨s1, s2, _⟩ := shape3 hs k
        exact ⟨g', x', y', z', by rw [hu _ (came hcl hj' s1)]; exact k1, by rw [hu _ (came hcl hj' s2)]; exact k2, set3_far k3 (h3 j hji k hj' g' k1) x y z⟩
      · obtain ⟨x', y', z', k1, k2⟩ := f k
        exact ⟨x', y', z', by rw [hu _ (came hcl hj' (shape4 hs k).1)]; exact k1, set3_far k2 (h4 j hji k) x y z⟩
theorem RJ.put (hs : RS ops S w0 olds sh gs) (h : RJ ops S w0 olds sh vals grs gs L u w) (hcl : Closed ops L) {i g : Nat} (hL : L i = false) (hk : skd sh i = 3) (la : L (sba sh i) = true) (lv : L (sva sh i) = true) (hg : u (sba sh i) = .pointer (some ⟨g, 0, none⟩)) {x y z : Value} (hv : u (sva sh i) = .agg #[x, y, z]) :
    RJ ops S w0 olds sh vals grs gs (mark L i) (upd u i undef) (set3 w g x y z) := by
  obtain ⟨s1, s2, s3, s4, s5, _, s6⟩ := shape3 hs hk
  obtain ⟨g', cs, k1, k2, k3, k4⟩ := (h.all _ (skd_lt hs (by omega)) la).2.2.1 s3
  rw [hg] at k1
  cases k1
  rw [s4] at k3
  have hna : sba sh i ≠ i := fun e => by rw [e, hL] at la; cases la
  have hnv : sva sh i ≠ i := fun e => by rw [e, hL] at lv; cases lv
  refine h.hit hs hcl hL k3 k4 s5 x y z (.inl hk) (fun b e => by cases e; exact .inr k2) (fun j _ hj e => ?_) (fun j hne hj lj g' hg' e => ?_) ⟨fun e => by omega, fun e => by omega, fun e => by omega, fun _ => ⟨g, x, y, z, by rw [upd_at hna]; exact hg, by rw [upd_at hnv]; exact hv, set3_box k3 k4 x y z⟩, fun e => by omega⟩
  · have := (hs.inS j hj).2.1
    omega
  · subst e
    obtain ⟨t1, t2, t3, t4, t5, _, t6⟩ := shape3 hs hj
    have hd : sba sh j ≠ sba sh i := by
      rcases Nat.lt_or_gt_of_ne hne with hlt | hlt
      · exact s6 j hlt hj
      · exact fun e => t6 i hlt hk e.symm
    exact h.dist _ _ t3 s3 (came hcl lj t1) la hd (hg'.trans hg.symm)
theorem RJ.set (hs : RS ops S w0 olds sh gs) (h : RJ ops S w0 olds sh vals grs gs L u w) (hcl : Closed ops L) {i : Nat} (hL : L i = false) (hk : skd sh i = 4) (lv : L (sva sh i) = true) {x y z : Value} (hv : u (sva sh i) = .agg #[x, y, z]) :
    RJ ops S w0 olds sh vals grs gs (mark L i) (upd u i undef) (set3 w (gs i) x y z) := by
  obtain ⟨s1, s2, _⟩ := shape4 hs hk
  obtain ⟨a1, a2, a3⟩ := hs.inS i hk
  have hb := h.old i hk hL
  have hnv : sva sh i ≠ i := fun e => by rw [e, hL] at lv; cases lv
  refine h.hit hs hcl hL hb a3 s2 x y z (.inr hk) (From.mem a1) (fun j hne hj => hs.ne4 j i hj hk hne) (fun j hne hj lj g' hg' e => ?_) ⟨fun e => by omega, fun e => by omega, fun e => by omega, fun e => by omega, fun _ => ⟨x, y, z, by rw [upd_at hnv]; exact hv, set3_box hb a3 x y z⟩⟩
  subst e
  obtain ⟨t1, t2, t3, _⟩ := shape3 hs hj
  obtain ⟨g, cs, k1, k2, _⟩ := (h.all _ (skd_lt hs (by omega)) (came hcl lj t1)).2.2.1 t3
  rw [hg'] at k1
  cases k1
  omega
/-- what came up -/
theorem RJ.valOf (h : RJ ops S w0 olds sh vals grs gs L u w) {j : Nat} (hl : j < ops.size) (hj : L j = true) (hk : skd sh j = 0) {v : Value} (hv : vals j = v) : u j = v := ((h.all j hl hj).1 hk).trans hv
theorem RJ.gridOf (h : RJ ops S w0 olds sh vals grs gs L u w) {j : Nat} (hl : j < ops.size) (hj : L j = true) (hk : skd sh j = 1) : IsG w (grs j) (u j) := (h.all j hl hj).2.1 hk
theorem RJ.gridAt (h : RJ ops S w0 olds sh vals grs gs L u w) {j : Nat} (hl : j < ops.size) (hj : L j = true) (hk : skd sh j = 1) : ∃ v, u j = v ∧ IsG w (grs j) v := ⟨_, rfl, h.gridOf hl hj hk⟩
theorem RJ.boxOf (h : RJ ops S w0 olds sh vals grs gs L u w) {j : Nat} (hl : j < ops.size) (hj : L j = true) (hk : skd sh j = 2) : ∃ g cs, u j = .pointer (some ⟨g, 0, none⟩) ∧ w0.heap.size ≤ g ∧ Box w g (sty sh j) cs ∧ cs.size = 3 := (h.all j hl hj).2.2.1 hk
theorem RJ.keptBox (h : RJ ops S w0 olds sh vals grs gs L u w) {g : Nat} {T : TypeId} {cs : Array Value} (hb : Box w0 g T cs) (hn : some g ∉ S) : Box w g T cs := hb.kept h.kept hn
theorem RJ.start (hb : ∀ j, skd sh j = 4 → Box w0 (gs j) (sty sh j) (olds j)) (u : Nat → Value) : RJ ops S w0 olds sh vals grs gs (fun _ => false) u { w0 with drawn := w0.drawn + 1 } :=
  ⟨(Kept.refl S w0).drew, fun j hk _ => hb j hk, (fun i j _ _ li => by cases li), (fun j _ hj => by cases hj)⟩
end
end Go.Proofs.YtcbmjdacdjcggaaDoor
