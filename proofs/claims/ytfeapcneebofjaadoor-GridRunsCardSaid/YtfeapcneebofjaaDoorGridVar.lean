/- A variable that holds a grid: what a region that draws its order leaves of it. -/
import Derived.Test.YtfeapcneebofjaaDoorGridUse
import Derived.Test.YtfeapcneebofjaaDoorCases
set_option maxRecDepth 100000
namespace Go.Proofs.YtfeapcneebofjaaDoor
open Go.RowKit
set_option linter.unusedVariables false
/-- the block g holds a grid, its cells in a row -/
def GBox (w : World) (G : PG.Gr) (g : Nat) : Prop := ∃ s, Box w g 26 #[.int .i64 G.rows, .int .i64 G.cols, s] ∧ IsG w G (gv G.rows G.cols s)
theorem GBox.low {w w' : World} {G : PG.Gr} {g : Nat} (h : GBox w G g) (b : Below w.heap.size w w') : GBox w' G g := by
  obtain ⟨s, h1, h2⟩ := h
  exact ⟨s, h1.below b h1.lt, h2.low b⟩
/-- none of these blocks is a row of cells -/
def NoRow (w : World) (S : List (Option Nat)) : Prop := ∀ x, some x ∈ S → ∃ T cs, Box w x T cs ∧ T ≠ 32
theorem IsG.keptS {w w' : World} {G : PG.Gr} {v : Value} {S : List (Option Nat)} (h : IsG w G v) (hS : NoRow w S) (k : Kept S w w') : IsG w' G v := by
  obtain ⟨s, h1, h2⟩ := h
  exact ⟨s, h1, own_kept h2 k (fun b hb hm => by
    obtain ⟨T, cs, hx, hT⟩ := hS b (hb ▸ hm)
    exact own_ne_box h2 hx (Ne.symm hT) hb)⟩
theorem GBox.keptS {w w' : World} {G : PG.Gr} {g : Nat} {S : List (Option Nat)} (h : GBox w G g) (hS : NoRow w S) (k : Kept S w w') (hn : some g ∉ S) : GBox w' G g := by
  obtain ⟨s, h1, h2⟩ := h
  exact ⟨s, h1.kept k hn, h2.keptS hS k⟩
/-- whatever -/
def PG.dflt : PG.Gr := PG.newG 1 1 PG.plain
def GVar (B : Nat) (G : PG.Gr) (v : Value) (w : World) : Prop := ∃ g, v = .pointer (some ⟨g, 0, none⟩) ∧ B ≤ g ∧ GBox w G g
theorem gv_inj {R K : Nat} {s x y z : Value} (h : gv R K s = .agg #[x, y, z]) : x = .int .i64 R ∧ y = .int .i64 K ∧ z = s := by
  unfold gv at h
  injection h with h
  injection h with h
  injection h with h1 h
  injection h with h2 h
  injection h with h3 h
  exact ⟨h1.symm, h2.symm, h3.symm⟩
theorem GBox.open_ {w : World} {G : PG.Gr} {g R K : Nat} (h : GBox w G g) (hR : G.rows = R) (hK : G.cols = K) : ∃ A c, Box w g 26 #[.int .i64 R, .int .i64 K, .slice A (R * K) c] ∧ SeenC w w.heap.size A (R * K) (PG.cells G) ∧ R * K ≤ c ∧ c ≤ maxLen ∧ IsG w G (gv R K (.slice A (R * K) c)) := by
  subst hR hK
  obtain ⟨s, h1, h2⟩ := h
  obtain ⟨A, c, hs, h3, h4, h5⟩ := h2.open_
  obtain ⟨-, -, rfl⟩ := gv_inj hs
  exact ⟨A, c, h1, h3, h4, h5, h2⟩
section
variable {ops : Array Oper} {S : List (Option Nat)} {w0 w : World} {olds : Nat → Array Value} {sh : Shape} {vals : Nat → Value} {grs : Nat → PG.Gr} {gs : Nat → Nat} {L : Nat → Bool} {u : Nat → Value}
theorem RJ.var (h : RJ ops S w0 olds sh vals grs gs L u w) (hall : ∀ j, j < ops.size → L j = true) (j : Nat) (hl : j < ops.size) (hk : skd sh j = 3) (h2 : skd sh (sba sh j) = 2) (hb : sba sh j < ops.size) (h1 : skd sh (sva sh j) = 1) (hv : sva sh j < ops.size) (hT : sty sh j = 26) : GVar w0.heap.size (grs (sva sh j)) (u (sba sh j)) w := by
  obtain ⟨g, x, y, z, k1, k2, k3⟩ := (h.all j hl (hall j hl)).2.2.2.1 hk
  have hg := h.gridOf hv (hall _ hv) h1
  obtain ⟨g', cs, e1, e2, _⟩ := h.boxOf hb (hall _ hb) h2
  obtain ⟨s, m1, m2⟩ := hg
  rw [k1] at e1
  cases e1
  rw [m1] at k2
  obtain ⟨rfl, rfl, rfl⟩ := gv_inj k2
  rw [hT] at k3
  exact ⟨g, k1, e2, z, k3, z, rfl, m2⟩
theorem RJ.var4 (h : RJ ops S w0 olds sh vals grs gs L u w) (hall : ∀ j, j < ops.size → L j = true) (j : Nat) (hl : j < ops.size) (hk : skd sh j = 4) (h1 : skd sh (sva sh j) = 1) (hv : sva sh j < ops.size) (hT : sty sh j = 26) : GBox w (grs (sva sh j)) (gs j) := by
  obtain ⟨x, y, z, k2, k3⟩ := (h.all j hl (hall j hl)).2.2.2.2 hk
  have hg := h.gridOf hv (hall _ hv) h1
  obtain ⟨s, m1, m2⟩ := hg
  rw [m1] at k2
  obtain ⟨rfl, rfl, rfl⟩ := gv_inj k2
  rw [hT] at k3
  exact ⟨z, k3, z, rfl, m2⟩
end
theorem Spans.keptS {w w' : World} {S : List (Option Nat)} (h : Spans w) (k : Kept S w w') (hn : some 0 ∉ S) : Spans w' := by
  obtain ⟨t, h1⟩ := h
  exact ⟨t, (k.block _ (Array.getElem?_eq_some_iff.1 h1).1 hn).trans h1⟩
theorem wp_region_rj {P : Program} {Q : Exit → Act → World → Prop} {ops : Array Oper} {id n : Nat} {a0 : Act} {w0 : World} (S : List (Option Nat)) (olds : Nat → Array Value) (sh : Shape) (vals : Nat → Value) (grs : Nat → PG.Gr) (gs : Nat → Nat)
    (hm : P.follows .mixedOrders = true) (hd : depsOk ops = true) (hs : slotsOk ops n = true) (hn : a0.tmps.size = n) (hsh : okShape sh ops = true)
    (hin : ∀ j, skd sh j = 4 → some (gs j) ∈ S ∧ (olds j).size = 3 ∧ Box w0 (gs j) (sty sh j) (olds j)) (hne : ∀ i j, skd sh i = 4 → skd sh j = 4 → i ≠ j → gs i ≠ gs j)
    (hstep : RS ops S w0 olds sh gs → ∀ i, i < ops.size → ∀ L a w, L i = false → SameBut ops a0 a → a.tmps.size = n → RJ ops S w0 olds sh vals grs gs L (fun j => valOf ops j a) w → (∀ o, ops[i]? = some o → ∀ e ∈ o.after, Region.binds .any e = true → L e.on = true) → Closed ops L →
      Step P ops Q (RJ ops S w0 olds sh vals grs gs) L a w i)
    (hdone : ∀ L a w, SameBut ops a0 a → a.tmps.size = n → RJ ops S w0 olds sh vals grs gs L (fun j => valOf ops j a) w → (∀ j, j < ops.size → L j = true) → Q .normal a w) : (Code.region id ops true).wp P Q a0 w0 := by
  have hRS : RS ops S w0 olds sh gs := ⟨hsh, fun j hk => ⟨(hin j hk).1, (hin j hk).2.2.lt, (hin j hk).2.1⟩, hne⟩
  exact wp_region_vals (RJ ops S w0 olds sh vals grs gs) hm hd hs hn (fun L u u' w h hj => hj.same hRS h) (hstep hRS) hdone (RJ.start (fun j hk => (hin j hk).2.2) _)
/-- no store into what was there -/
theorem no4 {p : Nat → Prop} {sh : Shape} (h : sh.all (fun x => x.1 != 4) = true) : ∀ j, skd sh j = 4 → p j := fun j hj => by
  exfalso
  unfold skd at hj
  rw [List.getD_eq_getElem?_getD] at hj
  rcases Nat.lt_or_ge j sh.length with hl | hl
  · rw [List.getElem?_eq_getElem hl] at hj
    have := List.all_eq_true.1 h _ (List.getElem_mem hl)
    simp only [Option.getD_some] at hj
    simp [hj] at this
  · rw [List.getElem?_eq_none hl] at hj
    cases hj
end Go.Proofs.YtfeapcneebofjaaDoor
