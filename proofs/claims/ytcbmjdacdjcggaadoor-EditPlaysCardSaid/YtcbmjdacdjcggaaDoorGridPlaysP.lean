/- What GridPlays asks beside: an operation of a region that is passed over; two grids stored at once; a row of cells that was copied; At wherever. -/
import Derived.Test.YtcbmjdacdjcggaaDoorGridVar
set_option maxRecDepth 100000
namespace Go.Proofs.YtcbmjdacdjcggaaDoor
open Go.RowKit
set_option linter.unusedVariables false
theorem cases44 {p : Nat → Prop} (h : p 0 ∧ p 1 ∧ p 2 ∧ p 3 ∧ p 4 ∧ p 5 ∧ p 6 ∧ p 7 ∧ p 8 ∧ p 9 ∧ p 10 ∧ p 11 ∧ p 12 ∧ p 13 ∧ p 14 ∧ p 15 ∧ p 16 ∧ p 17 ∧ p 18 ∧ p 19 ∧ p 20 ∧ p 21 ∧ p 22 ∧ p 23 ∧ p 24 ∧ p 25 ∧ p 26 ∧ p 27 ∧ p 28 ∧ p 29 ∧ p 30 ∧ p 31 ∧ p 32 ∧ p 33 ∧ p 34 ∧ p 35 ∧ p 36 ∧ p 37 ∧ p 38 ∧ p 39 ∧ p 40 ∧ p 41 ∧ p 42 ∧ p 43) : ∀ i, i < 44 → p i := by
  obtain ⟨h0, h1, h2, h3, h4, h5, h6, h7, h8, h9, h10, h11, h12, h13, h14, h15, h16, h17, h18, h19, h20, h21, h22, h23, h24, h25, h26, h27, h28, h29, h30, h31, h32, h33, h34, h35, h36, h37, h38, h39, h40, h41, h42, h43⟩ := h
  intro i hi
  match i, hi with
  | 0, _ => exact h0
  | 1, _ => exact h1
  | 2, _ => exact h2
  | 3, _ => exact h3
  | 4, _ => exact h4
  | 5, _ => exact h5
  | 6, _ => exact h6
  | 7, _ => exact h7
  | 8, _ => exact h8
  | 9, _ => exact h9
  | 10, _ => exact h10
  | 11, _ => exact h11
  | 12, _ => exact h12
  | 13, _ => exact h13
  | 14, _ => exact h14
  | 15, _ => exact h15
  | 16, _ => exact h16
  | 17, _ => exact h17
  | 18, _ => exact h18
  | 19, _ => exact h19
  | 20, _ => exact h20
  | 21, _ => exact h21
  | 22, _ => exact h22
  | 23, _ => exact h23
  | 24, _ => exact h24
  | 25, _ => exact h25
  | 26, _ => exact h26
  | 27, _ => exact h27
  | 28, _ => exact h28
  | 29, _ => exact h29
  | 30, _ => exact h30
  | 31, _ => exact h31
  | 32, _ => exact h32
  | 33, _ => exact h33
  | 34, _ => exact h34
  | 35, _ => exact h35
  | 36, _ => exact h36
  | 37, _ => exact h37
  | 38, _ => exact h38
  | 39, _ => exact h39
  | 40, _ => exact h40
  | 41, _ => exact h41
  | 42, _ => exact h42
  | 43, _ => exact h43
  | n + 44, h => exact absurd h (by omega)
section
variable {P : Program} {ops : Array Oper} {Q : Exit → Act → World → Prop} {J : (Nat → Bool) → (Nat → Value) → World → Prop} {L : Nat → Bool} {a : Act} {w : World} {i : Nat}
theorem wanted_not {o : Oper} {g : Nat} {b c : Bool} (h : o.guard = some (g, b)) (hv : valOf ops g a = .bool c) (hne : c ≠ b) : Region.wanted o (yielded ops a.tmps) = false := by
  have : yielded ops a.tmps g = some c := by
    unfold yielded
    unfold valOf at hv
    cases hd : slotOf ops g with
    | none => simp [hd] at hv; cases hv
    | some d =>
      rw [hd] at hv
      have hd' : (ops[g]?).bind (·.dst) = some d := hd
      rw [hd']
      simp only [Option.bind_some, Array.getD_eq_getD_getElem?] at hv ⊢
      cases hx : a.tmps[d]? with
      | none => rw [hx] at hv; simp at hv; cases hv
      | some x => rw [hx] at hv; simp at hv; subst hv; rfl
  simp [Region.wanted, h, this, hne]
theorem Step.pass (o : Oper) (ho : ops[i]? = some o) (hw : Region.wanted o (yielded ops a.tmps) = false) (hj : J (mark L i) (upd (fun j => valOf ops j a) i undef) w) : Step P ops Q J L a w i := by
  unfold Step wpOp
  simp only [ho, hw]
  exact ⟨o, undef, rfl, fun _ => rfl, rfl, hj⟩
end
theorem only44 {sh : Shape} {k1 k2 : Nat} (h : (List.range sh.length).all (fun j => skd sh j != 4 || (j == k1 || j == k2)) = true) : ∀ j, skd sh j = 4 → j = k1 ∨ j = k2 := fun j hj => by
  rcases Nat.lt_or_ge j sh.length with hl | hl
  · have := List.all_eq_true.1 h j (by simpa using hl)
    simpa [hj] using this
  · exfalso
    unfold skd at hj
    rw [List.getD_eq_getElem?_getD, List.getElem?_eq_none hl] at hj
    cases hj
theorem onlyL {sh : Shape} {ks : List Nat} (h : (List.range sh.length).all (fun j => skd sh j != 4 || ks.contains j) = true) : ∀ j, skd sh j = 4 → j ∈ ks := fun j hj => by
  rcases Nat.lt_or_ge j sh.length with hl | hl
  · have := List.all_eq_true.1 h j (by simpa using hl)
    simpa [hj] using this
  · exfalso
    unfold skd at hj
    rw [List.getD_eq_getElem?_getD, List.getElem?_eq_none hl] at hj
    cases hj
theorem norow2 {w : World} {g g' : Nat} {T T' : TypeId} {cs cs' : Array Value} (h : Box w g T cs) (h' : Box w g' T' cs') (hT : T ≠ 45) (hT' : T' ≠ 45) : NoRow w [some g, some g'] := fun x hx => by
  simp at hx
  rcases hx with rfl | rfl
  · exact ⟨T, cs, h, hT⟩
  · exact ⟨T', cs', h', hT'⟩
/-- a row of cells of the law's own -/
def OwnC (w : World) (l : List PG.Cl) (A : Option Addr) (n c : Nat) : Prop := w.ownsRow 0 45 5 (.slice A n c) n (ccells l)
theorem OwnC.low {w w' : World} {l : List PG.Cl} {A : Option Addr} {n c : Nat} (h : OwnC w l A n c) (b : Below w.heap.size w w') : OwnC w' l A n c := own_low h b
theorem OwnC.keptS {w w' : World} {l : List PG.Cl} {A : Option Addr} {n c : Nat} {S : List (Option Nat)} (h : OwnC w l A n c) (hS : NoRow w S) (k : Kept S w w') : OwnC w' l A n c :=
  own_kept h k (fun b hb hm => by
    obtain ⟨T, cs, hx, hT⟩ := hS b (hb ▸ hm)
    exact own_ne_box h hx (Ne.symm hT) hb)
theorem IsG.seen {w : World} {G : PG.Gr} {R K n c : Nat} {A : Option Addr} (h : IsG w G (.agg #[.int .i64 R, .int .i64 K, .slice A n c])) : SeenC w w.heap.size A n (PG.cells G) := by
  obtain ⟨s, e, ho⟩ := h
  obtain ⟨-, -, rfl⟩ := gv_inj e.symm
  have hn : (PG.cells G).length = G.rows * G.cols := PG.cells_len G
  rcases own_form' ho with ⟨A', c', e', _⟩
  injection e' with e1 e2 e3
  subst e2
  exact SeenC.of_own ho
theorem same_cellsB {w : World} {l : List PG.Cl} {A A' : Option Addr} {n c m c' : Nat} (hx : SeenC w w.heap.size A n l) (hy : SeenC w w.heap.size A' m l) (hn : n ≤ 1099511627776) :
    Calls Tryd.prog 25 #[.slice A n c, .slice A' m c'] w fun e w' => e = .returned (.bool true) ∧ Below w.heap.size w w' :=
  (same_cells l A A' _ _ n c m c' w hx hy hn).mono (by
    rintro e w' ⟨h, q, rfl⟩
    exact ⟨h, below_drewN (Below.refl _ _) q⟩)
/-- At, wherever: a cell, and whether there is one -/
theorem atI_cases (G : PG.Gr) (r c : Int) : ∃ F b, atI G r c = atv F b ∧ ((b = true ∧ ∃ i j : Nat, r = i ∧ c = j ∧ i < G.rows ∧ j < G.cols ∧ G.f i j = F) ∨ (b = false ∧ ¬ (0 ≤ r ∧ r < G.rows ∧ 0 ≤ c ∧ c < G.cols))) := by
  by_cases h : 0 ≤ r ∧ r < G.rows ∧ 0 ≤ c ∧ c < G.cols
  · exact ⟨_, _, if_pos h, .inl ⟨rfl, r.toNat, c.toNat, by omega, by omega, by omega, by omega, rfl⟩⟩
  · exact ⟨_, _, if_neg h, .inr ⟨rfl, h⟩⟩
end Go.Proofs.YtcbmjdacdjcggaaDoor
