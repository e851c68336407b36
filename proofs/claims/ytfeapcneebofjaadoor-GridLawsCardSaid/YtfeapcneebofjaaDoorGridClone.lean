/- The contracts of package grid's own clone, cellsOf, New. -/
import Derived.Test.YtfeapcneebofjaaDoorGridOwn
set_option maxRecDepth 100000
namespace Go.Proofs.YtfeapcneebofjaaDoor
open Go.RowKit
set_option linter.unusedVariables false
/-- a call gives a grid back, its n cells in new memory, as many as there is room for -/
def MadeG (w : World) (R K n : Nat) (l : List PG.Cl) (e : Ending) (w' : World) : Prop := ∃ g, e = .returned (gv R K (.slice (some ⟨g, 0, none⟩) n n)) ∧ w'.ownsRow w.heap.size 32 5 (.slice (some ⟨g, 0, none⟩) n n) n (ccells l) ∧ Below w.heap.size w w'
set_option maxHeartbeats 1000000 in
theorem clone_any (R K n c B : Nat) (A : Option Addr) (l : List PG.Cl) (w : World) (hl : SeenC w B A n l) (hB : B ≤ w.heap.size) (hn : n ≤ 1048576) :
    Calls Tryd.prog 27 #[gv R K (.slice A n c)] w (MadeG w R K n l) := by
  obtain ⟨i0, hi, hz0, hz1, hz2⟩ := info_parts info_cell
  have hlen := hl.len
  have hby := hide (show i0.bytes * n ≤ 281474976710656 by rw [hz2]; omega)
  have hrl := hide (show l.length = (List.replicate n PG.none).length by rw [List.length_replicate, hlen])
  clear hz2 hlen
  unfold MadeG gv
  go_enter Tryd.func27, Tryd.ntmps27
  go_wp2_with (first
    | (at_make
       go_must (refine wpList_make_full _ rfl (.tmp 6) (.tmp 6) 24 rfl w.heap.size 32 i0 _ 5 Tryd.underlying24 hi hz0 hz1 .i64 .i64 _ _ n rfl rfl (by omega) (by omega) hby.out (by simp only [maxLen]; omega) (by simp; omega) ?_)
       intro w1 hown1 hg1
       rw [made_cells, World.size_alloc, World.size_alloc] at hown1
       obtain ⟨x0, x1, bb⟩ := boxes2b (below_of_grown hg1 (Nat.le_refl _) (by simp))
       obtain ⟨y0, y1, y2, z0, z1, z2⟩ := x0.three
       have hown1 := hide hown1
       clear hg1)
    | ((with_reducible refine at_op (o := ⟨some 11, _, _, _, _, _⟩) ?_)
       go_must (refine wpList_copyC (o := ⟨some 11, _, _, _, _, _⟩) rfl (.tmp 8) (.tmp 10) 24 24 rfl 32 i0 Tryd.underlying24 hi hz1 w.heap.size 32 _ 0 0 n n n n (List.replicate n PG.none) rfl hown1.out rfl A B n c n l rfl (Nat.min_self n) (hl.below (bb.mono hB)) (by omega) ?_)
       intro w2 own2 hg2
       rw [spl_all hrl.out] at own2
       have y := x0.grown hg2 (fun e => by injection e with e; omega)
       have z := x1.grown hg2 (fun e => by injection e with e; omega)
       have bb2 := bb.grown hg2 bb.size (by rintro _ ⟨⟩; omega)
       clear y0 y1 y2 z0 z1 z2 x0 x1 hown1 hg2 bb
       obtain ⟨y0, y1, y2, z0, z1, z2⟩ := y.three
       obtain ⟨p0, p1, p2, q0, q1, q2⟩ := z.three
       have n0 := own_ne_box own2 y (by decide)
       have n1 := own_ne_box own2 z (by decide)
       have own2 := hide own2))
  have X := (z.far (p := ⟨w.heap.size, 2, none⟩) (by show w.heap.size + 1 ≠ w.heap.size; omega) (.slice (some ⟨w.heap.size + 1 + 1, 0, none⟩) n n)).set3 (.int .i64 R) (.int .i64 K) (.slice (some ⟨w.heap.size + 1 + 1, 0, none⟩) n n)
  obtain ⟨j0, j1, j2, _⟩ := X.three
  refine bodyPost_ret (v := .agg #[.int .i64 R, .int .i64 K, .slice (some ⟨w.heap.size + 1 + 1, 0, none⟩) n n]) (by simp [results, Tryd.results27, go_sem, j0, j1, j2]) rfl ⟨_, rfl, ?_, ?_⟩
  · exact ownsRow_setCell_other (ownsRow_setCell_other (ownsRow_setCell_other (ownsRow_setCell_other own2.out n0 _) n1 _) n1 _) n1 _
  · exact below_set3 (bb2.setCell (Nat.le_refl _) _) (by omega) _ _ _
/-- what x takes in a row -/
def putCells (x : Int) (p : PG.Pn) : List PG.Cl := if C.width x = 1 then [(x, 0, p)] else if C.width x = 2 then [(x, 1, p), (0, 2, p)] else []
theorem putCells_len (x : Int) (p : PG.Pn) : ((putCells x p).length : Int) = C.width x := by
  unfold putCells
  rcases PG.width_bd x with h | h | h <;> rw [h] <;> rfl
set_option maxHeartbeats 1000000 in
theorem cellsOf_any (x : Int) (p : PG.Pn) (w : World) (hx0 : -2147483648 ≤ x) (hx1 : x ≤ 2147483647) (hs : Spans w) :
    Calls Tryd.prog 29 #[.int .i32 x, pv p] w fun e w' => (∃ A c, e = .returned (.slice A (putCells x p).length c) ∧ SeenC w' w'.heap.size A (putCells x p).length (putCells x p) ∧ (putCells x p).length ≤ c ∧ c ≤ maxLen) ∧ Below w.heap.size w w' := by
  have W := hide (fun w' (hs' : Spans w') v (h : C.width x = v) => (show Calls Tryd.prog 43 #[.int .i32 x] w' fun e w'' => e = .returned (.int .i64 v) ∧ Below w'.heap.size w' w'' by subst h; exact width_any x w' hx0 hx1 hs'))
  obtain ⟨f, b, g⟩ := p
  unfold pv
  have hw := PG.width_bd x
  have FIN : ∀ (u : List PG.Cl) (n : Nat) (A : Option Addr) (c : Nat) (w' : World), u.length = n → n ≤ c → c ≤ maxLen → SeenC w' w'.heap.size A n u → ∃ A' c', Ending.returned (.slice A n c) = .returned (.slice A' u.length c') ∧ SeenC w' w'.heap.size A' u.length u ∧ u.length ≤ c' ∧ c' ≤ maxLen := fun u n A c w' h1 h2 h3 h4 => by
    subst h1
    exact ⟨A, c, rfl, h4, h2, h3⟩
  have FIN := hide FIN
  rcases hw with h | h | h
  · have e : putCells x (f, b, g) = [] := by unfold putCells; rw [h]; rfl
    rw [e]
    have W := hide (fun w' hs' => W.out w' hs' 0 h)
    clear h e
    go_enter Tryd.func29, Tryd.ntmps29
    go_wp2_with (
      go_at_call 43
      go_must (refine (W.out _ (hs.keep ((Below.refl _ _).alloc (Nat.le_refl _) _))).mono ?_)
      rintro e w1 ⟨rfl, b1⟩
      have b2 := ((Below.refl w.heap.size w).alloc (Nat.le_refl _) (.cells #[.int .i64 f, .int .i64 b, .int .i64 g] 23)).trans (b1.mono (by simp))
      clear b1 W)
    go_ret
    exact ⟨FIN.out [] 0 none 0 _ rfl (Nat.le_refl _) (Nat.zero_le _) (SeenC.nil_ _ _ _), b2⟩
  · have e : putCells x (f, b, g) = [(x, 0, (f, b, g))] := by unfold putCells; rw [h]; rfl
    rw [e]
    have W := hide (fun w' hs' => W.out w' hs' 1 h)
    clear h e
    go_enter Tryd.func29, Tryd.ntmps29
    go_wp2_with (
      go_at_call 43
      go_must (refine (W.out _ (hs.keep ((Below.refl _ _).alloc (Nat.le_refl _) _))).mono ?_)
      rintro e w1 ⟨rfl, b1⟩
      have x1 := (Box.new w 23 #[.int .i64 f, .int .i64 b, .int .i64 g]).below b1 (by simp)
      obtain ⟨y0, y1, y2, _⟩ := x1.three
      have b2 := ((Below.refl w.heap.size w).alloc (Nat.le_refl _) (.cells #[.int .i64 f, .int .i64 b, .int .i64 g] 23)).trans (b1.mono (by simp))
      clear b1 W)
    go_ret
    refine ⟨FIN.out [(x, 0, (f, b, g))] 1 _ 1 _ rfl (Nat.le_refl _) (by simp only [maxLen]; omega) ?_, b2.alloc b2.size _⟩
    exact Seen.of_box (Box.fresh rfl) rfl rfl (by simp)
  · have e : putCells x (f, b, g) = [(x, 1, (f, b, g)), (0, 2, (f, b, g))] := by unfold putCells; rw [h]; rfl
    rw [e]
    have W := hide (fun w' hs' => W.out w' hs' 2 h)
    clear h e
    go_enter Tryd.func29, Tryd.ntmps29
    go_wp2_with (
      go_at_call 43
      go_must (refine (W.out _ (hs.keep ((Below.refl _ _).alloc (Nat.le_refl _) _))).mono ?_)
      rintro e w1 ⟨rfl, b1⟩
      have x1 := (Box.new w 23 #[.int .i64 f, .int .i64 b, .int .i64 g]).below b1 (by simp)
      obtain ⟨y0, y1, y2, _⟩ := x1.three
      have b2 := ((Below.refl w.heap.size w).alloc (Nat.le_refl _) (.cells #[.int .i64 f, .int .i64 b, .int .i64 g] 23)).trans (b1.mono (by simp))
      clear b1 W)
    go_ret
    refine ⟨FIN.out [(x, 1, (f, b, g)), (0, 2, (f, b, g))] 2 _ 2 _ rfl (Nat.le_refl _) (by simp only [maxLen]; omega) ?_, b2.alloc b2.size _⟩
    exact Seen.of_box (Box.fresh rfl) rfl rfl (by simp)
theorem blanks_set {n k : Nat} (p : PG.Pn) (hk : k < n) : (List.replicate k (PG.blank p) ++ List.replicate (n - k) PG.none).set k (PG.blank p) = List.replicate (k + 1) (PG.blank p) ++ List.replicate (n - (k + 1)) PG.none := by
  rw [List.set_append_right _ _ (by simp), List.length_replicate, Nat.sub_self, show n - k = (n - (k + 1)) + 1 by omega, List.replicate_succ (n := n - (k + 1)), List.set_cons_zero, List.replicate_succ' (n := k)]
  simp
end Go.Proofs.YtfeapcneebofjaaDoor
