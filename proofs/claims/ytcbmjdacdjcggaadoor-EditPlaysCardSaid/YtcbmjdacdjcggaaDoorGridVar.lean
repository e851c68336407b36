/- A variable that holds a grid: what a region that draws its order leaves of it. What GridWide asks of its grids, told of plain grids. A region in a loop that draws its order and stores a grid over the one that was there. -/
import Derived.Test.YtcbmjdacdjcggaaDoorGridUse
import Derived.Test.YtcbmjdacdjcggaaDoorCases
set_option maxRecDepth 100000
namespace Go.Proofs.YtcbmjdacdjcggaaDoor
open Go.RowKit
set_option linter.unusedVariables false
/-- the block g holds a grid, its cells in a row -/
def GBox (w : World) (G : PG.Gr) (g : Nat) : Prop := ∃ s, Box w g 27 #[.int .i64 G.rows, .int .i64 G.cols, s] ∧ IsG w G (gv G.rows G.cols s)
theorem GBox.low {w w' : World} {G : PG.Gr} {g : Nat} (h : GBox w G g) (b : Below w.heap.size w w') : GBox w' G g := by
  obtain ⟨s, h1, h2⟩ := h
  exact ⟨s, h1.below b h1.lt, h2.low b⟩
/-- none of these blocks is a row of cells -/
def NoRow (w : World) (S : List (Option Nat)) : Prop := ∀ x, some x ∈ S → ∃ T cs, Box w x T cs ∧ T ≠ 45
theorem IsG.keptS {w w' : World} {G : PG.Gr} {v : Value} {S : List (Option Nat)} (h : IsG w G v) (hS : NoRow w S) (k : Kept S w w') : IsG w' G v := by
  obtain ⟨s, h1, h2⟩ := h
  exact ⟨s, h1, own_kept h2 k (fun b hb hm => by
    obtain ⟨T, cs, hx, hT⟩ := hS b (hb ▸ hm)
    exact own_ne_box h2 hx (Ne.symm hT) hb)⟩
theorem GBox.keptS {w w' : World} {G : PG.Gr} {g : Nat} {S : List (Option Nat)} (h : GBox w G g) (hS : NoRow w S) (k : Kept S w w') (hn : some g ∉ S) : GBox w' G g := by
  obtain ⟨s, h1, h2⟩ := h
  exact ⟨s, h1.kept k hn, h2.keptS hS k⟩
/-- whatever -/
def PG.dflt : PG.Gr := PG.newG 1 1 PG.plain
def GVar (B : Nat) (G : PG.Gr) (v : Value) (w : World) : Prop := ∃ g, v = .pointer (some ⟨g, 0, none⟩) ∧ B ≤ g ∧ GBox w G g
theorem gv_inj {R K : Nat} {s x y z : Value} (h : gv R K s = .agg #[x, y, z]) : x = .int .i64 R ∧ y = .int .i64 K ∧ z = s := by
  unfold gv at h
  injection h with h
  injection h with h
  injection h with h1 h
  injection h with h2 h
  injection h with h3 h
  exact ⟨h1.symm, h2.symm, h3.symm⟩
theorem GBox.open_ {w : World} {G : PG.Gr} {g R K : Nat} (h : GBox w G g) (hR : G.rows = R) (hK : G.cols = K) : ∃ A c, Box w g 27 #[.int .i64 R, .int .i64 K, .slice A (R * K) c] ∧ SeenC w w.heap.size A (R * K) (PG.cells G) ∧ R * K ≤ c ∧ c ≤ maxLen ∧ IsG w G (gv R K (.slice A (R * K) c)) := by
  subst hR hK
  obtain ⟨s, h1, h2⟩ := h
  obtain ⟨A, c, hs, h3, h4, h5⟩ := h2.open_
  obtain ⟨-, -, rfl⟩ := gv_inj hs
  exact ⟨A, c, h1, h3, h4, h5, h2⟩
section
variable {ops : Array Oper} {S : List (Option Nat)} {w0 w : World} {olds : Nat → Array Value} {sh : Shape} {vals : Nat → Value} {grs : Nat → PG.Gr} {gs : Nat → Nat} {L : Nat → Bool} {u : Nat → Value}
theorem RJ.var (h : RJ ops S w0 olds sh vals grs gs L u w) (hall : ∀ j, j < ops.size → L j = true) (j : Nat) (hl : j < ops.size) (hk : skd sh j = 3) (h2 : skd sh (sba sh j) = 2) (hb : sba sh j < ops.size) (h1 : skd sh (sva sh j) = 1) (hv : sva sh j < ops.size) (hT : sty sh j = 27) : GVar w0.heap.size (grs (sva sh j)) (u (sba sh j)) w := by
  obtain ⟨g, x, y, z, k1, k2, k3⟩ := (h.all j hl (hall j hl)).2.2.2.1 hk
  have hg := h.gridOf hv (hall _ hv) h1
  obtain ⟨g', cs, e1, e2, _⟩ := h.boxOf hb (hall _ hb) h2
  obtain ⟨s, m1, m2⟩ := hg
  rw [k1] at e1
  cases e1
  rw [m1] at k2
  obtain ⟨rfl, rfl, rfl⟩ := gv_inj k2
  rw [hT] at k3
  exact ⟨g, k1, e2, z, k3, z, rfl, m2⟩
theorem RJ.var0 (h : RJ ops S w0 olds sh vals grs gs L u w) (hall : ∀ j, j < ops.size → L j = true) (j : Nat) (hl : j < ops.size) (hk : skd sh j = 3) (h2 : skd sh (sba sh j) = 2) (hb : sba sh j < ops.size) (h1 : skd sh (sva sh j) = 0) (hv : sva sh j < ops.size) {T : TypeId} (hT : sty sh j = T) {x y z : Value} (he : vals (sva sh j) = .agg #[x, y, z]) : ∃ g, u (sba sh j) = .pointer (some ⟨g, 0, none⟩) ∧ w0.heap.size ≤ g ∧ Box w g T #[x, y, z] := by
  obtain ⟨g, x', y', z', k1, k2, k3⟩ := (h.all j hl (hall j hl)).2.2.2.1 hk
  have hg := h.valOf hv (hall _ hv) h1 he
  obtain ⟨g', cs, e1, e2, _⟩ := h.boxOf hb (hall _ hb) h2
  rw [k1] at e1
  cases e1
  rw [hg] at k2
  injection k2 with k2
  injection k2 with k2
  injection k2 with k2 k3'
  injection k3' with k4 k5
  injection k5 with k5 _
  subst k2 k4 k5
  exact ⟨g, k1, e2, hT ▸ k3⟩
theorem RJ.var4 (h : RJ ops S w0 olds sh vals grs gs L u w) (hall : ∀ j, j < ops.size → L j = true) (j : Nat) (hl : j < ops.size) (hk : skd sh j = 4) (h1 : skd sh (sva sh j) = 1) (hv : sva sh j < ops.size) (hT : sty sh j = 27) : GBox w (grs (sva sh j)) (gs j) := by
  obtain ⟨x, y, z, k2, k3⟩ := (h.all j hl (hall j hl)).2.2.2.2 hk
  have hg := h.gridOf hv (hall _ hv) h1
  obtain ⟨s, m1, m2⟩ := hg
  rw [m1] at k2
  obtain ⟨rfl, rfl, rfl⟩ := gv_inj k2
  rw [hT] at k3
  exact ⟨z, k3, z, rfl, m2⟩
end
theorem Spans.keptS {w w' : World} {S : List (Option Nat)} (h : Spans w) (k : Kept S w w') (hn : some 0 ∉ S) : Spans w' := by
  obtain ⟨t, h1⟩ := h
  exact ⟨t, (k.block _ (Array.getElem?_eq_some_iff.1 h1).1 hn).trans h1⟩
theorem wp_region_rj {P : Program} {Q : Exit → Act → World → Prop} {ops : Array Oper} {id n : Nat} {a0 : Act} {w0 : World} (S : List (Option Nat)) (olds : Nat → Array Value) (sh : Shape) (vals : Nat → Value) (grs : Nat → PG.Gr) (gs : Nat → Nat)
    (hm : P.follows .mixedOrders = true) (hd : depsOk ops = true) (hs : slotsOk ops n = true) (hn : a0.tmps.size = n) (hsh : okShape sh ops = true)
    (hin : ∀ j, skd sh j = 4 → some (gs j) ∈ S ∧ (olds j).size = 3 ∧ Box w0 (gs j) (sty sh j) (olds j)) (hne : ∀ i j, skd sh i = 4 → skd sh j = 4 → i ≠ j → gs i ≠ gs j)
    (hstep : RS ops S w0 olds sh gs → ∀ i, i < ops.size → ∀ L a w, L i = false → SameBut ops a0 a → a.tmps.size = n → RJ ops S w0 olds sh vals grs gs L (fun j => valOf ops j a) w → (∀ o, ops[i]? = some o → ∀ e ∈ o.after, Region.binds .any e = true → L e.on = true) → Closed ops L →
      Step P ops Q (RJ ops S w0 olds sh vals grs gs) L a w i)
    (hdone : ∀ L a w, SameBut ops a0 a → a.tmps.size = n → RJ ops S w0 olds sh vals grs gs L (fun j => valOf ops j a) w → (∀ j, j < ops.size → L j = true) → Q .normal a w) : (Code.region id ops true).wp P Q a0 w0 := by
  have hRS : RS ops S w0 olds sh gs := ⟨hsh, fun j hk => ⟨(hin j hk).1, (hin j hk).2.2.lt, (hin j hk).2.1⟩, hne⟩
  exact wp_region_vals (RJ ops S w0 olds sh vals grs gs) hm hd hs hn (fun L u u' w h hj => hj.same hRS h) (hstep hRS) hdone (RJ.start (fun j hk => (hin j hk).2.2) _)
/-- no store into what was there -/
theorem no4 {p : Nat → Prop} {sh : Shape} (h : sh.all (fun x => x.1 != 4) = true) : ∀ j, skd sh j = 4 → p j := fun j hj => by
  exfalso
  unfold skd at hj
  rw [List.getD_eq_getElem?_getD] at hj
  rcases Nat.lt_or_ge j sh.length with hl | hl
  · rw [List.getElem?_eq_getElem hl] at hj
    have := List.all_eq_true.1 h _ (List.getElem_mem hl)
    simp only [Option.getD_some] at hj
    simp [hj] at this
  · rw [List.getElem?_eq_none hl] at hj
    cases hj
end Go.Proofs.YtcbmjdacdjcggaaDoor
set_option maxRecDepth 100000
namespace Go.Proofs.YtcbmjdacdjcggaaDoor.PG
set_option linter.unusedVariables false
theorem en1_one {x : Int} (h0 : 0 ≤ x) (h1 : x < 128) : (U.en1 x).length = 1 := by
  unfold U.en1 U.en
  rw [if_pos (show U.isR x = true from by simp [U.isR]; omega), if_pos h1]
  rfl
theorem en1_three {x : Int} (h0 : 19968 ≤ x) (h1 : x ≤ 20967) : (U.en1 x).length = 3 := by
  unfold U.en1 U.en
  rw [if_pos (show U.isR x = true from by simp [U.isR]; omega), if_neg (by omega), if_neg (by omega), if_pos (by omega)]
  rfl
theorem text_u8 (f : Nat → Cl) (n : Nat) : ∀ x ∈ text f n, 0 ≤ x ∧ x < 256 := U.enc_u8 _
structure WideG (P Q : Pn) (k : Nat) (x : Int) (G L R W C : Gr) : Prop where
  eL : putI G 0 k 97 P = L
  eR : putI G 0 (k + 1) 98 P = R
  eW : wipeI G 0 (k + 1) (k + 2) P = W
  eC : resizeG G 1 (k + 1) = C
  eO : putI G 0 7 x P = G
  rG : RightG G
  rL : RightG L
  rR : RightG R
  rW : RightG W
  rC : RightG C
  sG : G.rows = 1 ∧ G.cols = 8
  sL : L.rows = 1 ∧ L.cols = 8
  sR : R.rows = 1 ∧ R.cols = 8
  sW : W.rows = 1 ∧ W.cols = 8
  sC : C.rows = 1 ∧ C.cols = k + 1
  g0 : G.f 0 k = (x, 1, Q)
  g1 : G.f 0 (k + 1) = (0, 2, Q)
  l1 : L.f 0 (k + 1) = blank Q
  r0 : R.f 0 k = blank Q
  w0 : W.f 0 k = blank Q
  w1 : W.f 0 (k + 1) = blank P
  c0 : C.f 0 k = blank Q
  tx : text (G.f 0) 8 ≠ text ((newG 1 8 P).f 0) 8
theorem wide_all {P Q : Pn} (hP : okPen P) (hQ : okPen Q) {k : Nat} {x : Int} (hk : k ≤ 6) (h0 : 19968 ≤ x) (h1 : x ≤ 20967) : ∃ G L R W C, putI (newG 1 8 P) 0 k x Q = G ∧ WideG P Q k x G L R W C := by
  have hx := width_han (x := x) (by omega) (by omega)
  have e : putI (newG 1 8 P) 0 k x Q = putG (newG 1 8 P) 0 k x Q := putI_in rfl rfl
  have hs := put_size (newG 1 8 P) 0 k x Q
  have hat := fun j => wide_at (n := 8) (k := k) (p := P) (q := Q) hx (by omega) j
  obtain ⟨G, hG⟩ : ∃ G, putG (newG 1 8 P) 0 k x Q = G := ⟨_, rfl⟩
  have rG : RightG G := hG ▸ right_putG (right_newG hP (by omega) (by omega) (by omega) (by omega)) hQ _ _ _
  rw [hG] at e hs hat
  have hR : G.rows = 1 := hs.1
  have hC : G.cols = 8 := hs.2
  have eL : putI G 0 k 97 P = putG G 0 k 97 P := putI_in rfl rfl
  have eR : putI G 0 (k + 1) 98 P = putG G 0 (k + 1) 98 P := putI_in rfl (by omega)
  have eW : wipeI G 0 (k + 1) (k + 2) P = wipeG G 0 (k + 1) (k + 2) P := by
    unfold wipeI
    rw [if_pos (by omega), hC]
    congr 1 <;> omega
  refine ⟨G, _, _, _, _, e, rfl, rfl, rfl, rfl, putI_out (by omega), rG, right_putI rG hP _ _ _, right_putI rG hP _ _ _, right_wipeI rG hP _ _ _, right_resizeG rG (by omega) (by omega) (by omega) (by omega), ⟨hR, hC⟩, ?_, ?_, ?_, ⟨rfl, rfl⟩, ?_, ?_, ?_, ?_, ?_, ?_, ?_, ?_⟩
  · exact ⟨(putI_size ..).1.trans hR, (putI_size ..).2.trans hC⟩
  · exact ⟨(putI_size ..).1.trans hR, (putI_size ..).2.trans hC⟩
  · exact ⟨(wipeI_size ..).1.trans hR, (wipeI_size ..).2.trans hC⟩
  · rw [hat, if_pos rfl]
  · rw [hat, if_neg (by omega), if_pos rfl]
  · rw [eL]
    exact (over_half hG.symm hx (width_ascii (by omega) (by omega)) (by omega)).1
  · rw [eR]
    exact (over_half hG.symm hx (width_ascii (by omega) (by omega)) (by omega)).2
  · rw [eW]
    exact (wipe_half hG.symm hx (by omega)).1
  · rw [eW]
    exact (wipe_half hG.symm hx (by omega)).2
  · exact cut_half hG.symm hx (by omega)
  · intro ht
    have hl := congrArg List.length ht
    have e1 : runes (G.f 0) 8 = runes (fun j => if j = k then (x, 1, Q) else if j = k + 1 then (0, 2, Q) else blank P) 8 := runes_congr fun j _ => hat j
    have e2 : runes ((newG 1 8 P).f 0) 8 = [32, 32, 32, 32, 32, 32, 32, 32] := rfl
    have s1 := en1_one (x := 32) (by omega) (by omega)
    have s3 := en1_three h0 h1
    unfold text U.enc at hl
    rw [e1, e2] at hl
    obtain rfl | rfl | rfl | rfl | rfl | rfl | rfl : k = 0 ∨ k = 1 ∨ k = 2 ∨ k = 3 ∨ k = 4 ∨ k = 5 ∨ k = 6 := by omega
    all_goals
      simp [runes, kd, rn, blank, List.range, List.range.loop, s1, s3] at hl
end Go.Proofs.YtcbmjdacdjcggaaDoor.PG
namespace Go.Proofs.YtcbmjdacdjcggaaDoor
theorem bytes_toList (l : List Int) : (strOfNums l).toList = l.map fun n => UInt8.ofNat n.toNat := by
  rw [ByteArray.toList_eq]
  simp [strOfNums]
theorem map_u8_inj : ∀ {l m : List Int}, (∀ x ∈ l, 0 ≤ x ∧ x < 256) → (∀ x ∈ m, 0 ≤ x ∧ x < 256) → l.map (fun n => UInt8.ofNat n.toNat) = m.map (fun n => UInt8.ofNat n.toNat) → l = m
  | [], [], _, _, _ => rfl
  | [], y :: m, _, _, h => by simp at h
  | x :: l, [], _, _, h => by simp at h
  | x :: l, y :: m, hl, hm, h => by
    simp only [List.map_cons, List.cons.injEq] at h
    have hx := hl x (by simp)
    have hy := hm y (by simp)
    have e : x = y := by
      have := congrArg UInt8.toNat h.1
      simp at this
      omega
    rw [e, map_u8_inj (fun z hz => hl z (List.mem_cons_of_mem _ hz)) (fun z hz => hm z (List.mem_cons_of_mem _ hz)) h.2]
theorem str_list_inj {l m : List Int} (hl : ∀ x ∈ l, 0 ≤ x ∧ x < 256) (hm : ∀ x ∈ m, 0 ≤ x ∧ x < 256) (h : (strOfNums l).toList = (strOfNums m).toList) : l = m := by
  rw [bytes_toList, bytes_toList] at h
  exact map_u8_inj hl hm h
end Go.Proofs.YtcbmjdacdjcggaaDoor
set_option maxRecDepth 100000
namespace Go.Proofs.YtcbmjdacdjcggaaDoor
open Go.RowKit
set_option linter.unusedVariables false
theorem only4 {sh : Shape} {k : Nat} (h : (List.range sh.length).all (fun j => skd sh j != 4 || j == k) = true) : ∀ j, skd sh j = 4 → j = k := fun j hj => by
  rcases Nat.lt_or_ge j sh.length with hl | hl
  · have := List.all_eq_true.1 h j (by simpa using hl)
    simpa [hj] using this
  · exfalso
    unfold skd at hj
    rw [List.getD_eq_getElem?_getD, List.getElem?_eq_none hl] at hj
    cases hj
theorem late {ops : Array Oper} {L : Nat → Bool} (hcl : Closed ops L) {i j : Nat} (hL : L i = false) (hd : depIn ops j i = true) : L j = false := by
  cases h : L j
  · rfl
  · rw [came hcl h hd] at hL
    cases hL
theorem norow {w : World} {g : Nat} {T : TypeId} {cs : Array Value} (h : Box w g T cs) (hT : T ≠ 45) : NoRow w [some g] := fun x hx => by
  simp at hx
  subst hx
  exact ⟨T, cs, h, hT⟩
/-- At of a cell that is known -/
theorem u_atc {G : PG.Gr} {v : Value} {w : World} (hG : PG.RightG G) (h : IsG w G v) (r c : Nat) {F : PG.Cl} (hr : r < G.rows) (hc : c < G.cols) (hF : G.f r c = F) : Calls Tryd.prog 27 #[v, .int .i64 r, .int .i64 c] w fun e w' => e = .returned (.tuple #[.agg #[.int .i32 (PG.rn F), .int .i64 (PG.kd F), .int .i64 (PG.pn F).1, .int .i64 (PG.pn F).2.1, .int .i64 (PG.pn F).2.2], .bool true]) ∧ Below w.heap.size w w' := by
  subst hF
  have h := u_at hG h r c
  rw [atI_in hr hc] at h
  exact h
/-- a new block that holds a cell -/
def CBox (F : PG.Cl) (u : Value) (w : World) : Prop := ∃ g, u = .pointer (some ⟨g, 0, none⟩) ∧ Box w g 45 #[.int .i32 (PG.rn F), .int .i64 (PG.kd F), .int .i64 (PG.pn F).1, .int .i64 (PG.pn F).2.1, .int .i64 (PG.pn F).2.2]
def PBox (p : PG.Pn) (u : Value) (w : World) : Prop := ∃ g, u = .pointer (some ⟨g, 0, none⟩) ∧ Box w g 23 #[.int .i64 p.1, .int .i64 p.2.1, .int .i64 p.2.2]
theorem pbox_of {p1 p2 p3 : Int} {u : Value} {B : Nat} {w : World} (h : ∃ g, u = .pointer (some ⟨g, 0, none⟩) ∧ B ≤ g ∧ Box w g 23 #[.int .i64 p1, .int .i64 p2, .int .i64 p3]) : PBox (p1, p2, p3) u w := by
  obtain ⟨g, h1, _, h2⟩ := h
  exact ⟨g, h1, h2⟩
end Go.Proofs.YtcbmjdacdjcggaaDoor
