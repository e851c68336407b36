/- The contracts of the document's own Blank, Plain, row, copied. -/
import Derived.Test.YtcbmjdacdjcggaaDoorGridMem
import Derived.Test.YtcbmjdacdjcggaaDoorKeepPen
import Derived.RegionTactic
namespace Go.Proofs.YtcbmjdacdjcggaaDoor
open Go.RowKit
set_option linter.unusedVariables false
theorem rblank_any (p : PG.Pn) (w : World) : Calls Tryd.prog 41 #[pv p] w fun e w' => e = .returned (cv (PG.blank p)) ∧ Below w.heap.size w w' := by
  obtain ⟨f, b, g⟩ := p
  show Calls Tryd.prog 41 #[.agg #[.int .i64 f, .int .i64 b, .int .i64 g]] w fun e w' => e = .returned (.agg #[.int .i32 32, .int .i64 0, .int .i64 f, .int .i64 b, .int .i64 g]) ∧ Below w.heap.size w w'
  go_enter Tryd.func41, Tryd.ntmps41
  go_wp2
  exact bodyPost_ret (v := .agg #[.int .i32 32, .int .i64 0, .int .i64 f, .int .i64 b, .int .i64 g]) (by simp [results, Tryd.results41, go_sem]) rfl ⟨rfl, ((Below.refl _ _).alloc (Nat.le_refl _) _).alloc (by simp) _⟩
theorem rplain_any (w : World) : Calls Tryd.prog 8 #[] w fun e w' => e = .returned (pv PG.plain) ∧ Below w.heap.size w w' := by
  show Calls Tryd.prog 8 #[] w fun e w' => e = .returned (.agg #[.int .i64 (-1), .int .i64 (-1), .int .i64 0]) ∧ Below w.heap.size w w'
  go_enter Tryd.func8, Tryd.ntmps8
  go_wp2
  exact bodyPost_ret (v := .agg #[.int .i64 (-1), .int .i64 (-1), .int .i64 0]) (by simp [results, Tryd.results8, go_sem]) rfl ⟨rfl, (Below.refl _ _).alloc (Nat.le_refl _) _⟩
/-- a grid by value -/
def gv (R K : Nat) (s : Value) : Value := .agg #[.int .i64 R, .int .i64 K, s]
set_option maxHeartbeats 1000000 in
theorem rrow_any (R K r n c B : Nat) (A : Option Addr) (l : List PG.Cl) (w : World) (hl : SeenC w B A n l) (hn : n = R * K) (hnc : n ≤ c) (hc : c ≤ maxLen) (hr : r < R) (hR : R ≤ 40) (hK : K ≤ 60) :
    Calls Tryd.prog 40 #[gv R K (.slice A n c), .int .i64 r] w fun e w' => (∃ A' c', e = .returned (.slice A' K c') ∧ SeenC w B A' K ((l.drop (r * K)).take K) ∧ K ≤ c' ∧ c' ≤ maxLen) ∧ Below w.heap.size w w' := by
  have hle : r * K + K ≤ R * K := by rw [← Nat.succ_mul]; exact Nat.mul_le_mul_right K hr
  have hRK : R * K ≤ 2400 := Nat.mul_le_mul hR hK
  have e1 : (r : Int) * (K : Int) = ((r * K : Nat) : Int) := by simp
  have e2 : ((r : Int) + 1) * (K : Int) = ((r * K + K : Nat) : Int) := by rw [Int.add_mul, e1]; simp
  have hs := (hl.drop (k := r * K) (cap := c) (by omega) hnc).take (k := K) (by omega)
  generalize r * K = x at *
  unfold gv
  go_enter Tryd.func40, Tryd.ntmps40
  go_wp2_with fail
  · rw [if_pos h] at hs
    go_ret
    exact ⟨⟨_, _, rfl, hs, by omega, by omega⟩, (Below.refl _ _).alloc (Nat.le_refl _) _⟩
  · rw [if_neg h] at hs
    go_ret
    exact ⟨⟨_, _, rfl, hs, by omega, by omega⟩, (Below.refl _ _).alloc (Nat.le_refl _) _⟩
def zcell : Value := .agg #[.int .i32 0, .int .i64 0, .int .i64 0, .int .i64 0, .int .i64 0]
theorem info_cell : (Tryd.prog.info? 45).map (fun i => (i.zero, i.size, i.bytes)) = some (some zcell, 5, 40) := by kernel_rfl
theorem zcell_size : zcell.cells.size = 5 := rfl
theorem own_lit5 {w : World} {base g : Nat} (e : TypeId) (hg : g = w.heap.size) (hb : base ≤ w.heap.size) : (w.alloc (.cells #[] e)).ownsRow base e 5 (.slice (some ⟨g, 0, none⟩) 0 0) 0 (ccells []) := by
  subst hg
  exact World.ownsRow_made w #[] 0 hb (Nat.zero_le _) rfl
/-- two boxes, and a row behind them that grew -/
theorem boxes2 {w w1 : World} {t0 t1 t2 : TypeId} {cs ds es : Array Value} (hg : (((w.alloc (.cells cs t0)).alloc (.cells ds t1)).alloc (.cells es t2)).grownBy w1 (some (w.heap.size + 2))) : Box w1 w.heap.size t0 cs ∧ Box w1 (w.heap.size + 1) t1 ds ∧ Below w.heap.size w w1 := by
  refine ⟨(((Box.new w t0 cs).alloc _).alloc _).grown hg (by simp), ?_, ?_⟩
  · have h := Box.new (w.alloc (.cells cs t0)) t1 ds
    rw [show (w.alloc (.cells cs t0)).heap.size = w.heap.size + 1 from by simp] at h
    exact (h.alloc _).grown hg (by simp)
  · exact ((((Below.refl _ _).alloc (Nat.le_refl _) _).alloc (by simp) _).alloc (by simp; omega) _).grown hg (by simp; omega) (by rintro g ⟨⟩; omega)
theorem boxes2b {w w1 : World} {t0 t1 : TypeId} {cs ds : Array Value} (hg : Below ((w.alloc (.cells cs t0)).alloc (.cells ds t1)).heap.size ((w.alloc (.cells cs t0)).alloc (.cells ds t1)) w1) : Box w1 w.heap.size t0 cs ∧ Box w1 (w.heap.size + 1) t1 ds ∧ Below w.heap.size w w1 := by
  refine ⟨((Box.new w t0 cs).alloc _).below hg (by simp; omega), ?_, ?_⟩
  · have h := Box.new (w.alloc (.cells cs t0)) t1 ds
    rw [show (w.alloc (.cells cs t0)).heap.size = w.heap.size + 1 from by simp] at h
    exact h.below hg (by simp)
  · exact (((Below.refl _ _).alloc (Nat.le_refl _) _).alloc (by simp) _).trans (hg.mono (by simp; omega))
/-- a call gives a grid back, its cells in new memory -/
def GaveG (w : World) (R K : Nat) (l : List PG.Cl) (e : Ending) (w' : World) : Prop := ∃ v, e = .returned (gv R K v) ∧ w'.ownsRow w.heap.size 45 5 v l.length (ccells l) ∧ Below w.heap.size w w'
set_option maxHeartbeats 1000000 in
theorem rcopied_any (R K n c B : Nat) (A : Option Addr) (l : List PG.Cl) (w : World) (hl : SeenC w B A n l) (hB : B ≤ w.heap.size) (hn : n ≤ 1099511627776) :
    Calls Tryd.prog 44 #[gv R K (.slice A n c)] w (GaveG w R K l) := by
  obtain ⟨i0, hi, hz0, hz1, hz2⟩ := info_parts info_cell
  have hlen := hl.len
  unfold GaveG gv
  go_enter Tryd.func44, Tryd.ntmps44
  go_wp2_with (
    at_builtin
    refine wpList_appC rfl (.tmp 3) (.tmp 5) 25 rfl w.heap.size 45 i0 _ 40 Tryd.underlying25 hi hz0 hz1 hz2 rfl (.slice (some ⟨w.heap.size + 2, 0, none⟩) 0 0) 0 [] rfl (own_lit5 _ (by simp) (by simp; omega)) B A n c l rfl (hl.below (by repeat (first | exact Below.refl _ _ | refine Below.alloc ?_ (by first | omega | (simp; omega)) _))) (by omega) (by omega) (by simp; omega) ?_
    intro v1 w1 hown1 hg1 hm1
    obtain ⟨x0, x1, bb⟩ := boxes2 hg1
    obtain ⟨A1, c1, rfl, _⟩ := own_form' hown1
    obtain ⟨y0, y1, y2, z0, z1, z2⟩ := x0.three
    obtain ⟨p0, p1, p2, q0, q1, q2⟩ := x1.three
    clear hg1 hm1)
  have n0 := own_ne_box hown1 x0 (by decide)
  have n1 := own_ne_box hown1 x1 (by decide)
  have X := (x1.far (p := ⟨w.heap.size, 2, none⟩) (by show w.heap.size + 1 ≠ w.heap.size; omega) (.slice A1 n c1)).set3 (.int .i64 R) (.int .i64 K) (.slice A1 n c1)
  obtain ⟨j0, j1, j2, _⟩ := X.three
  refine bodyPost_ret (v := .agg #[.int .i64 R, .int .i64 K, .slice A1 n c1]) (by simp [results, Tryd.results44, go_sem, j0, j1, j2]) rfl ⟨_, rfl, ?_, ?_⟩
  · rw [hlen]
    simp only [Nat.zero_add, List.nil_append] at hown1 n0 n1
    exact ownsRow_setCell_other (ownsRow_setCell_other (ownsRow_setCell_other (ownsRow_setCell_other hown1 n0 _) n1 _) n1 _) n1 _
  · exact below_set3 (bb.setCell (Nat.le_refl _) _) (by omega) _ _ _
/-- some places of a list written anew -/
def spl (l : List PG.Cl) (x : Nat) (m : List PG.Cl) : List PG.Cl := l.take x ++ m ++ l.drop (x + m.length)
theorem spl_nil (l : List PG.Cl) (x : Nat) : spl l x [] = l := by simp [spl]
theorem spl_len {l : List PG.Cl} {x : Nat} {m : List PG.Cl} (h : x + m.length ≤ l.length) : (spl l x m).length = l.length := by
  unfold spl
  simp only [List.length_append, List.length_take, List.length_drop]
  omega
theorem spl_snoc {l : List PG.Cl} {x : Nat} {m : List PG.Cl} (c : PG.Cl) (h : x + m.length < l.length) : (spl l x m).set (x + m.length) c = spl l x (m ++ [c]) := by
  unfold spl
  have hl : (l.take x ++ m).length = x + m.length := by rw [List.length_append, List.length_take]; omega
  rw [List.set_append_right _ _ (by omega), hl, Nat.sub_self, List.drop_eq_getElem_cons h, List.set_cons_zero, List.length_append, List.length_singleton]
  simp [List.append_assoc, Nat.add_assoc]
theorem spl_more {l ls : List PG.Cl} {x k : Nat} {c : PG.Cl} (hk : ls[k]? = some c) (h : x + ls.length ≤ l.length) : (spl l x (ls.take k)).set (x + k) c = spl l x (ls.take (k + 1)) := by
  have hkl : k < ls.length := (List.getElem?_eq_some_iff.1 hk).1
  have e : (ls.take k).length = k := by rw [List.length_take]; omega
  have := spl_snoc (l := l) (x := x) (m := ls.take k) c (by omega)
  rw [e] at this
  rw [this, List.take_add_one, hk]
  rfl
/-- a row of the call's own that holds something: where it lies -/
theorem own_at {w : World} {base n : Nat} {e : TypeId} {size : Nat} {v : Value} {xs : List Value} (h : w.ownsRow base e size v n xs) (hn : 0 < n) : ∃ g cap, v = .slice (some ⟨g, 0, none⟩) n cap ∧ base ≤ g ∧ n ≤ cap ∧ cap ≤ maxLen := by
  rcases h.2 with ⟨_, h0⟩ | ⟨g, cap, cur, rfl, hb, _, h1, h2, _⟩
  · omega
  · exact ⟨g, cap, rfl, hb, h1, h2⟩
set_option maxHeartbeats 1000000 in
theorem rset_any (R K r n c n2 c2 B : Nat) (A A2 : Option Addr) (l ls : List PG.Cl) (w : World) (hl : SeenC w B A n l) (h2 : SeenC w B A2 n2 ls) (hB : B ≤ w.heap.size) (hn : n = R * K) (hr : r < R) (hn2 : n2 ≤ K) (hR : R ≤ 40) (h0 : 1 ≤ K) (hK : K ≤ 60) :
    Calls Tryd.prog 42 #[gv R K (.slice A n c), .int .i64 r, .slice A2 n2 c2] w (GaveG w R K (spl l (r * K) ls)) := by
  have hle : r * K + K ≤ R * K := by rw [← Nat.succ_mul]; exact Nat.mul_le_mul_right K hr
  have hRK : R * K ≤ 2400 := Nat.mul_le_mul hR hK
  have e1 : (r : Int) * (K : Int) = ((r * K : Nat) : Int) := by simp
  have hlen := hl.len
  have hlen2 := h2.len
  have F := hide (fun w' (hb : Below w.heap.size w w') => rcopied_any R K n c B A l w' (hl.below (Below.mono hb hB)) (Nat.le_trans hB hb.size) (by omega))
  have hnx : r * K + K ≤ n := by omega
  have hn5 : 1 ≤ n ∧ n ≤ 2400 := by omega
  clear hn hRK hle
  generalize r * K = x at *
  clear hl
  unfold GaveG gv
  unfold GaveG gv at F
  go_enter Tryd.func42, Tryd.ntmps42
  go_wp2_with (
    go_at_call 44
    go_must (refine (F.out _ (((Below.refl _ _).alloc (Nat.le_refl _) _).alloc (by simp) _)).mono ?_)
    go_must (rintro e w1 ⟨v1, rfl, hown1, b1⟩)
    obtain ⟨x0, x1, bb⟩ := boxes2b b1
    have ho1 := own_base' hown1 (show w.heap.size ≤ _ by simp; omega)
    clear hown1 b1
    rw [hlen] at ho1
    obtain ⟨g, cap, rfl, hgb, hgc, hgm⟩ := own_at ho1 (by omega)
    obtain ⟨y0, y1, y2, z0, z1, z2⟩ := x0.three
    clear F)
  have n0 := own_ne_box ho1 x0 (by decide)
  have n1 := own_ne_box ho1 x1 (by decide)
  have X0 := x0.set3 (.int .i64 R) (.int .i64 K) (.slice (some ⟨g, 0, none⟩) n cap)
  have X1 := ((x1.far (p := ⟨w.heap.size, 0, none⟩) (by show w.heap.size + 1 ≠ w.heap.size; omega) (.int .i64 R)).far (p := ⟨w.heap.size, 1, none⟩) (by show w.heap.size + 1 ≠ w.heap.size; omega) (.int .i64 K)).far (p := ⟨w.heap.size, 2, none⟩) (by show w.heap.size + 1 ≠ w.heap.size; omega) (.slice (some ⟨g, 0, none⟩) n cap)
  have O1 := ownsRow_setCell_other (ownsRow_setCell_other (ownsRow_setCell_other ho1 (a := ⟨w.heap.size, 0, none⟩) n0 (.int .i64 R)) (a := ⟨w.heap.size, 1, none⟩) n0 (.int .i64 K)) (a := ⟨w.heap.size, 2, none⟩) n0 (.slice (some ⟨g, 0, none⟩) n cap)
  have bs := below_set3 bb (Nat.le_refl _) (.int .i64 R) (.int .i64 K) (.slice (some ⟨g, 0, none⟩) n cap)
  have hg0 : g ≠ w.heap.size := fun e => n0 (by rw [e]; rfl)
  have hg1 : g ≠ w.heap.size + 1 := fun e => n1 (by rw [e]; rfl)
  go_loopw [13] (fun i wr => ∃ k : Nat, k ≤ n2 ∧ i = .int .i64 k ∧ Box wr w.heap.size 27 #[.int .i64 R, .int .i64 K, .slice (some ⟨g, 0, none⟩) n cap] ∧ Box wr (w.heap.size + 1) 27 #[.int .i64 0, .int .i64 0, .slice none 0 0] ∧
      wr.ownsRow w.heap.size 45 5 (.slice (some ⟨g, 0, none⟩) n cap) n (ccells (spl l x (ls.take k))) ∧ Below w.heap.size w wr)
    (fun i _ => n2 - (intOf i).toNat)
  case atStart => exact ⟨0, Nat.zero_le _, rfl, X0, X1, by rw [List.take_zero, spl_nil]; exact O1, bs⟩
  case round =>
    clear X0 X1 O1 bs y0 y1 y2 z0 z1 z2 n0 n1 x0 x1 ho1 bb
    obtain ⟨k, hk, rfl, b0, b1, ho, hb⟩ := hrel
    obtain ⟨y0, y1, y2, z0, z1, z2⟩ := b0.three
    by_cases hlt : k < n2
    · have hck : ls[k]? = some ls[k] := List.getElem?_eq_getElem (by omega)
      generalize ls[k] = cc at hck
      obtain ⟨ad, rfl, hadB, d0, d1, d2, d3, d4⟩ := (h2.below (hb.mono hB)).five hck
      have HH := hide h2
      have HO := hide ho
      have HK := hide hck
      have hls : (spl l x (ls.take k)).length = n := by rw [spl_len (by rw [List.length_take]; omega)]; exact hlen
      have hold : (spl l x (ls.take k))[x + k]? = some (spl l x (ls.take k))[x + k] := List.getElem?_eq_getElem (by omega)
      generalize (spl l x (ls.take k))[x + k] = cd at hold
      obtain ⟨v0, v1, v2, v3, v4, f0, f1, f2, f3, f4⟩ := own_five ho hold
      have l0 := b0.lt
      have l1 := b1.lt
      have l2 : g < wr.heap.size := (ho.lt g rfl).2
      clear h2 ho hck hold
      go_wp2_with fail
      go_roundw
      case rel =>
        have S := own_store5 HO.out (k := x + k) cc (by omega) hls
        refine ⟨k + 1, by omega, by go_num, (b0.grown S.2 (by simp; omega)).alloc _, (b1.grown S.2 (by simp; omega)).alloc _, ?_, (hb.grown S.2 (by omega) (by rintro _ ⟨⟩; omega)).alloc (Nat.le_trans hb.size S.2.size) _⟩
        rw [← spl_more HK.out (by omega)]
        exact S.1.alloc _
      case measure => simp [intOf]; omega
    · obtain rfl : k = n2 := by omega
      rw [List.take_of_length_le (by omega)] at ho
      have m0 := own_ne_box ho b1 (by decide)
      have X := b1.set3 (.int .i64 R) (.int .i64 K) (.slice (some ⟨g, 0, none⟩) n cap)
      have O := ownsRow_setCell_other (ownsRow_setCell_other (ownsRow_setCell_other ho (a := ⟨w.heap.size + 1, 0, none⟩) m0 (.int .i64 R)) (a := ⟨w.heap.size + 1, 1, none⟩) m0 (.int .i64 K)) (a := ⟨w.heap.size + 1, 2, none⟩) m0 (.slice (some ⟨g, 0, none⟩) n cap)
      have bz := below_set3 hb (show w.heap.size ≤ w.heap.size + 1 by omega) (.int .i64 R) (.int .i64 K) (.slice (some ⟨g, 0, none⟩) n cap)
      have hsl : (spl l x ls).length = n := by rw [spl_len (by omega)]; exact hlen
      obtain ⟨j0, j1, j2, _⟩ := X.three
      obtain ⟨q0, q1, q2, q3, q4, q5⟩ := b1.three
      have X := hide X
      have O := hide O
      have bz := hide bz
      have hsl := hide hsl
      clear ho
      go_wp2_with fail
      refine bodyPost_ret (v := .agg #[.int .i64 R, .int .i64 K, .slice (some ⟨g, 0, none⟩) n cap]) (by simp [results, Tryd.results42, go_sem, j0, j1, j2]) rfl ⟨_, rfl, ?_, bz.out⟩
      rw [hsl.out]
      exact O.out
end Go.Proofs.YtcbmjdacdjcggaaDoor
