/- The contracts of slices.Clone, bytes.Clone, Copy. -/
import Derived.Test.YtdpioiapljgpmaaDoorParseFeed
import Derived.Lib.SliceRun
namespace Go.Proofs.YtdpioiapljgpmaaDoor
open Go.RowKit
set_option linter.unusedVariables false
theorem own_new0 (w : World) : ∀ k, (Value.slice (some ⟨w.heap.size, 0, none⟩) 0 0).ownBlock = some k → w.heap.size ≤ k := fun k hk => by
  have : w.heap.size = k := by simpa [Value.ownBlock] using hk
  omega
/-- what a clone leaves: a row of its own that reads the same -/
def Cloned (t : TypeId) (v : Value) (n : Nat) (xs : List Value) (w : World) (e : Ending) (w' : World) : Prop :=
  ∃ v', e = .returned v' ∧ w'.ownsRow w.heap.size t 1 v' n xs ∧ Below w.heap.size w w' ∧ (v = .slice none 0 0 → v' = .slice none 0 0)
set_option maxHeartbeats 1000000 in
theorem cloneInts_any (B : Nat) (v : Value) (n : Nat) (l : List Int) (w : World) (h : w.ownsRow B 3 1 v n (i64s l)) (hn : n ≤ 1099511627776) :
    Calls Tryd.prog 18 #[v] w (Cloned 3 v n (i64s l) w) := by
  obtain ⟨i0, hi, hz0, hz1, hz2⟩ := info_parts info_i64
  obtain ⟨A, c, rfl, _⟩ := own_form h
  have hs := Seen.of_own h
  have qT : ∀ (w : World) (a : Option Addr) (n c n' c' : Nat), (binOp .eql 28 (.slice a n c) (.slice none n' c')).run Tryd.prog w = .ok (.bool a.isNone) w := fun w a n c n' c' => Lib.run_eql_slice_nil w _ _ a n c n' c' Tryd.underlying28
  rcases A with _ | ad
  · have hn0 : n = 0 ∧ c = 0 := by
      rcases h.2 with ⟨hv, h0⟩ | ⟨_, _, _, hv, _⟩
      · injection hv with _ h1 h2
        exact ⟨h1, h2⟩
      · cases hv
    obtain ⟨rfl, rfl⟩ := hn0
    have hl : i64s l = [] := List.eq_nil_of_length_eq_zero (by simpa using h.1)
    rw [hl]
    clear h hs hl
    go_enter Tryd.func18, Tryd.ntmps18
    go_wp2_with fail
    go_ret
    exact ⟨_, rfl, World.ownsRow_nil _ _ _ _, Below.refl _ _, fun _ => rfl⟩
  · have own0 := own_lit0 (w := w) (base := w.heap.size) 3 rfl (Nat.le_refl _)
    have hs1 := hs.alloc (Nat.le_refl _) (.cells #[] 3)
    go_enter Tryd.func18, Tryd.ntmps18
    go_wp2_with (at_builtin; refine wpList_appN rfl (.tmp 5) (.tmp 6) 28 rfl w.heap.size 3 i0 _ 8 Tryd.underlying28 hi hz0 hz1 hz2 rfl _ 0 [] rfl own0 w.heap.size (some ad) n c (i64s l) rfl hs1 (ints_one _ _) (by omega) (by omega) (by simp) ?_; intro v1 w1 hown1 hg1 hm1)
    go_ret
    exact ⟨_, rfl, by simpa using hown1, ((Below.refl _ _).alloc (Nat.le_refl _) _).grown hg1 (by simp) (own_new0 w), fun e => by cases e⟩
set_option maxHeartbeats 1000000 in
theorem cloneBytes_any (B : Nat) (v : Value) (n : Nat) (l : List Int) (w : World) (h : w.ownsRow B 5 1 v n (u8s l)) (hn : n ≤ 1099511627776) :
    Calls Tryd.prog 19 #[v] w (Cloned 5 v n (u8s l) w) := by
  obtain ⟨i0, hi, hz0, hz1, hz2⟩ := info_parts info_u8
  obtain ⟨A, c, rfl, _⟩ := own_form h
  have hs := Seen.of_own h
  have qT : ∀ (w : World) (a : Option Addr) (n c n' c' : Nat), (binOp .eql 26 (.slice a n c) (.slice none n' c')).run Tryd.prog w = .ok (.bool a.isNone) w := fun w a n c n' c' => Lib.run_eql_slice_nil w _ _ a n c n' c' Tryd.underlying26
  rcases A with _ | ad
  · have hn0 : n = 0 ∧ c = 0 := by
      rcases h.2 with ⟨hv, h0⟩ | ⟨_, _, _, hv, _⟩
      · injection hv with _ h1 h2
        exact ⟨h1, h2⟩
      · cases hv
    obtain ⟨rfl, rfl⟩ := hn0
    have hl : u8s l = [] := List.eq_nil_of_length_eq_zero (by simpa using h.1)
    rw [hl]
    clear h hs hl
    go_enter Tryd.func19, Tryd.ntmps19
    go_wp2_with fail
    go_ret
    exact ⟨_, rfl, World.ownsRow_nil _ _ _ _, Below.refl _ _, fun _ => rfl⟩
  · have own0 := own_lit0 (w := w) (base := w.heap.size) 5 rfl (Nat.le_refl _)
    have hs1 := hs.alloc (Nat.le_refl _) (.cells #[] 5)
    go_enter Tryd.func19, Tryd.ntmps19
    go_wp2_with (at_builtin; refine wpList_appN rfl (.tmp 5) (.tmp 6) 26 rfl w.heap.size 5 i0 _ 1 Tryd.underlying26 hi hz0 hz1 hz2 rfl _ 0 [] rfl own0 w.heap.size (some ad) n c (u8s l) rfl hs1 (ints_one _ _) (by omega) (by omega) (by simp) ?_; intro v1 w1 hown1 hg1 hm1)
    go_ret
    exact ⟨_, rfl, by simpa using hown1, ((Below.refl _ _).alloc (Nat.le_refl _) _).grown hg1 (by simp) (own_new0 w), fun e => by cases e⟩
/-- what Copy leaves: another parser, all of it new -/
def Copied (B : Nat) (s : PA.S) (w : World) (e : Ending) (w' : World) : Prop :=
  ∃ g' vp' vt', e = .returned (.pointer (some ⟨g', 0, none⟩)) ∧ w.heap.size ≤ g' ∧ PB w' B g' s vp' vt' ∧ Below w.heap.size w w' ∧ (∀ q, vp'.ownBlock = some q → w.heap.size ≤ q) ∧ (∀ q, vt'.ownBlock = some q → w.heap.size ≤ q)
set_option maxHeartbeats 2000000 in
theorem copy_any (B g : Nat) (s : PA.S) (vp vt : Value) (w : World) (h : PB w B g s vp vt) (hk : s.ok) :
    Calls Tryd.prog 13 #[.pointer (some ⟨g, 0, none⟩)] w (Copied B s w) := by
  have hl1 := hk.d.len
  have hl2 := hk.d.tlen
  have hlt := h.lt
  have hBw : B ≤ w.heap.size := by have := h.low; omega
  obtain ⟨Ap, cp, rfl, _⟩ := own_form h.par
  obtain ⟨At, ct, rfl, _⟩ := own_form h.txt
  have hq1 : s.d.params.length ≤ 1099511627776 := by omega
  have hq2 : s.d.text.length ≤ 1099511627776 := by omega
  have CI := hide (fun w' x => cloneInts_any B (.slice Ap s.d.params.length cp) s.d.params.length s.d.params w' x hq1)
  have CB := hide (fun w' x => cloneBytes_any B (.slice At s.d.text.length ct) s.d.text.length s.d.text w' x hq2)
  have P1 := h.alloc (.cells (pcells s (.slice Ap s.d.params.length cp) (.slice At s.d.text.length ct)) 44)
  have X1 : Box (w.alloc (.cells (pcells s (.slice Ap s.d.params.length cp) (.slice At s.d.text.length ct)) 44)) w.heap.size 44 (pcells s (.slice Ap s.d.params.length cp) (.slice At s.d.text.length ct)) := Box.new w _ _
  have HX1 := hide X1
  have HP1 := hide P1
  obtain ⟨k0, k1, k2, k3, k4, k5, k6, k7, k8⟩ := h.box.nine
  have HPN := hide (And.intro h.pn h.tn)
  clear h P1 X1 hk hl1 hl2 hq1 hq2
  go_enter Tryd.func13, Tryd.ntmps13
  go_wp2_with fail
  refine (CI.out _ HP1.out.par).mono ?_
  rintro e w2 ⟨v1, rfl, hr1, b1, hn1⟩
  have hs1 : w.heap.size + 1 ≤ w2.heap.size := by have := b1.size; simpa using this
  have X2 := HX1.out.below b1 (by simp)
  have P2 := HP1.out.below b1
  obtain ⟨A1, c1, rfl, _⟩ := own_form hr1
  have x7 := X2.nine.2.2.2.2.2.2.2.1
  have xf := X2.frozen
  have X3 := X2.set 7 (.slice A1 s.d.params.length c1)
  have K3 : Kept [some w.heap.size] w2 (w2.setCell ⟨w.heap.size, 7, none⟩ (.slice A1 s.d.params.length c1)) := (Kept.refl _ w2).setCell (p := ⟨w.heap.size, 7, none⟩) (From.mem (by simp)) _
  have hgne : some g ∉ [some w.heap.size] := by simp; omega
  have P3 := P2.kept K3 hgne (fun q hq => by have := (HP1.out.par.lt q hq).2; have := own_ne_box P2.par X2 (by decide); exact notin1 this hq) (fun q hq => notin1 (own_ne_box P2.txt X2 (by decide)) hq)
  have R3 := own_kept hr1 K3 (fun q hq => notin1 (own_ne_box hr1 X2 (by decide)) hq)
  have m8 := P3.box.nine.2.2.2.2.2.2.2.2
  have HX3 := hide X3
  have HP3 := hide P3
  have HR3 := hide R3
  have HN1 := hide hn1
  have HB1 := hide b1
  have HS := hide hs1
  clear X2 P2 X3 P3 R3 K3 hn1 hr1 b1 k0 k1 k2 k3 k4 k5 k6 k7 k8
  go_wp2_with fail
  refine (CB.out _ HP3.out.txt).mono ?_
  rintro e w3 ⟨v2, rfl, hr2, b2, hn2⟩
  have hs2 : w2.heap.size ≤ w3.heap.size := by have := b2.size; simpa [World.setCell] using this
  have hs1 := HS.out
  have X4 := HX3.out.below b2 (by simp [World.setCell]; omega)
  obtain ⟨A2, c2, rfl, _⟩ := own_form hr2
  have x8 : w3.cell? ⟨w.heap.size, 8, none⟩ = some (.slice At s.d.text.length ct) := by rw [X4.cell 8]; rfl
  have xf := X4.frozen
  have R4 := own_kept HR3.out (Kept.of_below (L := []) b2) (by simp)
  have X5 := X4.set 8 (.slice A2 s.d.text.length c2)
  have K5 : Kept [some w.heap.size] w3 (w3.setCell ⟨w.heap.size, 8, none⟩ (.slice A2 s.d.text.length c2)) := (Kept.refl _ w3).setCell (p := ⟨w.heap.size, 8, none⟩) (From.mem (by simp)) _
  have R5 := own_kept R4 K5 (fun q hq => notin1 (own_ne_box R4 X4 (by decide)) hq)
  have T5 := own_kept hr2 K5 (fun q hq => notin1 (own_ne_box hr2 X4 (by decide)) hq)
  have PF : PB (w3.setCell ⟨w.heap.size, 8, none⟩ (.slice A2 s.d.text.length c2)) B w.heap.size s (.slice A1 s.d.params.length c1) (.slice A2 s.d.text.length c2) :=
    ⟨by simpa [pcells] using X5, own_base' R5 (by simp; omega), own_base' T5 (by simp [World.setCell]; omega), hBw, fun e => HN1.out (HPN.out.1 e), fun e => hn2 (HPN.out.2 e)⟩
  have BF : Below w.heap.size w (w3.setCell ⟨w.heap.size, 8, none⟩ (.slice A2 s.d.text.length c2)) :=
    (((((Below.refl _ w).alloc (Nat.le_refl _) _).trans (HB1.out.mono (by simp))).setCell (p := ⟨w.heap.size, 7, none⟩) (Nat.le_refl _) _).trans (b2.mono (by simp [World.setCell]; omega))).setCell (p := ⟨w.heap.size, 8, none⟩) (Nat.le_refl _) _
  have hq1 : ∀ q, (Value.slice A1 s.d.params.length c1).ownBlock = some q → w.heap.size ≤ q := fun q hq => by have := (R5.lt q hq).1; simp at this; omega
  have hq2 : ∀ q, (Value.slice A2 s.d.text.length c2).ownBlock = some q → w.heap.size ≤ q := fun q hq => by have := (T5.lt q hq).1; simp [World.setCell] at this; omega
  have HF := hide (And.intro PF (And.intro BF (And.intro hq1 hq2)))
  clear PF BF hq1 hq2 X4 X5 R4 R5 T5 K5 hr2 b2 hn2
  go_wp2_with fail
  go_ret
  exact ⟨w.heap.size, _, _, rfl, Nat.le_refl _, HF.out⟩
end Go.Proofs.YtdpioiapljgpmaaDoor
