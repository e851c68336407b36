/- The contracts of seq's Csi, Set, param, Arg. -/
import Derived.Test.YtnnjppgmadmmaaaDoorSeqSmall
import Derived.Test.YtnnjppgmadmmaaaDoorParseEvents
set_option maxRecDepth 100000
namespace Go.Proofs.YtnnjppgmadmmaaaDoor
open Go.RowKit
set_option linter.unusedVariables false
/-- a CSI that a call gives back; its parameters lie in a new row -/
def Made (w : World) (p f : Int) (l : List Int) (e : Ending) (w' : World) : Prop :=
  ∃ v', e = .returned (.agg #[.int .i64 4, .int .i32 0, .int .u8 p, .int .u8 0, .int .u8 f, v', .string ⟨#[]⟩]) ∧ w'.ownsRow w.heap.size 3 1 v' l.length (i64s l) ∧ Below w.heap.size w w'
def csiParams (l : List Int) : List Int := if l = [-1] then [] else l
section
variable {w w1 : World} {g B : Nat} {t : TypeId} {a b c d e f h : Value}
theorem Box.set7 (bx : Box w1 g t #[a, b, c, d, e, f, h]) (p0 p1 p2 p3 p4 p5 p6 : Value) : Box (((((((w1.setCell ⟨g, 0, none⟩ p0).setCell ⟨g, 1, none⟩ p1).setCell ⟨g, 2, none⟩ p2).setCell ⟨g, 3, none⟩ p3).setCell ⟨g, 4, none⟩ p4).setCell ⟨g, 5, none⟩ p5).setCell ⟨g, 6, none⟩ p6) g t #[p0, p1, p2, p3, p4, p5, p6] := by
  have := ((((((bx.set 0 p0).set 1 p1).set 2 p2).set 3 p3).set 4 p4).set 5 p5).set 6 p6
  simpa using this
theorem below_set7 (hb : Below B w w1) (hg : B ≤ g) (p0 p1 p2 p3 p4 p5 p6 : Value) : Below B w (((((((w1.setCell ⟨g, 0, none⟩ p0).setCell ⟨g, 1, none⟩ p1).setCell ⟨g, 2, none⟩ p2).setCell ⟨g, 3, none⟩ p3).setCell ⟨g, 4, none⟩ p4).setCell ⟨g, 5, none⟩ p5).setCell ⟨g, 6, none⟩ p6) :=
  ((((((hb.setCell hg _).setCell hg _).setCell hg _).setCell hg _).setCell hg _).setCell hg _).setCell hg _
theorem own_set7 {base size n : Nat} {et : TypeId} {v : Value} {xs : List Value} (ho : w1.ownsRow base et size v n xs) (hg : v.ownBlock ≠ some g) (p0 p1 p2 p3 p4 p5 p6 : Value) : (((((((w1.setCell ⟨g, 0, none⟩ p0).setCell ⟨g, 1, none⟩ p1).setCell ⟨g, 2, none⟩ p2).setCell ⟨g, 3, none⟩ p3).setCell ⟨g, 4, none⟩ p4).setCell ⟨g, 5, none⟩ p5).setCell ⟨g, 6, none⟩ p6).ownsRow base et size v n xs :=
  own_store (own_store (own_store (own_store (own_store (own_store (own_store ho hg _) hg _) hg _) hg _) hg _) hg _) hg _
end
def zcells : Array Value := #[.int .i64 0, .int .i32 0, .int .u8 0, .int .u8 0, .int .u8 0, .slice none 0 0, .string ⟨#[]⟩]
set_option maxHeartbeats 1000000 in
theorem csi_any (f : Int) (A : Option Addr) (n c : Nat) (l : List Int) (w : World) (hA : Seen w w.heap.size A n (i64s l)) (hn : n ≤ 1099511627776) :
    Calls Tryd.prog 9 #[.int .u8 f, .slice A n c] w (Made w 0 f (csiParams l)) := by
  have hl : l.length = n := by simpa [i64s] using hA.1
  have OW := hide (fun (o : Obj) => own_any A n c l (w.alloc o) ((hA.alloc (Nat.le_refl _) _).more (by simp)) hn)
  have ON := hide (fun (o : Obj) => own_any none 0 0 [] (w.alloc o) (Seen.nil_ _ _ _) (by omega))
  have HL := hide hl
  by_cases h1 : n = 1
  · obtain ⟨ad, u, rfl, _, hu, hc⟩ := hA.at_ (k := 0) (by omega)
    rw [i64s, List.getElem?_map] at hu
    obtain ⟨x, hx, rfl⟩ := Option.map_eq_some_iff.1 hu
    have hll : l = [x] := by
      rcases l with _ | ⟨y, _ | ⟨z, l⟩⟩ <;> simp at hl hx <;> try omega
      subst hx
      rfl
    rw [show ad.add 0 = ad from by simp [Addr.add]] at hc
    have hac := fun o => (World.cell?_alloc_lt w o ad (World.block_lt_of_cell? w ad hc)).trans hc
    have hd0 : ((n : Int) == 1) = true := by simp [h1]
    subst h1
    by_cases hx1 : x = -1
    · have HE := hide (show csiParams l = [] by unfold csiParams; rw [hll, hx1]; rfl)
      have hd : (x == -1) = true := by simpa using hx1
      clear hA hl hu hx hll hx1
      go_enter Tryd.func9, Tryd.ntmps9
      go_wp2_with fail
      refine (ON.out _).mono ?_
      rintro e w1 ⟨v1, rfl, h1, b1⟩
      obtain ⟨A1, c1, rfl, _⟩ := own_form h1
      have bx := (Box.new w 24 #[.int .i64 0, .int .i32 0, .int .u8 0, .int .u8 0, .int .u8 0, .slice none 0 0, .string ⟨#[]⟩]).below b1 (by simp)
      have fr := bx.frozen
      obtain ⟨k0, k1, k2, k3, k4, k5, k6⟩ := Box.seven bx
      have bb : Below w.heap.size w w1 := ((Below.refl _ w).alloc (Nat.le_refl _) _).trans (b1.mono (by simp))
      go_wp2_with fail
      obtain ⟨j0, j1, j2, j3, j4, j5, j6⟩ := Box.seven (Box.set7 bx (.int .i64 4) (.int .i32 0) (.int .u8 0) (.int .u8 0) (.int .u8 f) (.slice A1 0 c1) (.string ⟨#[]⟩))
      have ow := own_set7 h1 (own_ne_box h1 bx (by decide)) (.int .i64 4) (.int .i32 0) (.int .u8 0) (.int .u8 0) (.int .u8 f) (.slice A1 0 c1) (.string ⟨#[]⟩)
      have bl := below_set7 bb (Nat.le_refl _) (.int .i64 4) (.int .i32 0) (.int .u8 0) (.int .u8 0) (.int .u8 f) (.slice A1 0 c1) (.string ⟨#[]⟩)
      generalize (((((((w1.setCell ⟨w.heap.size, 0, none⟩ (.int .i64 4)).setCell ⟨w.heap.size, 1, none⟩ (.int .i32 0)).setCell ⟨w.heap.size, 2, none⟩ (.int .u8 0)).setCell ⟨w.heap.size, 3, none⟩ (.int .u8 0)).setCell ⟨w.heap.size, 4, none⟩ (.int .u8 f)).setCell ⟨w.heap.size, 5, none⟩ (.slice A1 0 c1)).setCell ⟨w.heap.size, 6, none⟩ (.string ⟨#[]⟩)) = W at *
      refine bodyPost_ret (v := .agg #[.int .i64 4, .int .i32 0, .int .u8 0, .int .u8 0, .int .u8 f, .slice A1 0 c1, .string ⟨#[]⟩]) (by simp [results, Tryd.results9, go_sem, j0, j1, j2, j3, j4, j5, j6]) rfl ⟨_, rfl, ?_, bl⟩
      rw [HE.out]
      exact own_base' ow (by simp)
    · have HE := hide (show csiParams l = l by unfold csiParams; rw [if_neg]; rw [hll]; simpa using hx1)
      have hd : (x == -1) = false := by simpa using hx1
      clear hA hu hx hll hx1 hl
      go_enter Tryd.func9, Tryd.ntmps9
      go_wp2_with fail
      refine (OW.out _).mono ?_
      rintro e w1 ⟨v1, rfl, h1, b1⟩
      obtain ⟨A1, c1, rfl, _⟩ := own_form h1
      have bx := (Box.new w 24 #[.int .i64 0, .int .i32 0, .int .u8 0, .int .u8 0, .int .u8 0, .slice none 0 0, .string ⟨#[]⟩]).below b1 (by simp)
      have fr := bx.frozen
      obtain ⟨k0, k1, k2, k3, k4, k5, k6⟩ := Box.seven bx
      have bb : Below w.heap.size w w1 := ((Below.refl _ w).alloc (Nat.le_refl _) _).trans (b1.mono (by simp))
      go_wp2_with fail
      obtain ⟨j0, j1, j2, j3, j4, j5, j6⟩ := Box.seven (Box.set7 bx (.int .i64 4) (.int .i32 0) (.int .u8 0) (.int .u8 0) (.int .u8 f) (.slice A1 1 c1) (.string ⟨#[]⟩))
      have ow := own_set7 h1 (own_ne_box h1 bx (by decide)) (.int .i64 4) (.int .i32 0) (.int .u8 0) (.int .u8 0) (.int .u8 f) (.slice A1 1 c1) (.string ⟨#[]⟩)
      have bl := below_set7 bb (Nat.le_refl _) (.int .i64 4) (.int .i32 0) (.int .u8 0) (.int .u8 0) (.int .u8 f) (.slice A1 1 c1) (.string ⟨#[]⟩)
      generalize (((((((w1.setCell ⟨w.heap.size, 0, none⟩ (.int .i64 4)).setCell ⟨w.heap.size, 1, none⟩ (.int .i32 0)).setCell ⟨w.heap.size, 2, none⟩ (.int .u8 0)).setCell ⟨w.heap.size, 3, none⟩ (.int .u8 0)).setCell ⟨w.heap.size, 4, none⟩ (.int .u8 f)).setCell ⟨w.heap.size, 5, none⟩ (.slice A1 1 c1)).setCell ⟨w.heap.size, 6, none⟩ (.string ⟨#[]⟩)) = W at *
      refine bodyPost_ret (v := .agg #[.int .i64 4, .int .i32 0, .int .u8 0, .int .u8 0, .int .u8 f, .slice A1 1 c1, .string ⟨#[]⟩]) (by simp [results, Tryd.results9, go_sem, j0, j1, j2, j3, j4, j5, j6]) rfl ⟨_, rfl, ?_, bl⟩
      rw [HE.out, HL.out]
      exact own_base' ow (by simp)
  · have HE := hide (show csiParams l = l by unfold csiParams; rw [if_neg (fun e => h1 (by rw [← hl, e]; rfl))])
    have hd0 : ((n : Int) == 1) = false := by simp; omega
    clear hA hl h1
    · go_enter Tryd.func9, Tryd.ntmps9
      go_wp2_with fail
      refine (OW.out _).mono ?_
      rintro e w1 ⟨v1, rfl, h1, b1⟩
      obtain ⟨A1, c1, rfl, _⟩ := own_form h1
      have bx := (Box.new w 24 #[.int .i64 0, .int .i32 0, .int .u8 0, .int .u8 0, .int .u8 0, .slice none 0 0, .string ⟨#[]⟩]).below b1 (by simp)
      have fr := bx.frozen
      obtain ⟨k0, k1, k2, k3, k4, k5, k6⟩ := Box.seven bx
      have bb : Below w.heap.size w w1 := ((Below.refl _ w).alloc (Nat.le_refl _) _).trans (b1.mono (by simp))
      go_wp2_with fail
      obtain ⟨j0, j1, j2, j3, j4, j5, j6⟩ := Box.seven (Box.set7 bx (.int .i64 4) (.int .i32 0) (.int .u8 0) (.int .u8 0) (.int .u8 f) (.slice A1 n c1) (.string ⟨#[]⟩))
      have ow := own_set7 h1 (own_ne_box h1 bx (by decide)) (.int .i64 4) (.int .i32 0) (.int .u8 0) (.int .u8 0) (.int .u8 f) (.slice A1 n c1) (.string ⟨#[]⟩)
      have bl := below_set7 bb (Nat.le_refl _) (.int .i64 4) (.int .i32 0) (.int .u8 0) (.int .u8 0) (.int .u8 f) (.slice A1 n c1) (.string ⟨#[]⟩)
      generalize (((((((w1.setCell ⟨w.heap.size, 0, none⟩ (.int .i64 4)).setCell ⟨w.heap.size, 1, none⟩ (.int .i32 0)).setCell ⟨w.heap.size, 2, none⟩ (.int .u8 0)).setCell ⟨w.heap.size, 3, none⟩ (.int .u8 0)).setCell ⟨w.heap.size, 4, none⟩ (.int .u8 f)).setCell ⟨w.heap.size, 5, none⟩ (.slice A1 n c1)).setCell ⟨w.heap.size, 6, none⟩ (.string ⟨#[]⟩)) = W at *
      refine bodyPost_ret (v := .agg #[.int .i64 4, .int .i32 0, .int .u8 0, .int .u8 0, .int .u8 f, .slice A1 n c1, .string ⟨#[]⟩]) (by simp [results, Tryd.results9, go_sem, j0, j1, j2, j3, j4, j5, j6]) rfl ⟨_, rfl, ?_, bl⟩
      rw [HE.out, HL.out]
      exact own_base' ow (by simp)
set_option maxHeartbeats 1000000 in
theorem set_any (p : Int) (on : Bool) (A : Option Addr) (n c : Nat) (l : List Int) (w : World) (hA : Seen w w.heap.size A n (i64s l)) (hn : n ≤ 1099511627776) :
    Calls Tryd.prog 12 #[.int .u8 p, .bool on, .slice A n c] w (Made w p (if on = true then 104 else 108) l) := by
  have hl : l.length = n := by simpa [i64s] using hA.1
  have OW := hide (fun (o : Obj) => own_any A n c l (w.alloc o) ((hA.alloc (Nat.le_refl _) _).more (by simp)) hn)
  have HL := hide hl
  clear hA hl
  rcases on with _ | _
  · go_enter Tryd.func12, Tryd.ntmps12
    go_wp2_with fail
    refine (OW.out _).mono ?_
    rintro e w1 ⟨v1, rfl, h1, b1⟩
    obtain ⟨A1, c1, rfl, _⟩ := own_form h1
    have bx := (Box.new w 24 #[.int .i64 0, .int .i32 0, .int .u8 0, .int .u8 0, .int .u8 0, .slice none 0 0, .string ⟨#[]⟩]).below b1 (by simp)
    have fr := bx.frozen
    obtain ⟨k0, k1, k2, k3, k4, k5, k6⟩ := Box.seven bx
    have bb : Below w.heap.size w w1 := ((Below.refl _ w).alloc (Nat.le_refl _) _).trans (b1.mono (by simp))
    go_wp2_with fail
    obtain ⟨j0, j1, j2, j3, j4, j5, j6⟩ := Box.seven (Box.set7 bx (.int .i64 4) (.int .i32 0) (.int .u8 p) (.int .u8 0) (.int .u8 108) (.slice A1 n c1) (.string ⟨#[]⟩))
    have ow := own_set7 h1 (own_ne_box h1 bx (by decide)) (.int .i64 4) (.int .i32 0) (.int .u8 p) (.int .u8 0) (.int .u8 108) (.slice A1 n c1) (.string ⟨#[]⟩)
    have bl := below_set7 bb (Nat.le_refl _) (.int .i64 4) (.int .i32 0) (.int .u8 p) (.int .u8 0) (.int .u8 108) (.slice A1 n c1) (.string ⟨#[]⟩)
    generalize (((((((w1.setCell ⟨w.heap.size, 0, none⟩ (.int .i64 4)).setCell ⟨w.heap.size, 1, none⟩ (.int .i32 0)).setCell ⟨w.heap.size, 2, none⟩ (.int .u8 p)).setCell ⟨w.heap.size, 3, none⟩ (.int .u8 0)).setCell ⟨w.heap.size, 4, none⟩ (.int .u8 108)).setCell ⟨w.heap.size, 5, none⟩ (.slice A1 n c1)).setCell ⟨w.heap.size, 6, none⟩ (.string ⟨#[]⟩)) = W at *
    refine bodyPost_ret (v := .agg #[.int .i64 4, .int .i32 0, .int .u8 p, .int .u8 0, .int .u8 108, .slice A1 n c1, .string ⟨#[]⟩]) (by simp [results, Tryd.results12, go_sem, j0, j1, j2, j3, j4, j5, j6]) rfl ⟨_, rfl, ?_, bl⟩
    rw [HL.out]
    exact own_base' ow (by simp)
  · go_enter Tryd.func12, Tryd.ntmps12
    go_wp2_with fail
    refine (OW.out _).mono ?_
    rintro e w1 ⟨v1, rfl, h1, b1⟩
    obtain ⟨A1, c1, rfl, _⟩ := own_form h1
    have bx := (Box.new w 24 #[.int .i64 0, .int .i32 0, .int .u8 0, .int .u8 0, .int .u8 0, .slice none 0 0, .string ⟨#[]⟩]).below b1 (by simp)
    have fr := bx.frozen
    obtain ⟨k0, k1, k2, k3, k4, k5, k6⟩ := Box.seven bx
    have bb : Below w.heap.size w w1 := ((Below.refl _ w).alloc (Nat.le_refl _) _).trans (b1.mono (by simp))
    go_wp2_with fail
    obtain ⟨j0, j1, j2, j3, j4, j5, j6⟩ := Box.seven (Box.set7 bx (.int .i64 4) (.int .i32 0) (.int .u8 p) (.int .u8 0) (.int .u8 104) (.slice A1 n c1) (.string ⟨#[]⟩))
    have ow := own_set7 h1 (own_ne_box h1 bx (by decide)) (.int .i64 4) (.int .i32 0) (.int .u8 p) (.int .u8 0) (.int .u8 104) (.slice A1 n c1) (.string ⟨#[]⟩)
    have bl := below_set7 bb (Nat.le_refl _) (.int .i64 4) (.int .i32 0) (.int .u8 p) (.int .u8 0) (.int .u8 104) (.slice A1 n c1) (.string ⟨#[]⟩)
    generalize (((((((w1.setCell ⟨w.heap.size, 0, none⟩ (.int .i64 4)).setCell ⟨w.heap.size, 1, none⟩ (.int .i32 0)).setCell ⟨w.heap.size, 2, none⟩ (.int .u8 p)).setCell ⟨w.heap.size, 3, none⟩ (.int .u8 0)).setCell ⟨w.heap.size, 4, none⟩ (.int .u8 104)).setCell ⟨w.heap.size, 5, none⟩ (.slice A1 n c1)).setCell ⟨w.heap.size, 6, none⟩ (.string ⟨#[]⟩)) = W at *
    refine bodyPost_ret (v := .agg #[.int .i64 4, .int .i32 0, .int .u8 p, .int .u8 0, .int .u8 104, .slice A1 n c1, .string ⟨#[]⟩]) (by simp [results, Tryd.results12, go_sem, j0, j1, j2, j3, j4, j5, j6]) rfl ⟨_, rfl, ?_, bl⟩
    rw [HL.out]
    exact own_base' ow (by simp)
def paramOf (l : List Int) (i : Int) : Int := if i < 0 ∨ (l.length : Int) ≤ i then -1 else l.getD i.toNat 0
set_option maxHeartbeats 1000000 in
theorem param_any (k r p q f : Int) (A : Option Addr) (n c : Nat) (l : List Int) (s : ByteArray) (i : Int) (w : World) (hA : Seen w w.heap.size A n (i64s l)) :
    Calls Tryd.prog 27 #[.agg #[.int .i64 k, .int .i32 r, .int .u8 p, .int .u8 q, .int .u8 f, .slice A n c, .string s], .int .i64 i] w fun e w' => e = .returned (.int .i64 (paramOf l i)) ∧ Below w.heap.size w w' := by
  have hl : l.length = n := by simpa [i64s] using hA.1
  have HB := hide (fun o : Obj => (Below.refl w.heap.size w).alloc (Nat.le_refl _) o)
  by_cases h0 : i < 0
  · have HE := hide (show paramOf l i = -1 by unfold paramOf; rw [if_pos (.inl h0)])
    clear hA hl
    go_enter Tryd.func27, Tryd.ntmps27
    go_wp2_with fail
    go_ret
    exact ⟨c_int HE.out.symm, HB.out _⟩
  by_cases h1 : (n : Int) ≤ i
  · have HE := hide (show paramOf l i = -1 by unfold paramOf; rw [if_pos (.inr (by rw [hl]; exact h1))])
    clear hA hl
    go_enter Tryd.func27, Tryd.ntmps27
    go_wp2_with fail
    go_ret
    exact ⟨c_int HE.out.symm, HB.out _⟩
  obtain ⟨m, rfl⟩ := Int.eq_ofNat_of_zero_le (show 0 ≤ i by omega)
  have hm : m < n := by omega
  obtain ⟨ad, u, rfl, _, hu, hc⟩ := hA.at_ hm
  rw [i64s, List.getElem?_map] at hu
  obtain ⟨x, hx, rfl⟩ := Option.map_eq_some_iff.1 hu
  have HE := hide (show paramOf l (m : Int) = x by unfold paramOf; rw [if_neg (by omega), List.getD_eq_getElem?_getD, Int.toNat_natCast, hx]; rfl)
  have hac := fun o => (World.cell?_alloc_lt w o (ad.add m) (World.block_lt_of_cell? w (ad.add m) hc)).trans hc
  have hbt : ((m : Int)).toNat = m := by simp
  clear hA hu hx hl hc
  go_enter Tryd.func27, Tryd.ntmps27
  go_wp2_with fail
  go_ret
  exact ⟨c_int HE.out.symm, HB.out _⟩
def argOf (l : List Int) (i none lo hi : Int) : Int :=
  let q := paramOf l i
  let m := if q = -1 ∨ (q = 0 ∧ 0 < lo) then none else q
  min (max m lo) hi
set_option maxHeartbeats 1000000 in
theorem arg_any (k r p q f : Int) (A : Option Addr) (n c : Nat) (l : List Int) (s : ByteArray) (i none lo hi : Int) (w : World) (hA : Seen w w.heap.size A n (i64s l)) :
    Calls Tryd.prog 11 #[.agg #[.int .i64 k, .int .i32 r, .int .u8 p, .int .u8 q, .int .u8 f, .slice A n c, .string s], .int .i64 i, .int .i64 none, .int .i64 lo, .int .i64 hi] w fun e w' => e = .returned (.int .i64 (argOf l i none lo hi)) ∧ Below w.heap.size w w' := by
  have HB := hide (fun o : Obj => (Below.refl w.heap.size w).alloc (Nat.le_refl _) o)
  have PA := hide (fun (o : Obj) => param_any k r p q f A n c l s i (w.alloc o) ((hA.alloc (Nat.le_refl _) _).more (by simp)))
  generalize hx : paramOf l i = x at PA
  have HA := hide (show argOf l i none lo hi = min (max (if x = -1 ∨ (x = 0 ∧ 0 < lo) then none else x) lo) hi by rw [← hx]; rfl)
  generalize argOf l i none lo hi = R at *
  clear hA hx
  by_cases h1 : x = -1
  · have d1 : (x == -1) = true := by simpa using h1
    have HM := hide (show R = min (max none lo) hi by rw [HA.out, if_pos (.inl h1)])
    clear h1
    rcases Int.lt_or_le none lo with a1 | a1
    · rcases Int.lt_or_le hi lo with a2 | a2
      · have HE := hide (show R = hi by rw [HM.out]; simp only [Int.max_def, Int.min_def]; (repeat' split) <;> omega)
        go_enter Tryd.func11, Tryd.ntmps11
        go_wp2_with fail
        refine (PA.out _).mono ?_
        rintro e w1 ⟨rfl, b1⟩
        have b2 := (HB.out _).trans (b1.mono (by simp))
        clear b1
        go_wp2_with fail
        go_ret
        exact ⟨c_int HE.out.symm, b2⟩
      · have HE := hide (show R = lo by rw [HM.out]; simp only [Int.max_def, Int.min_def]; (repeat' split) <;> omega)
        go_enter Tryd.func11, Tryd.ntmps11
        go_wp2_with fail
        refine (PA.out _).mono ?_
        rintro e w1 ⟨rfl, b1⟩
        have b2 := (HB.out _).trans (b1.mono (by simp))
        clear b1
        go_wp2_with fail
        go_ret
        exact ⟨c_int HE.out.symm, b2⟩
    · rcases Int.lt_or_le hi none with a2 | a2
      · have HE := hide (show R = hi by rw [HM.out]; simp only [Int.max_def, Int.min_def]; (repeat' split) <;> omega)
        go_enter Tryd.func11, Tryd.ntmps11
        go_wp2_with fail
        refine (PA.out _).mono ?_
        rintro e w1 ⟨rfl, b1⟩
        have b2 := (HB.out _).trans (b1.mono (by simp))
        clear b1
        go_wp2_with fail
        go_ret
        exact ⟨c_int HE.out.symm, b2⟩
      · have HE := hide (show R = none by rw [HM.out]; simp only [Int.max_def, Int.min_def]; (repeat' split) <;> omega)
        go_enter Tryd.func11, Tryd.ntmps11
        go_wp2_with fail
        refine (PA.out _).mono ?_
        rintro e w1 ⟨rfl, b1⟩
        have b2 := (HB.out _).trans (b1.mono (by simp))
        clear b1
        go_wp2_with fail
        go_ret
        exact ⟨c_int HE.out.symm, b2⟩
  have d1 : (x == -1) = false := by simpa using h1
  by_cases h2 : x = 0
  · have d2 : (x == 0) = true := by simpa using h2
    by_cases h3 : 0 < lo
    · have HM := hide (show R = min (max none lo) hi by rw [HA.out, if_pos (.inr ⟨h2, h3⟩)])
      clear h1 h2
      rcases Int.lt_or_le none lo with a1 | a1
      · rcases Int.lt_or_le hi lo with a2 | a2
        · have HE := hide (show R = hi by rw [HM.out]; simp only [Int.max_def, Int.min_def]; (repeat' split) <;> omega)
          go_enter Tryd.func11, Tryd.ntmps11
          go_wp2_with fail
          refine (PA.out _).mono ?_
          rintro e w1 ⟨rfl, b1⟩
          have b2 := (HB.out _).trans (b1.mono (by simp))
          clear b1
          go_wp2_with fail
          go_ret
          exact ⟨c_int HE.out.symm, b2⟩
        · have HE := hide (show R = lo by rw [HM.out]; simp only [Int.max_def, Int.min_def]; (repeat' split) <;> omega)
          go_enter Tryd.func11, Tryd.ntmps11
          go_wp2_with fail
          refine (PA.out _).mono ?_
          rintro e w1 ⟨rfl, b1⟩
          have b2 := (HB.out _).trans (b1.mono (by simp))
          clear b1
          go_wp2_with fail
          go_ret
          exact ⟨c_int HE.out.symm, b2⟩
      · rcases Int.lt_or_le hi none with a2 | a2
        · have HE := hide (show R = hi by rw [HM.out]; simp only [Int.max_def, Int.min_def]; (repeat' split) <;> omega)
          go_enter Tryd.func11, Tryd.ntmps11
          go_wp2_with fail
          refine (PA.out _).mono ?_
          rintro e w1 ⟨rfl, b1⟩
          have b2 := (HB.out _).trans (b1.mono (by simp))
          clear b1
          go_wp2_with fail
          go_ret
          exact ⟨c_int HE.out.symm, b2⟩
        · have HE := hide (show R = none by rw [HM.out]; simp only [Int.max_def, Int.min_def]; (repeat' split) <;> omega)
          go_enter Tryd.func11, Tryd.ntmps11
          go_wp2_with fail
          refine (PA.out _).mono ?_
          rintro e w1 ⟨rfl, b1⟩
          have b2 := (HB.out _).trans (b1.mono (by simp))
          clear b1
          go_wp2_with fail
          go_ret
          exact ⟨c_int HE.out.symm, b2⟩
    · have HM := hide (show R = min (max x lo) hi by rw [HA.out, if_neg (by omega)])
      clear h1 h2
      rcases Int.lt_or_le x lo with a1 | a1
      · rcases Int.lt_or_le hi lo with a2 | a2
        · have HE := hide (show R = hi by rw [HM.out]; simp only [Int.max_def, Int.min_def]; (repeat' split) <;> omega)
          go_enter Tryd.func11, Tryd.ntmps11
          go_wp2_with fail
          refine (PA.out _).mono ?_
          rintro e w1 ⟨rfl, b1⟩
          have b2 := (HB.out _).trans (b1.mono (by simp))
          clear b1
          go_wp2_with fail
          go_ret
          exact ⟨c_int HE.out.symm, b2⟩
        · have HE := hide (show R = lo by rw [HM.out]; simp only [Int.max_def, Int.min_def]; (repeat' split) <;> omega)
          go_enter Tryd.func11, Tryd.ntmps11
          go_wp2_with fail
          refine (PA.out _).mono ?_
          rintro e w1 ⟨rfl, b1⟩
          have b2 := (HB.out _).trans (b1.mono (by simp))
          clear b1
          go_wp2_with fail
          go_ret
          exact ⟨c_int HE.out.symm, b2⟩
      · rcases Int.lt_or_le hi x with a2 | a2
        · have HE := hide (show R = hi by rw [HM.out]; simp only [Int.max_def, Int.min_def]; (repeat' split) <;> omega)
          go_enter Tryd.func11, Tryd.ntmps11
          go_wp2_with fail
          refine (PA.out _).mono ?_
          rintro e w1 ⟨rfl, b1⟩
          have b2 := (HB.out _).trans (b1.mono (by simp))
          clear b1
          go_wp2_with fail
          go_ret
          exact ⟨c_int HE.out.symm, b2⟩
        · have HE := hide (show R = x by rw [HM.out]; simp only [Int.max_def, Int.min_def]; (repeat' split) <;> omega)
          go_enter Tryd.func11, Tryd.ntmps11
          go_wp2_with fail
          refine (PA.out _).mono ?_
          rintro e w1 ⟨rfl, b1⟩
          have b2 := (HB.out _).trans (b1.mono (by simp))
          clear b1
          go_wp2_with fail
          go_ret
          exact ⟨c_int HE.out.symm, b2⟩
  · have d2 : (x == 0) = false := by simpa using h2
    have HM := hide (show R = min (max x lo) hi by rw [HA.out, if_neg (by omega)])
    clear h1 h2
    rcases Int.lt_or_le x lo with a1 | a1
    · rcases Int.lt_or_le hi lo with a2 | a2
      · have HE := hide (show R = hi by rw [HM.out]; simp only [Int.max_def, Int.min_def]; (repeat' split) <;> omega)
        go_enter Tryd.func11, Tryd.ntmps11
        go_wp2_with fail
        refine (PA.out _).mono ?_
        rintro e w1 ⟨rfl, b1⟩
        have b2 := (HB.out _).trans (b1.mono (by simp))
        clear b1
        go_wp2_with fail
        go_ret
        exact ⟨c_int HE.out.symm, b2⟩
      · have HE := hide (show R = lo by rw [HM.out]; simp only [Int.max_def, Int.min_def]; (repeat' split) <;> omega)
        go_enter Tryd.func11, Tryd.ntmps11
        go_wp2_with fail
        refine (PA.out _).mono ?_
        rintro e w1 ⟨rfl, b1⟩
        have b2 := (HB.out _).trans (b1.mono (by simp))
        clear b1
        go_wp2_with fail
        go_ret
        exact ⟨c_int HE.out.symm, b2⟩
    · rcases Int.lt_or_le hi x with a2 | a2
      · have HE := hide (show R = hi by rw [HM.out]; simp only [Int.max_def, Int.min_def]; (repeat' split) <;> omega)
        go_enter Tryd.func11, Tryd.ntmps11
        go_wp2_with fail
        refine (PA.out _).mono ?_
        rintro e w1 ⟨rfl, b1⟩
        have b2 := (HB.out _).trans (b1.mono (by simp))
        clear b1
        go_wp2_with fail
        go_ret
        exact ⟨c_int HE.out.symm, b2⟩
      · have HE := hide (show R = x by rw [HM.out]; simp only [Int.max_def, Int.min_def]; (repeat' split) <;> omega)
        go_enter Tryd.func11, Tryd.ntmps11
        go_wp2_with fail
        refine (PA.out _).mono ?_
        rintro e w1 ⟨rfl, b1⟩
        have b2 := (HB.out _).trans (b1.mono (by simp))
        clear b1
        go_wp2_with fail
        go_ret
        exact ⟨c_int HE.out.symm, b2⟩
end Go.Proofs.YtnnjppgmadmmaaaDoor
