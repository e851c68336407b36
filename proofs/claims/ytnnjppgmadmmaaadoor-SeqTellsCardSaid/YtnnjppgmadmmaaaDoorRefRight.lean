/- The contract of the document's own RightEvent: is it an event that a parser makes? The contract of the document's own RightEvent: is it an event that a parser makes? The contract of the document's own RightEvent: is it an event that a parser makes? The contract of the document's own RightEvent: is it an event that a parser makes? -/
import Derived.Test.YtnnjppgmadmmaaaDoorRefSmall
set_option maxRecDepth 100000
namespace Go.Proofs.YtnnjppgmadmmaaaDoor
open Go.RowKit
set_option linter.unusedVariables false
set_option maxHeartbeats 4000000 in
theorem refRight1 (r p i f : Int) (A : Option Addr) (n c : Nat) (l t : List Int) (w : World) (hA : Seen w w.heap.size A n (i64s l)) (h0 : 0 ≤ f) (ht : ∀ x ∈ t, 0 ≤ x ∧ x < 256) (hr0 : -2147483648 ≤ r) (hr1 : r ≤ 2147483647) (hn9 : n ≤ 1099511627776) (ht9 : t.length ≤ 1099511627776) :
    Calls Tryd.prog 15 #[.agg #[.int .i64 1, .int .i32 r, .int .u8 p, .int .u8 i, .int .u8 f, .slice A n c, .string (strOfNums t)]] w fun e w' => e = .returned (.bool (PA.rightB ⟨1, r, p, i, f, l, t⟩)) ∧ Below w.heap.size w w' := by
  have HB := hide (fun o : Obj => (Below.refl w.heap.size w).alloc (Nat.le_refl _) o)
  have hl : l.length = n := by simpa [i64s] using hA.1
  have hR : ∀ R, PA.rightB ⟨1, r, p, i, f, l, t⟩ = R → PA.rightB ⟨1, r, p, i, f, l, t⟩ = R := fun _ h => h
  have HA := hide hA
  have HL := hide hl
  have HT := hide ht
  clear hA hl ht
  by_cases hp : p = 0
  rotate_left
  · have dp : (p != 0) = true := by simpa using hp
    have HE := hide (show PA.rightB ⟨1, r, p, i, f, l, t⟩ = false from by simp [PA.rightB, hp])
    generalize PA.rightB ⟨1, r, p, i, f, l, t⟩ = R at *
    generalize strOfNums t = s at *
    clear hp
    go_enter Tryd.func15, Tryd.ntmps15
    go_wp2_with fail
    go_ret
    exact ⟨c_is HE.out, HB.out _⟩
  subst hp
  by_cases hn : 0 < n
  · have hne : l ≠ [] := by rintro rfl; have := HL.out; simp at this; omega
    have HE := hide (show PA.rightB ⟨1, r, 0, i, f, l, t⟩ = false from by simp [PA.rightB, hne])
    clear hne
    generalize PA.rightB ⟨1, r, 0, i, f, l, t⟩ = R at *
    generalize strOfNums t = s at *
    go_enter Tryd.func15, Tryd.ntmps15
    go_wp2_with fail
    go_ret
    exact ⟨c_is HE.out, HB.out _⟩
  obtain rfl : n = 0 := by omega
  clear hn
  have hnil : l = [] := List.eq_nil_of_length_eq_zero HL.out
  subst hnil
  by_cases hi : i = 0
  rotate_left
  · have di : (i != 0) = true := by simpa using hi
    have HE := hide (show PA.rightB ⟨1, r, 0, i, f, [], t⟩ = false from by simp [PA.rightB, hi])
    generalize PA.rightB ⟨1, r, 0, i, f, [], t⟩ = R at *
    generalize strOfNums t = s at *
    clear hi
    go_enter Tryd.func15, Tryd.ntmps15
    go_wp2_with fail
    go_ret
    exact ⟨c_is HE.out, HB.out _⟩
  subst hi
  by_cases hte : t = []
  rotate_left
  · have hse := str_none hte
    have HE := hide (show PA.rightB ⟨1, r, 0, 0, f, [], t⟩ = false from by simp [PA.rightB, hte])
    generalize PA.rightB ⟨1, r, 0, 0, f, [], t⟩ = R at *
    generalize strOfNums t = s at *
    clear hte
    go_enter Tryd.func15, Tryd.ntmps15
    go_wp2_with fail
    go_ret
    exact ⟨c_is HE.out, HB.out _⟩
  subst hte
  have hse : (strOfNums []).toList = [] := by rw [bytes_toList]; rfl
  generalize strOfNums [] = s at *
  by_cases hf : f = 0
  rotate_left
  · have df : (f != 0) = true := by simpa using hf
    have HE := hide (show PA.rightB ⟨1, r, 0, 0, f, [], []⟩ = false from by simp [PA.rightB, hf])
    generalize PA.rightB ⟨1, r, 0, 0, f, [], []⟩ = R at *
    clear hf
    go_enter Tryd.func15, Tryd.ntmps15
    go_wp2_with fail
    go_ret
    exact ⟨c_is HE.out, HB.out _⟩
  subst hf
  have cs : r < 32 ∨ r = 127 ∨ 1114111 < r ∨ (32 ≤ r ∧ r < 127) ∨ (127 < r ∧ r < 55296) ∨ (55296 ≤ r ∧ r ≤ 57343) ∨ (57343 < r ∧ r ≤ 1114111) := by omega
  rcases cs with h | h | h | h | h | h | h
  · have HE := hide (show PA.rightB ⟨1, r, 0, 0, 0, [], []⟩ = false from by simp [PA.rightB, PA.okRune]; try omega)
    generalize PA.rightB ⟨1, r, 0, 0, 0, [], []⟩ = R at *
    go_enter Tryd.func15, Tryd.ntmps15
    go_wp2_with fail
    go_ret
    first | exact ⟨c_is HE.out, HB.out _⟩ | exact ⟨c_is (HE.out.trans (by simp; omega)), HB.out _⟩
  · subst h
    have HE := hide (show PA.rightB ⟨1, 127, 0, 0, 0, [], []⟩ = false from by simp [PA.rightB, PA.okRune]; try omega)
    generalize PA.rightB ⟨1, 127, 0, 0, 0, [], []⟩ = R at *
    go_enter Tryd.func15, Tryd.ntmps15
    go_wp2_with fail
    go_ret
    first | exact ⟨c_is HE.out, HB.out _⟩ | exact ⟨c_is (HE.out.trans (by simp; omega)), HB.out _⟩
  · have HE := hide (show PA.rightB ⟨1, r, 0, 0, 0, [], []⟩ = false from by simp [PA.rightB, PA.okRune]; try omega)
    generalize PA.rightB ⟨1, r, 0, 0, 0, [], []⟩ = R at *
    go_enter Tryd.func15, Tryd.ntmps15
    go_wp2_with fail
    go_ret
    first | exact ⟨c_is HE.out, HB.out _⟩ | exact ⟨c_is (HE.out.trans (by simp; omega)), HB.out _⟩
  · have HE := hide (show PA.rightB ⟨1, r, 0, 0, 0, [], []⟩ = true from by simp [PA.rightB, PA.okRune]; try omega)
    generalize PA.rightB ⟨1, r, 0, 0, 0, [], []⟩ = R at *
    go_enter Tryd.func15, Tryd.ntmps15
    go_wp2_with fail
    go_ret
    first | exact ⟨c_is HE.out, HB.out _⟩ | exact ⟨c_is (HE.out.trans (by simp; omega)), HB.out _⟩
  · have HE := hide (show PA.rightB ⟨1, r, 0, 0, 0, [], []⟩ = true from by simp [PA.rightB, PA.okRune]; try omega)
    generalize PA.rightB ⟨1, r, 0, 0, 0, [], []⟩ = R at *
    go_enter Tryd.func15, Tryd.ntmps15
    go_wp2_with fail
    go_ret
    first | exact ⟨c_is HE.out, HB.out _⟩ | exact ⟨c_is (HE.out.trans (by simp; omega)), HB.out _⟩
  · have HE := hide (show PA.rightB ⟨1, r, 0, 0, 0, [], []⟩ = false from by simp [PA.rightB, PA.okRune]; try omega)
    generalize PA.rightB ⟨1, r, 0, 0, 0, [], []⟩ = R at *
    go_enter Tryd.func15, Tryd.ntmps15
    go_wp2_with fail
    go_ret
    first | exact ⟨c_is HE.out, HB.out _⟩ | exact ⟨c_is (HE.out.trans (by simp; omega)), HB.out _⟩
  · have HE := hide (show PA.rightB ⟨1, r, 0, 0, 0, [], []⟩ = true from by simp [PA.rightB, PA.okRune]; try omega)
    generalize PA.rightB ⟨1, r, 0, 0, 0, [], []⟩ = R at *
    go_enter Tryd.func15, Tryd.ntmps15
    go_wp2_with fail
    go_ret
    first | exact ⟨c_is HE.out, HB.out _⟩ | exact ⟨c_is (HE.out.trans (by simp; omega)), HB.out _⟩
set_option maxHeartbeats 4000000 in
theorem refRight2 (r p i f : Int) (A : Option Addr) (n c : Nat) (l t : List Int) (w : World) (hA : Seen w w.heap.size A n (i64s l)) (h0 : 0 ≤ f) (ht : ∀ x ∈ t, 0 ≤ x ∧ x < 256) (hr0 : -2147483648 ≤ r) (hr1 : r ≤ 2147483647) (hn9 : n ≤ 1099511627776) (ht9 : t.length ≤ 1099511627776) :
    Calls Tryd.prog 15 #[.agg #[.int .i64 2, .int .i32 r, .int .u8 p, .int .u8 i, .int .u8 f, .slice A n c, .string (strOfNums t)]] w fun e w' => e = .returned (.bool (PA.rightB ⟨2, r, p, i, f, l, t⟩)) ∧ Below w.heap.size w w' := by
  have HB := hide (fun o : Obj => (Below.refl w.heap.size w).alloc (Nat.le_refl _) o)
  have hl : l.length = n := by simpa [i64s] using hA.1
  have hR : ∀ R, PA.rightB ⟨2, r, p, i, f, l, t⟩ = R → PA.rightB ⟨2, r, p, i, f, l, t⟩ = R := fun _ h => h
  have HA := hide hA
  have HL := hide hl
  have HT := hide ht
  clear hA hl ht
  by_cases hr : r = 0
  rotate_left
  · have dr : (r != 0) = true := by simpa using hr
    have HE := hide (show PA.rightB ⟨2, r, p, i, f, l, t⟩ = false from by simp [PA.rightB, hr])
    generalize PA.rightB ⟨2, r, p, i, f, l, t⟩ = R at *
    generalize strOfNums t = s at *
    clear hr
    go_enter Tryd.func15, Tryd.ntmps15
    go_wp2_with fail
    go_ret
    exact ⟨c_is HE.out, HB.out _⟩
  subst hr
  by_cases hp : p = 0
  rotate_left
  · have dp : (p != 0) = true := by simpa using hp
    have HE := hide (show PA.rightB ⟨2, 0, p, i, f, l, t⟩ = false from by simp [PA.rightB, hp])
    generalize PA.rightB ⟨2, 0, p, i, f, l, t⟩ = R at *
    generalize strOfNums t = s at *
    clear hp
    go_enter Tryd.func15, Tryd.ntmps15
    go_wp2_with fail
    go_ret
    exact ⟨c_is HE.out, HB.out _⟩
  subst hp
  by_cases hn : 0 < n
  · have hne : l ≠ [] := by rintro rfl; have := HL.out; simp at this; omega
    have HE := hide (show PA.rightB ⟨2, 0, 0, i, f, l, t⟩ = false from by simp [PA.rightB, hne])
    clear hne
    generalize PA.rightB ⟨2, 0, 0, i, f, l, t⟩ = R at *
    generalize strOfNums t = s at *
    go_enter Tryd.func15, Tryd.ntmps15
    go_wp2_with fail
    go_ret
    exact ⟨c_is HE.out, HB.out _⟩
  obtain rfl : n = 0 := by omega
  clear hn
  have hnil : l = [] := List.eq_nil_of_length_eq_zero HL.out
  subst hnil
  by_cases hi : i = 0
  rotate_left
  · have di : (i != 0) = true := by simpa using hi
    have HE := hide (show PA.rightB ⟨2, 0, 0, i, f, [], t⟩ = false from by simp [PA.rightB, hi])
    generalize PA.rightB ⟨2, 0, 0, i, f, [], t⟩ = R at *
    generalize strOfNums t = s at *
    clear hi
    go_enter Tryd.func15, Tryd.ntmps15
    go_wp2_with fail
    go_ret
    exact ⟨c_is HE.out, HB.out _⟩
  subst hi
  by_cases hte : t = []
  rotate_left
  · have hse := str_none hte
    have HE := hide (show PA.rightB ⟨2, 0, 0, 0, f, [], t⟩ = false from by simp [PA.rightB, hte])
    generalize PA.rightB ⟨2, 0, 0, 0, f, [], t⟩ = R at *
    generalize strOfNums t = s at *
    clear hte
    go_enter Tryd.func15, Tryd.ntmps15
    go_wp2_with fail
    go_ret
    exact ⟨c_is HE.out, HB.out _⟩
  subst hte
  have hse : (strOfNums []).toList = [] := by rw [bytes_toList]; rfl
  generalize strOfNums [] = s at *
  by_cases h24 : f = 24
  · subst h24
    have HE := hide (show PA.rightB ⟨2, 0, 0, 0, 24, [], []⟩ = false from by simp [PA.rightB])
    generalize PA.rightB ⟨2, 0, 0, 0, 24, [], []⟩ = R at *
    go_enter Tryd.func15, Tryd.ntmps15
    go_wp2_with fail
    go_ret
    first | exact ⟨c_is HE.out, HB.out _⟩ | exact ⟨c_is (HE.out.trans (by simp; omega)), HB.out _⟩
  by_cases h26 : f = 26
  · subst h26
    have HE := hide (show PA.rightB ⟨2, 0, 0, 0, 26, [], []⟩ = false from by simp [PA.rightB])
    generalize PA.rightB ⟨2, 0, 0, 0, 26, [], []⟩ = R at *
    go_enter Tryd.func15, Tryd.ntmps15
    go_wp2_with fail
    go_ret
    first | exact ⟨c_is HE.out, HB.out _⟩ | exact ⟨c_is (HE.out.trans (by simp; omega)), HB.out _⟩
  by_cases h27 : f = 27
  · subst h27
    have HE := hide (show PA.rightB ⟨2, 0, 0, 0, 27, [], []⟩ = false from by simp [PA.rightB])
    generalize PA.rightB ⟨2, 0, 0, 0, 27, [], []⟩ = R at *
    go_enter Tryd.func15, Tryd.ntmps15
    go_wp2_with fail
    go_ret
    first | exact ⟨c_is HE.out, HB.out _⟩ | exact ⟨c_is (HE.out.trans (by simp; omega)), HB.out _⟩
  have e1 : (f != 24) = true := by simpa using h24
  have e2 : (f != 26) = true := by simpa using h26
  have e3 : (f != 27) = true := by simpa using h27
  have X := hide (And.intro h24 (And.intro h26 h27))
  clear h24 h26 h27
  by_cases h : f < 32
  · have HE := hide (show PA.rightB ⟨2, 0, 0, 0, f, [], []⟩ = true from by have := X.out; simp [PA.rightB]; omega)
    generalize PA.rightB ⟨2, 0, 0, 0, f, [], []⟩ = R at *
    go_enter Tryd.func15, Tryd.ntmps15
    go_wp2_with fail
    go_ret
    first | exact ⟨c_is HE.out, HB.out _⟩ | exact ⟨c_is (HE.out.trans (by simp; omega)), HB.out _⟩
  · have HE := hide (show PA.rightB ⟨2, 0, 0, 0, f, [], []⟩ = false from by simp [PA.rightB]; omega)
    generalize PA.rightB ⟨2, 0, 0, 0, f, [], []⟩ = R at *
    go_enter Tryd.func15, Tryd.ntmps15
    go_wp2_with fail
    go_ret
    first | exact ⟨c_is HE.out, HB.out _⟩ | exact ⟨c_is (HE.out.trans (by simp; omega)), HB.out _⟩
set_option maxHeartbeats 4000000 in
theorem refRightk (k r p i f : Int) (A : Option Addr) (n c : Nat) (l t : List Int) (w : World) (g1 : k ≠ 1) (g2 : k ≠ 2) (g3 : k ≠ 3) (g4 : k ≠ 4) (g5 : k ≠ 5) (hA : Seen w w.heap.size A n (i64s l)) (h0 : 0 ≤ f) (ht : ∀ x ∈ t, 0 ≤ x ∧ x < 256) (hr0 : -2147483648 ≤ r) (hr1 : r ≤ 2147483647) (hn9 : n ≤ 1099511627776) (ht9 : t.length ≤ 1099511627776) :
    Calls Tryd.prog 15 #[.agg #[.int .i64 k, .int .i32 r, .int .u8 p, .int .u8 i, .int .u8 f, .slice A n c, .string (strOfNums t)]] w fun e w' => e = .returned (.bool (PA.rightB ⟨k, r, p, i, f, l, t⟩)) ∧ Below w.heap.size w w' := by
  have HB := hide (fun o : Obj => (Below.refl w.heap.size w).alloc (Nat.le_refl _) o)
  have hl : l.length = n := by simpa [i64s] using hA.1
  have hR : ∀ R, PA.rightB ⟨k, r, p, i, f, l, t⟩ = R → PA.rightB ⟨k, r, p, i, f, l, t⟩ = R := fun _ h => h
  have HA := hide hA
  have HL := hide hl
  have HT := hide ht
  clear hA hl ht
  have n1 : (k != 1) = true := by simpa using g1
  have n3 : (k != 3) = true := by simpa using g3
  have n4 : (k != 4) = true := by simpa using g4
  have n5 : (k != 5) = true := by simpa using g5
  have m1 : (k == 1) = false := by simpa using g1
  have m2 : (k == 2) = false := by simpa using g2
  have m3 : (k == 3) = false := by simpa using g3
  have m4 : (k == 4) = false := by simpa using g4
  have m5 : (k == 5) = false := by simpa using g5
  have HR := hide (rb0 k r p i f l t g1 g2 g3 g4 g5)
  clear g1 g2 g3 g4 g5
  by_cases hr : r = 0
  rotate_left
  · have dr : (r != 0) = true := by simpa using hr
    have HE := hide (show PA.rightB ⟨k, r, p, i, f, l, t⟩ = false from HR.out)
    generalize PA.rightB ⟨k, r, p, i, f, l, t⟩ = R at *
    generalize strOfNums t = s at *
    clear hr
    go_enter Tryd.func15, Tryd.ntmps15
    go_wp2_with fail
    go_ret
    exact ⟨c_is HE.out, HB.out _⟩
  subst hr
  by_cases hp : p = 0
  rotate_left
  · have dp : (p != 0) = true := by simpa using hp
    have HE := hide (show PA.rightB ⟨k, 0, p, i, f, l, t⟩ = false from HR.out)
    generalize PA.rightB ⟨k, 0, p, i, f, l, t⟩ = R at *
    generalize strOfNums t = s at *
    clear hp
    go_enter Tryd.func15, Tryd.ntmps15
    go_wp2_with fail
    go_ret
    exact ⟨c_is HE.out, HB.out _⟩
  subst hp
  by_cases hn : 0 < n
  · have hne : l ≠ [] := by rintro rfl; have := HL.out; simp at this; omega
    have HE := hide (show PA.rightB ⟨k, 0, 0, i, f, l, t⟩ = false from HR.out)
    clear hne
    generalize PA.rightB ⟨k, 0, 0, i, f, l, t⟩ = R at *
    generalize strOfNums t = s at *
    go_enter Tryd.func15, Tryd.ntmps15
    go_wp2_with fail
    go_ret
    exact ⟨c_is HE.out, HB.out _⟩
  obtain rfl : n = 0 := by omega
  clear hn
  have hnil : l = [] := List.eq_nil_of_length_eq_zero HL.out
  subst hnil
  by_cases hi : i = 0
  rotate_left
  · have di : (i != 0) = true := by simpa using hi
    have HE := hide (show PA.rightB ⟨k, 0, 0, i, f, [], t⟩ = false from HR.out)
    generalize PA.rightB ⟨k, 0, 0, i, f, [], t⟩ = R at *
    generalize strOfNums t = s at *
    clear hi
    go_enter Tryd.func15, Tryd.ntmps15
    go_wp2_with fail
    go_ret
    exact ⟨c_is HE.out, HB.out _⟩
  subst hi
  by_cases hte : t = []
  rotate_left
  · have hse := str_none hte
    have HE := hide (show PA.rightB ⟨k, 0, 0, 0, f, [], t⟩ = false from HR.out)
    generalize PA.rightB ⟨k, 0, 0, 0, f, [], t⟩ = R at *
    generalize strOfNums t = s at *
    clear hte
    go_enter Tryd.func15, Tryd.ntmps15
    go_wp2_with fail
    go_ret
    exact ⟨c_is HE.out, HB.out _⟩
  subst hte
  have hse : (strOfNums []).toList = [] := by rw [bytes_toList]; rfl
  generalize strOfNums [] = s at *
  have HE := HR
  generalize PA.rightB ⟨k, 0, 0, 0, f, [], []⟩ = R at *
  go_enter Tryd.func15, Tryd.ntmps15
  go_wp2_with fail
  go_ret
  first | exact ⟨c_is HE.out, HB.out _⟩ | exact ⟨c_is (HE.out.trans (by simp; omega)), HB.out _⟩
end Go.Proofs.YtnnjppgmadmmaaaDoor
set_option maxRecDepth 100000
namespace Go.Proofs.YtnnjppgmadmmaaaDoor
open Go.RowKit
set_option linter.unusedVariables false
theorem esc_b (i f : Int) : decide (escOk i f) = (decide (PA.okInter i) && (decide (48 ≤ f) && (decide (f ≤ 126) && (!decide (i = 0) || !decide (PA.opens f))))) := by
  rw [Bool.eq_iff_iff]
  simp only [decide_eq_true_iff, Bool.and_eq_true, Bool.or_eq_true, Bool.not_eq_true', decide_eq_false_iff_not]
  unfold escOk
  constructor
  · rintro ⟨a, b, c, d⟩
    refine ⟨a, b, c, ?_⟩
    by_cases h : i = 0
    · exact .inr (d h)
    · exact .inl h
  · rintro ⟨a, b, c, d⟩
    exact ⟨a, b, c, fun h => d.elim (fun g => absurd h g) id⟩
set_option maxHeartbeats 4000000 in
theorem refRight3 (r p i f : Int) (A : Option Addr) (n c : Nat) (l t : List Int) (w : World) (hA : Seen w w.heap.size A n (i64s l)) (h0 : 0 ≤ f) (ht : ∀ x ∈ t, 0 ≤ x ∧ x < 256) (hr0 : -2147483648 ≤ r) (hr1 : r ≤ 2147483647) :
    Calls Tryd.prog 15 #[.agg #[.int .i64 3, .int .i32 r, .int .u8 p, .int .u8 i, .int .u8 f, .slice A n c, .string (strOfNums t)]] w fun e w' => e = .returned (.bool (PA.rightB ⟨3, r, p, i, f, l, t⟩)) ∧ Below w.heap.size w w' := by
  have HB := hide (fun o : Obj => (Below.refl w.heap.size w).alloc (Nat.le_refl _) o)
  have hl : l.length = n := by simpa [i64s] using hA.1
  have hR : ∀ R, PA.rightB ⟨3, r, p, i, f, l, t⟩ = R → PA.rightB ⟨3, r, p, i, f, l, t⟩ = R := fun _ h => h
  have HA := hide hA
  have HL := hide hl
  have HT := hide ht
  clear hA hl ht
  by_cases hr : r = 0
  rotate_left
  · have dr : (r != 0) = true := by simpa using hr
    have HE := hide (show PA.rightB ⟨3, r, p, i, f, l, t⟩ = false from by simp [PA.rightB, hr])
    generalize PA.rightB ⟨3, r, p, i, f, l, t⟩ = R at *
    generalize strOfNums t = s at *
    clear hr
    go_enter Tryd.func15, Tryd.ntmps15
    go_wp2_with fail
    go_ret
    exact ⟨c_is HE.out, HB.out _⟩
  subst hr
  by_cases hp : p = 0
  rotate_left
  · have dp : (p != 0) = true := by simpa using hp
    have HE := hide (show PA.rightB ⟨3, 0, p, i, f, l, t⟩ = false from by simp [PA.rightB, hp])
    generalize PA.rightB ⟨3, 0, p, i, f, l, t⟩ = R at *
    generalize strOfNums t = s at *
    clear hp
    go_enter Tryd.func15, Tryd.ntmps15
    go_wp2_with fail
    go_ret
    exact ⟨c_is HE.out, HB.out _⟩
  subst hp
  by_cases hn : 0 < n
  · have hne : l ≠ [] := by rintro rfl; have := HL.out; simp at this; omega
    have HE := hide (show PA.rightB ⟨3, 0, 0, i, f, l, t⟩ = false from by simp [PA.rightB, hne])
    clear hne
    generalize PA.rightB ⟨3, 0, 0, i, f, l, t⟩ = R at *
    generalize strOfNums t = s at *
    go_enter Tryd.func15, Tryd.ntmps15
    go_wp2_with fail
    go_ret
    exact ⟨c_is HE.out, HB.out _⟩
  obtain rfl : n = 0 := by omega
  clear hn
  have hnil : l = [] := List.eq_nil_of_length_eq_zero HL.out
  subst hnil
  by_cases hte : t = []
  rotate_left
  · have hse := str_none hte
    have HE := hide (show PA.rightB ⟨3, 0, 0, i, f, [], t⟩ = false from by simp [PA.rightB, hte])
    generalize PA.rightB ⟨3, 0, 0, i, f, [], t⟩ = R at *
    generalize strOfNums t = s at *
    clear hte
    go_enter Tryd.func15, Tryd.ntmps15
    go_wp2_with fail
    go_ret
    exact ⟨c_is HE.out, HB.out _⟩
  subst hte
  have hse : (strOfNums []).toList = [] := by rw [bytes_toList]; rfl
  generalize strOfNums [] = s at *
  have CC := hide (collected_any i)
  have CO := hide (fun w => one_any [91, 93, 80, 88, 94, 95] f w (by decide) (by decide))
  rw [show strOfNums [91, 93, 80, 88, 94, 95] = ⟨#[91, 93, 80, 88, 94, 95]⟩ from rfl, show decide (f ∈ [91, 93, 80, 88, 94, 95]) = decide (PA.opens f) from decide_eq_decide.2 (by unfold PA.opens; simp only [List.mem_cons, List.not_mem_nil, or_false])] at CO
  have EQ := hide (show PA.rightB ⟨3, 0, 0, i, f, [], []⟩ = decide (escOk i f) from by rw [rb3]; simp [evEqB])
  rw [show decide (escOk i f) = (decide (PA.okInter i) && (decide (48 ≤ f) && (decide (f ≤ 126) && (!decide (i = 0) || !decide (PA.opens f))))) from esc_b i f] at EQ
  generalize decide (PA.okInter i) = bi at *
  generalize decide (PA.opens f) = bo at *
  rcases bi with _ | _
  · have HE := hide (show PA.rightB ⟨3, 0, 0, i, f, [], []⟩ = false from by rw [EQ.out]; rfl)
    generalize PA.rightB ⟨3, 0, 0, i, f, [], []⟩ = R at *
    go_enter Tryd.func15, Tryd.ntmps15
    go_wp2_with fail
    refine (CC.out _).mono ?_
    rintro e w1 ⟨rfl, rfl⟩
    go_wp2_with fail
    go_ret
    exact ⟨c_is HE.out, HB.out _⟩
  by_cases h48 : f < 48
  · have HE := hide (show PA.rightB ⟨3, 0, 0, i, f, [], []⟩ = false from by rw [EQ.out]; simp; omega)
    generalize PA.rightB ⟨3, 0, 0, i, f, [], []⟩ = R at *
    go_enter Tryd.func15, Tryd.ntmps15
    go_wp2_with fail
    refine (CC.out _).mono ?_
    rintro e w1 ⟨rfl, rfl⟩
    go_wp2_with fail
    go_ret
    exact ⟨c_is HE.out, HB.out _⟩
  by_cases h127 : 127 ≤ f
  · have HE := hide (show PA.rightB ⟨3, 0, 0, i, f, [], []⟩ = false from by rw [EQ.out]; simp; omega)
    generalize PA.rightB ⟨3, 0, 0, i, f, [], []⟩ = R at *
    go_enter Tryd.func15, Tryd.ntmps15
    go_wp2_with fail
    refine (CC.out _).mono ?_
    rintro e w1 ⟨rfl, rfl⟩
    go_wp2_with fail
    go_ret
    exact ⟨c_is HE.out, HB.out _⟩
  by_cases hi0 : i = 0
  · subst hi0
    have HE := hide (show PA.rightB ⟨3, 0, 0, 0, f, [], []⟩ = !bo from by rw [EQ.out, show decide (48 ≤ f) = true from by simp; omega, show decide (f ≤ 126) = true from by simp; omega]; simp)
    generalize PA.rightB ⟨3, 0, 0, 0, f, [], []⟩ = R at *
    go_enter Tryd.func15, Tryd.ntmps15
    go_wp2_with fail
    refine (CC.out _).mono ?_
    rintro e w1 ⟨rfl, rfl⟩
    go_wp2_with fail
    refine (CO.out _).mono ?_
    rintro e w1 ⟨rfl, rfl⟩
    go_wp2_with fail
    go_ret
    exact ⟨c_is HE.out, HB.out _⟩
  · have di : (i != 0) = true := by simpa using hi0
    have HE := hide (show PA.rightB ⟨3, 0, 0, i, f, [], []⟩ = true from by rw [EQ.out]; simp [hi0]; omega)
    clear hi0
    generalize PA.rightB ⟨3, 0, 0, i, f, [], []⟩ = R at *
    go_enter Tryd.func15, Tryd.ntmps15
    go_wp2_with fail
    refine (CC.out _).mono ?_
    rintro e w1 ⟨rfl, rfl⟩
    go_wp2_with fail
    go_ret
    exact ⟨c_is HE.out, HB.out _⟩
end Go.Proofs.YtnnjppgmadmmaaaDoor
set_option maxRecDepth 100000
namespace Go.Proofs.YtnnjppgmadmmaaaDoor
open Go.RowKit
set_option linter.unusedVariables false
set_option maxHeartbeats 4000000 in
theorem refRight5 (r p i f : Int) (A : Option Addr) (n c : Nat) (l t : List Int) (w : World) (hA : Seen w w.heap.size A n (i64s l)) (h0 : 0 ≤ f) (ht : ∀ x ∈ t, 0 ≤ x ∧ x < 256) (hr0 : -2147483648 ≤ r) (hr1 : r ≤ 2147483647) (hn9 : n ≤ 1099511627776) (ht9 : t.length ≤ 1099511627776) :
    Calls Tryd.prog 15 #[.agg #[.int .i64 5, .int .i32 r, .int .u8 p, .int .u8 i, .int .u8 f, .slice A n c, .string (strOfNums t)]] w fun e w' => e = .returned (.bool (PA.rightB ⟨5, r, p, i, f, l, t⟩)) ∧ Below w.heap.size w w' := by
  have HB := hide (fun o : Obj => (Below.refl w.heap.size w).alloc (Nat.le_refl _) o)
  have hl : l.length = n := by simpa [i64s] using hA.1
  have hR : ∀ R, PA.rightB ⟨5, r, p, i, f, l, t⟩ = R → PA.rightB ⟨5, r, p, i, f, l, t⟩ = R := fun _ h => h
  have HA := hide hA
  have HL := hide hl
  have HT := hide ht
  clear hA hl ht
  by_cases hr : r = 0
  rotate_left
  · have dr : (r != 0) = true := by simpa using hr
    have HE := hide (show PA.rightB ⟨5, r, p, i, f, l, t⟩ = false from by simp [PA.rightB, hr])
    generalize PA.rightB ⟨5, r, p, i, f, l, t⟩ = R at *
    generalize strOfNums t = s at *
    clear hr
    go_enter Tryd.func15, Tryd.ntmps15
    go_wp2_with fail
    go_ret
    exact ⟨c_is HE.out, HB.out _⟩
  subst hr
  by_cases hp : p = 0
  rotate_left
  · have dp : (p != 0) = true := by simpa using hp
    have HE := hide (show PA.rightB ⟨5, 0, p, i, f, l, t⟩ = false from by simp [PA.rightB, hp])
    generalize PA.rightB ⟨5, 0, p, i, f, l, t⟩ = R at *
    generalize strOfNums t = s at *
    clear hp
    go_enter Tryd.func15, Tryd.ntmps15
    go_wp2_with fail
    go_ret
    exact ⟨c_is HE.out, HB.out _⟩
  subst hp
  by_cases hn : 0 < n
  · have hne : l ≠ [] := by rintro rfl; have := HL.out; simp at this; omega
    have HE := hide (show PA.rightB ⟨5, 0, 0, i, f, l, t⟩ = false from by simp [PA.rightB, hne])
    clear hne
    generalize PA.rightB ⟨5, 0, 0, i, f, l, t⟩ = R at *
    generalize strOfNums t = s at *
    go_enter Tryd.func15, Tryd.ntmps15
    go_wp2_with fail
    go_ret
    exact ⟨c_is HE.out, HB.out _⟩
  obtain rfl : n = 0 := by omega
  clear hn
  have hnil : l = [] := List.eq_nil_of_length_eq_zero HL.out
  subst hnil
  by_cases hi : i = 0
  rotate_left
  · have di : (i != 0) = true := by simpa using hi
    have HE := hide (show PA.rightB ⟨5, 0, 0, i, f, [], t⟩ = false from by simp [PA.rightB, hi])
    generalize PA.rightB ⟨5, 0, 0, i, f, [], t⟩ = R at *
    generalize strOfNums t = s at *
    clear hi
    go_enter Tryd.func15, Tryd.ntmps15
    go_wp2_with fail
    go_ret
    exact ⟨c_is HE.out, HB.out _⟩
  subst hi
  by_cases hf : f = 0
  rotate_left
  · have df : (f != 0) = true := by simpa using hf
    have HE := hide (show PA.rightB ⟨5, 0, 0, 0, f, [], t⟩ = false from by simp [PA.rightB, hf])
    generalize PA.rightB ⟨5, 0, 0, 0, f, [], t⟩ = R at *
    generalize strOfNums t = s at *
    clear hf
    go_enter Tryd.func15, Tryd.ntmps15
    go_wp2_with fail
    go_ret
    exact ⟨c_is HE.out, HB.out _⟩
  subst hf
  have hs : (strOfNums t).size = t.length := strOfNums_size t
  have AT := hide (fun k x (hx : t[k]? = some x) (hk : k < (strOfNums t).size) => str_at t k x hx (HT.out x (List.mem_of_getElem? hx)).1 (HT.out x (List.mem_of_getElem? hx)).2 hk)
  have RB := hide (show PA.rightB ⟨5, 0, 0, 0, 0, [], t⟩ = decide (okText t) from by rw [rb5]; simp [evEqB])
  generalize PA.rightB ⟨5, 0, 0, 0, 0, [], t⟩ = R at *
  generalize hm : t.length = m at *
  generalize strOfNums t = s at *
  have HM := hide hm
  clear hm
  go_enter Tryd.func15, Tryd.ntmps15
  go_wp2_with fail
  go_loopw [6] (fun i wr => ∃ k : Nat, k ≤ m ∧ i = .int .i64 k ∧ wr = w.alloc (.cells #[.int .i64 5, .int .i32 0, .int .u8 0, .int .u8 0, .int .u8 0, .slice A 0 c, .string s] 24) ∧ Hid (∀ x ∈ t.take k, 32 ≤ x ∧ x < 256)) (fun i _ => m - (intOf i).toNat)
  case atStart => exact ⟨0, Nat.zero_le _, rfl, rfl, hide (by simp)⟩
  case round =>
    obtain ⟨k, hk, rfl, rfl, HK⟩ := hrel
    by_cases hlt : k < m
    · obtain ⟨x, hx⟩ : ∃ x, t[k]? = some x := ⟨_, List.getElem?_eq_getElem (by have := HM.out; omega)⟩
      have hkk : k < s.size := by omega
      have hb : ((s[k]'hkk).toNat : Int) = x := AT.out k x hx hkk
      have hxr := HT.out x (List.mem_of_getElem? hx)
      have HX := hide hx
      clear hx
      by_cases h32 : x < 32
      · have HE := hide (show R = false from by rw [RB.out, decide_eq_false_iff_not]; exact fun hh => by have := hh.2 x (List.mem_of_getElem? HX.out); omega)
        go_wp2_with fail
        go_ret
        exact ⟨c_is HE.out, HB.out _⟩
      · have HT2 := hide (ok_more (q := fun x => 32 ≤ x ∧ x < 256) HK.out HX.out (by omega))
        go_wp2_with fail
        go_roundw
        case rel => exact ⟨k + 1, by omega, by go_num, by trivial, HT2⟩
        case measure => simp [intOf]; omega
    · obtain rfl : k = m := by omega
      have HF := hide (show ∀ x ∈ t, 32 ≤ x ∧ x < 256 from by
        have := HK.out
        rwa [List.take_of_length_le (by rw [HM.out]; omega)] at this)
      have HE := hide (show R = decide (k ≤ 4096) from by rw [RB.out]; exact decide_eq_decide.2 ⟨fun h => by have := h.1; rw [HM.out] at this; exact this, fun h => ⟨by rw [HM.out]; exact h, HF.out⟩⟩)
      have HE2 := hide (show R = decide ((k : Int) ≤ 4096) from HE.out.trans (decide_eq_decide.2 (by omega)))
      go_wp2_with fail
      go_ret
      exact ⟨c_is HE2.out, HB.out _⟩
end Go.Proofs.YtnnjppgmadmmaaaDoor
set_option maxRecDepth 100000
namespace Go.Proofs.YtnnjppgmadmmaaaDoor
open Go.RowKit
set_option linter.unusedVariables false
set_option maxHeartbeats 4000000 in
theorem refRight4 (r p i f : Int) (A : Option Addr) (n c : Nat) (l t : List Int) (w : World) (hA : Seen w w.heap.size A n (i64s l)) (h0 : 0 ≤ f) (ht : ∀ x ∈ t, 0 ≤ x ∧ x < 256) (hr0 : -2147483648 ≤ r) (hr1 : r ≤ 2147483647) (hn9 : n ≤ 1099511627776) (ht9 : t.length ≤ 1099511627776) :
    Calls Tryd.prog 15 #[.agg #[.int .i64 4, .int .i32 r, .int .u8 p, .int .u8 i, .int .u8 f, .slice A n c, .string (strOfNums t)]] w fun e w' => e = .returned (.bool (PA.rightB ⟨4, r, p, i, f, l, t⟩)) ∧ Below w.heap.size w w' := by
  have HB := hide (fun o : Obj => (Below.refl w.heap.size w).alloc (Nat.le_refl _) o)
  have hl : l.length = n := by simpa [i64s] using hA.1
  have hR : ∀ R, PA.rightB ⟨4, r, p, i, f, l, t⟩ = R → PA.rightB ⟨4, r, p, i, f, l, t⟩ = R := fun _ h => h
  have HA := hide hA
  have HL := hide hl
  have HT := hide ht
  clear hA hl ht
  by_cases hr : r = 0
  rotate_left
  · have dr : (r != 0) = true := by simpa using hr
    have HE := hide (show PA.rightB ⟨4, r, p, i, f, l, t⟩ = false from by simp [PA.rightB, hr])
    generalize PA.rightB ⟨4, r, p, i, f, l, t⟩ = R at *
    generalize strOfNums t = s at *
    clear hr
    go_enter Tryd.func15, Tryd.ntmps15
    go_wp2_with fail
    go_ret
    exact ⟨c_is HE.out, HB.out _⟩
  subst hr
  by_cases hte : t = []
  rotate_left
  · have hse := str_none hte
    have HE := hide (show PA.rightB ⟨4, 0, p, i, f, l, t⟩ = false from by simp [PA.rightB, hte])
    generalize PA.rightB ⟨4, 0, p, i, f, l, t⟩ = R at *
    generalize strOfNums t = s at *
    clear hte
    go_enter Tryd.func15, Tryd.ntmps15
    go_wp2_with fail
    go_ret
    exact ⟨c_is HE.out, HB.out _⟩
  subst hte
  have hse : (strOfNums []).toList = [] := by rw [bytes_toList]; rfl
  generalize strOfNums [] = s at *
  have CC := hide (collected_any i)
  have CO := hide (fun w => one_any [60, 61, 62, 63] p w (by decide) (by decide))
  rw [show strOfNums [60, 61, 62, 63] = ⟨#[60, 61, 62, 63]⟩ from rfl, show decide (p ∈ [60, 61, 62, 63]) = decide (60 ≤ p ∧ p ≤ 63) from decide_eq_decide.2 (by simp only [List.mem_cons, List.not_mem_nil, or_false]; omega)] at CO
  have RB := hide (show PA.rightB ⟨4, 0, p, i, f, l, []⟩ = (decide (64 ≤ f) && (decide (f ≤ 126) && (decide (PA.okInter i) && ((decide (p = 0) || decide (60 ≤ p ∧ p ≤ 63)) && decide (okParams l))))) from by rw [rb4]; rw [show decide (PA.okPriv p) = (decide (p = 0) || decide (60 ≤ p ∧ p ≤ 63)) from Bool.eq_iff_iff.2 (by rw [Bool.or_eq_true, decide_eq_true_iff, decide_eq_true_iff, decide_eq_true_iff]; exact Iff.rfl)]; simp)
  generalize PA.rightB ⟨4, 0, p, i, f, l, []⟩ = R at *
  generalize decide (PA.okInter i) = bi at *
  generalize decide (60 ≤ p ∧ p ≤ 63) = bp at *
  have HA1 := hide (show Seen (w.alloc (.cells #[.int .i64 4, .int .i32 0, .int .u8 p, .int .u8 i, .int .u8 f, .slice A n c, .string s] 24)) w.heap.size A n (i64s l) from HA.out.alloc (Nat.le_refl _) _)
  go_enter Tryd.func15, Tryd.ntmps15
  go_wp2_with fail
  go_loopw [151] (fun j wr => ∃ k : Nat, k ≤ n ∧ j = .int .i64 k ∧ wr = w.alloc (.cells #[.int .i64 4, .int .i32 0, .int .u8 p, .int .u8 i, .int .u8 f, .slice A n c, .string s] 24) ∧ Hid (∀ x ∈ l.take k, -1 ≤ x ∧ x ≤ 65535)) (fun j _ => n - (intOf j).toNat)
  case atStart => exact ⟨0, Nat.zero_le _, rfl, rfl, hide (by simp)⟩
  case round =>
    obtain ⟨k, hk, rfl, rfl, HK⟩ := hrel
    by_cases hlt : k < n
    · obtain ⟨ad, u, rfl, _, hu, hc⟩ := HA1.out.at_ hlt
      rw [i64s, List.getElem?_map] at hu
      obtain ⟨x, hx, rfl⟩ := Option.map_eq_some_iff.1 hu
      clear hu
      have HX := hide hx
      clear hx
      by_cases hx0 : x < -1
      · have HE := hide (show R = false from by rw [RB.out, show decide (okParams l) = false from decide_eq_false fun hh => by have := hh.2.1 x (List.mem_of_getElem? HX.out); omega]; simp)
        go_wp2_with fail
        go_ret
        exact ⟨c_is HE.out, HB.out _⟩
      by_cases hx1 : 65535 < x
      · have HE := hide (show R = false from by rw [RB.out, show decide (okParams l) = false from decide_eq_false fun hh => by have := hh.2.1 x (List.mem_of_getElem? HX.out); omega]; simp)
        go_wp2_with fail
        go_ret
        exact ⟨c_is HE.out, HB.out _⟩
      · have HT2 := hide (ok_more (q := fun x => -1 ≤ x ∧ x ≤ 65535) HK.out HX.out (by omega))
        go_wp2_with fail
        go_roundw
        case rel => exact ⟨k + 1, by omega, by go_num, by trivial, HT2⟩
        case measure => simp [intOf]; omega
    · obtain rfl : k = n := by omega
      have HF := hide (show ∀ x ∈ l, -1 ≤ x ∧ x ≤ 65535 from by
        have := HK.out
        rwa [List.take_of_length_le (by rw [HL.out]; omega)] at this)
      clear HK
      rcases bi with _ | _
      · have HE := hide (show R = false from by rw [RB.out]; simp)
        go_wp2_with fail
        refine (CC.out _).mono ?_
        rintro e w1 ⟨rfl, rfl⟩
        go_wp2_with fail
        go_ret
        exact ⟨c_is HE.out, HB.out _⟩
      have d1 : ∀ q, decide (okParams l) = q → decide (okParams l) = q := fun _ h => h
      by_cases h64 : f < 64
      · have HE := hide (show R = false from by rw [RB.out]; simp; omega)
        go_wp2_with fail
        refine (CC.out _).mono ?_
        rintro e w1 ⟨rfl, rfl⟩
        go_wp2_with fail
        go_ret
        exact ⟨c_is HE.out, HB.out _⟩
      by_cases h127 : 127 ≤ f
      · have HE := hide (show R = false from by rw [RB.out]; simp; omega)
        go_wp2_with fail
        refine (CC.out _).mono ?_
        rintro e w1 ⟨rfl, rfl⟩
        go_wp2_with fail
        go_ret
        exact ⟨c_is HE.out, HB.out _⟩
      rw [show decide (64 ≤ f) = true from by simp; omega, show decide (f ≤ 126) = true from by simp; omega, Bool.true_and, Bool.true_and, Bool.true_and] at RB
      by_cases hp0 : p = 0
      · subst hp0
        rw [show decide ((0 : Int) = 0) = true from rfl, Bool.true_or, Bool.true_and] at RB
        by_cases h16 : 16 < k
        · have HE := hide (show R = false from RB.out.trans (decide_eq_false fun hh => by have := hh.1; rw [HL.out] at this; omega))
          go_wp2_with fail
          refine (CC.out _).mono ?_
          rintro e w1 ⟨rfl, rfl⟩
          go_wp2_with fail
          go_ret
          exact ⟨c_is HE.out, HB.out _⟩
        by_cases h1 : k = 1
        · subst h1
          obtain ⟨ad, u, rfl, _, hu, hc⟩ := HA1.out.at_ (k := 0) (by omega)
          rw [i64s, List.getElem?_map] at hu
          obtain ⟨x, hx, rfl⟩ := Option.map_eq_some_iff.1 hu
          rw [show ad.add 0 = ad from by simp [Addr.add]] at hc
          have hll : l = [x] := by
            have hlen := HL.out
            rcases l with _ | ⟨y, _ | ⟨z, l⟩⟩ <;> simp at hlen hx
            subst hx
            rfl
          have HLL := hide hll
          clear hll hx hu
          by_cases hx1 : x = -1
          · subst hx1
            have HE := hide (show R = false from RB.out.trans (decide_eq_false fun hh => hh.2.2 HLL.out))
            go_wp2_with fail
            refine (CC.out _).mono ?_
            rintro e w1 ⟨rfl, rfl⟩
            go_wp2_with fail
            go_ret
            exact ⟨c_is HE.out, HB.out _⟩
          · have hd : (x != -1) = true := by simpa using hx1
            have HE := hide (show R = true from RB.out.trans (decide_eq_true ⟨by rw [HL.out]; omega, HF.out, by rw [HLL.out]; simpa using hx1⟩))
            clear hx1
            go_wp2_with fail
            refine (CC.out _).mono ?_
            rintro e w1 ⟨rfl, rfl⟩
            go_wp2_with fail
            go_ret
            exact ⟨c_is HE.out, HB.out _⟩
        · have hd : ((k : Int) != 1) = true := by simp; omega
          have HE := hide (show R = true from RB.out.trans (decide_eq_true ⟨by rw [HL.out]; omega, HF.out, fun e => h1 (by rw [← HL.out, e]; rfl)⟩))
          go_wp2_with fail
          refine (CC.out _).mono ?_
          rintro e w1 ⟨rfl, rfl⟩
          go_wp2_with fail
          go_ret
          exact ⟨c_is HE.out, HB.out _⟩
      · have dp : (p == 0) = false := by simpa using hp0
        rw [show decide (p = 0) = false from by simpa using hp0, Bool.false_or] at RB
        clear hp0
        rcases bp with _ | _
        · have HE := hide (show R = false from by rw [RB.out]; rfl)
          go_wp2_with fail
          refine (CC.out _).mono ?_
          rintro e w1 ⟨rfl, rfl⟩
          go_wp2_with fail
          refine (CO.out _).mono ?_
          rintro e w1 ⟨rfl, rfl⟩
          go_wp2_with fail
          go_ret
          exact ⟨c_is HE.out, HB.out _⟩
        rw [Bool.true_and] at RB
        by_cases h16 : 16 < k
        · have HE := hide (show R = false from RB.out.trans (decide_eq_false fun hh => by have := hh.1; rw [HL.out] at this; omega))
          go_wp2_with fail
          refine (CC.out _).mono ?_
          rintro e w1 ⟨rfl, rfl⟩
          go_wp2_with fail
          refine (CO.out _).mono ?_
          rintro e w1 ⟨rfl, rfl⟩
          go_wp2_with fail
          go_ret
          exact ⟨c_is HE.out, HB.out _⟩
        by_cases h1 : k = 1
        · subst h1
          obtain ⟨ad, u, rfl, _, hu, hc⟩ := HA1.out.at_ (k := 0) (by omega)
          rw [i64s, List.getElem?_map] at hu
          obtain ⟨x, hx, rfl⟩ := Option.map_eq_some_iff.1 hu
          rw [show ad.add 0 = ad from by simp [Addr.add]] at hc
          have hll : l = [x] := by
            have hlen := HL.out
            rcases l with _ | ⟨y, _ | ⟨z, l⟩⟩ <;> simp at hlen hx
            subst hx
            rfl
          have HLL := hide hll
          clear hll hx hu
          by_cases hx1 : x = -1
          · subst hx1
            have HE := hide (show R = false from RB.out.trans (decide_eq_false fun hh => hh.2.2 HLL.out))
            go_wp2_with fail
            refine (CC.out _).mono ?_
            rintro e w1 ⟨rfl, rfl⟩
            go_wp2_with fail
            refine (CO.out _).mono ?_
            rintro e w1 ⟨rfl, rfl⟩
            go_wp2_with fail
            go_ret
            exact ⟨c_is HE.out, HB.out _⟩
          · have hd : (x != -1) = true := by simpa using hx1
            have HE := hide (show R = true from RB.out.trans (decide_eq_true ⟨by rw [HL.out]; omega, HF.out, by rw [HLL.out]; simpa using hx1⟩))
            clear hx1
            go_wp2_with fail
            refine (CC.out _).mono ?_
            rintro e w1 ⟨rfl, rfl⟩
            go_wp2_with fail
            refine (CO.out _).mono ?_
            rintro e w1 ⟨rfl, rfl⟩
            go_wp2_with fail
            go_ret
            exact ⟨c_is HE.out, HB.out _⟩
        · have hd : ((k : Int) != 1) = true := by simp; omega
          have HE := hide (show R = true from RB.out.trans (decide_eq_true ⟨by rw [HL.out]; omega, HF.out, fun e => h1 (by rw [← HL.out, e]; rfl)⟩))
          go_wp2_with fail
          refine (CC.out _).mono ?_
          rintro e w1 ⟨rfl, rfl⟩
          go_wp2_with fail
          refine (CO.out _).mono ?_
          rintro e w1 ⟨rfl, rfl⟩
          go_wp2_with fail
          go_ret
          exact ⟨c_is HE.out, HB.out _⟩
theorem refRight_any (k r p i f : Int) (A : Option Addr) (n c : Nat) (l t : List Int) (w : World) (hA : Seen w w.heap.size A n (i64s l)) (h0 : 0 ≤ f) (ht : ∀ x ∈ t, 0 ≤ x ∧ x < 256) (hr0 : -2147483648 ≤ r) (hr1 : r ≤ 2147483647) (hn9 : n ≤ 1099511627776) (ht9 : t.length ≤ 1099511627776) :
    Calls Tryd.prog 15 #[.agg #[.int .i64 k, .int .i32 r, .int .u8 p, .int .u8 i, .int .u8 f, .slice A n c, .string (strOfNums t)]] w fun e w' => e = .returned (.bool (PA.rightB ⟨k, r, p, i, f, l, t⟩)) ∧ Below w.heap.size w w' := by
  by_cases g1 : k = 1
  · subst g1; exact refRight1 r p i f A n c l t w hA h0 ht hr0 hr1 hn9 ht9
  by_cases g2 : k = 2
  · subst g2; exact refRight2 r p i f A n c l t w hA h0 ht hr0 hr1 hn9 ht9
  by_cases g3 : k = 3
  · subst g3; exact refRight3 r p i f A n c l t w hA h0 ht hr0 hr1
  by_cases g4 : k = 4
  · subst g4; exact refRight4 r p i f A n c l t w hA h0 ht hr0 hr1 hn9 ht9
  by_cases g5 : k = 5
  · subst g5; exact refRight5 r p i f A n c l t w hA h0 ht hr0 hr1 hn9 ht9
  exact refRightk k r p i f A n c l t w g1 g2 g3 g4 g5 hA h0 ht hr0 hr1 hn9 ht9
end Go.Proofs.YtnnjppgmadmmaaaDoor
