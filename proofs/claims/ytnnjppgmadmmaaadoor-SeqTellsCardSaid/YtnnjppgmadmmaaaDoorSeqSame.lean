/- The contract of seq's Same: are two events alike in all that is in them? The contracts of seq's rightCsi, Right. -/
import Derived.Test.YtnnjppgmadmmaaaDoorSeqSmall
import Derived.Test.YtnnjppgmadmmaaaDoorEqual
import Derived.Test.YtnnjppgmadmmaaaDoorParseEvents
set_option maxRecDepth 100000
namespace Go.Proofs.YtnnjppgmadmmaaaDoor
open Go.RowKit
set_option linter.unusedVariables false
theorem bytes_toList (l : List Int) : (strOfNums l).toList = l.map fun n => UInt8.ofNat n.toNat := by
  rw [ByteArray.toList_eq]
  simp [strOfNums]
theorem map_u8_inj : ∀ {l m : List Int}, (∀ x ∈ l, 0 ≤ x ∧ x < 256) → (∀ x ∈ m, 0 ≤ x ∧ x < 256) → l.map (fun n => UInt8.ofNat n.toNat) = m.map (fun n => UInt8.ofNat n.toNat) → l = m
  | [], [], _, _, _ => rfl
  | [], y :: m, _, _, h => by simp at h
  | x :: l, [], _, _, h => by simp at h
  | x :: l, y :: m, hl, hm, h => by
    simp only [List.map_cons, List.cons.injEq] at h
    have hx := hl x (by simp)
    have hy := hm y (by simp)
    have e : x = y := by
      have := congrArg UInt8.toNat h.1
      simp at this
      omega
    rw [e, map_u8_inj (fun z hz => hl z (List.mem_cons_of_mem _ hz)) (fun z hz => hm z (List.mem_cons_of_mem _ hz)) h.2]
theorem strOfNums_eq {l m : List Int} (hl : ∀ x ∈ l, 0 ≤ x ∧ x < 256) (hm : ∀ x ∈ m, 0 ≤ x ∧ x < 256) : ((strOfNums l).toList == (strOfNums m).toList) = decide (l = m) := by
  rw [bytes_toList, bytes_toList, Bool.eq_iff_iff, beq_iff_eq, decide_eq_true_iff]
  exact ⟨map_u8_inj hl hm, fun e => by rw [e]⟩
/-- alike in all -/
def evEqB (a b : PA.Ev) : Bool := decide (a.kind = b.kind) && (decide (a.rune = b.rune) && (decide (a.priv = b.priv) && (decide (a.inter = b.inter) && (decide (a.final = b.final) && (decide (a.params = b.params) && decide (a.text = b.text))))))
theorem evEqB_iff (a b : PA.Ev) : evEqB a b = true ↔ a = b := by
  obtain ⟨a1, a2, a3, a4, a5, a6, a7⟩ := a
  obtain ⟨b1, b2, b3, b4, b5, b6, b7⟩ := b
  simp [evEqB]
set_option maxHeartbeats 2000000 in
theorem seqSame_any (k r p i f k' r' p' i' f' : Int) (A A' : Option Addr) (n c n' c' : Nat) (l l' t t' : List Int) (w : World) (hA : Seen w w.heap.size A n (i64s l)) (hA' : Seen w w.heap.size A' n' (i64s l')) (hn : n ≤ 1099511627776) (ht : ∀ x ∈ t, 0 ≤ x ∧ x < 256) (ht' : ∀ x ∈ t', 0 ≤ x ∧ x < 256) :
    Calls Tryd.prog 13 #[.agg #[.int .i64 k, .int .i32 r, .int .u8 p, .int .u8 i, .int .u8 f, .slice A n c, .string (strOfNums t)], .agg #[.int .i64 k', .int .i32 r', .int .u8 p', .int .u8 i', .int .u8 f', .slice A' n' c', .string (strOfNums t')]] w fun e w' => e = .returned (.bool (evEqB ⟨k, r, p, i, f, l, t⟩ ⟨k', r', p', i', f', l', t'⟩)) ∧ Below w.heap.size w w' := by
  have hts := strOfNums_eq ht ht'
  have hB : ∀ o o' : Obj, Below w.heap.size w ((w.alloc o).alloc o') := fun o o' => ((Below.refl _ _).alloc (Nat.le_refl _) _).alloc (by simp) _
  have EQ := hide (fun o o' => equal_i64 l l' A A' w.heap.size w.heap.size n c n' c' ((w.alloc o).alloc o') ((hA.alloc (Nat.le_refl _) _).alloc (by simp) _) ((hA'.alloc (Nat.le_refl _) _).alloc (by simp) _) hn)
  have HB := hide hB
  have HF := hide (fun (x : Bool) (h : evEqB ⟨k, r, p, i, f, l, t⟩ ⟨k', r', p', i', f', l', t'⟩ = x) => c_bool h.symm)
  clear hA hA' hn ht ht' hB
  generalize strOfNums t = s at *
  generalize strOfNums t' = s' at *
  by_cases hk : k = k'
  rotate_left
  · have dk : (k == k') = false := by simpa using hk
    have HE := hide (show evEqB ⟨k, r, p, i, f, l, t⟩ ⟨k', r', p', i', f', l', t'⟩ = false by simp [evEqB, hk])
    clear hk hts
    go_enter Tryd.func13, Tryd.ntmps13
    go_wp2_with fail
    go_ret
    exact ⟨HF.out _ HE.out, HB.out _ _⟩
  subst hk
  by_cases hr : r = r'
  rotate_left
  · have dr : (r == r') = false := by simpa using hr
    have HE := hide (show evEqB ⟨k, r, p, i, f, l, t⟩ ⟨k, r', p', i', f', l', t'⟩ = false by simp [evEqB, hr])
    clear hr hts
    go_enter Tryd.func13, Tryd.ntmps13
    go_wp2_with fail
    go_ret
    exact ⟨HF.out _ HE.out, HB.out _ _⟩
  subst hr
  by_cases hp : p = p'
  rotate_left
  · have dp : (p == p') = false := by simpa using hp
    have HE := hide (show evEqB ⟨k, r, p, i, f, l, t⟩ ⟨k, r, p', i', f', l', t'⟩ = false by simp [evEqB, hp])
    clear hp hts
    go_enter Tryd.func13, Tryd.ntmps13
    go_wp2_with fail
    go_ret
    exact ⟨HF.out _ HE.out, HB.out _ _⟩
  subst hp
  by_cases hi : i = i'
  rotate_left
  · have di : (i == i') = false := by simpa using hi
    have HE := hide (show evEqB ⟨k, r, p, i, f, l, t⟩ ⟨k, r, p, i', f', l', t'⟩ = false by simp [evEqB, hi])
    clear hi hts
    go_enter Tryd.func13, Tryd.ntmps13
    go_wp2_with fail
    go_ret
    exact ⟨HF.out _ HE.out, HB.out _ _⟩
  subst hi
  by_cases hf : f = f'
  rotate_left
  · have df : (f == f') = false := by simpa using hf
    have HE := hide (show evEqB ⟨k, r, p, i, f, l, t⟩ ⟨k, r, p, i, f', l', t'⟩ = false by simp [evEqB, hf])
    clear hf hts
    go_enter Tryd.func13, Tryd.ntmps13
    go_wp2_with fail
    go_ret
    exact ⟨HF.out _ HE.out, HB.out _ _⟩
  subst hf
  by_cases hl : l = l'
  rotate_left
  · have dl : decide (l = l') = false := by simpa using hl
    rw [dl] at EQ
    have HE := hide (show evEqB ⟨k, r, p, i, f, l, t⟩ ⟨k, r, p, i, f, l', t'⟩ = false by simp [evEqB, hl])
    clear hl dl hts
    go_enter Tryd.func13, Tryd.ntmps13
    go_wp2_with fail
    refine (EQ.out _ _).mono ?_
    rintro e w1 ⟨rfl, q, rfl⟩
    go_wp2_with fail
    go_ret
    exact ⟨HF.out _ HE.out, below_drewN (HB.out _ _) _⟩
  subst hl
  have dl : decide (l = l) = true := by simp
  rw [dl] at EQ
  have HE := hide (show evEqB ⟨k, r, p, i, f, l, t⟩ ⟨k, r, p, i, f, l, t'⟩ = decide (t = t') by simp [evEqB])
  rw [← hts] at HE
  clear dl hts
  go_enter Tryd.func13, Tryd.ntmps13
  go_wp2_with fail
  refine (EQ.out _ _).mono ?_
  rintro e w1 ⟨rfl, q, rfl⟩
  go_wp2_with fail
  go_ret
  exact ⟨HF.out _ HE.out, below_drewN (HB.out _ _) _⟩
end Go.Proofs.YtnnjppgmadmmaaaDoor
set_option maxRecDepth 100000
namespace Go.Proofs.YtnnjppgmadmmaaaDoor
open Go.RowKit
set_option linter.unusedVariables false
theorem c_is {a b : Bool} (h : a = b) : Ending.returned (.bool b) = .returned (.bool a) := by rw [h]
set_option maxHeartbeats 1000000 in
theorem rightCsi_any (k r p i f : Int) (A : Option Addr) (n c : Nat) (l t : List Int) (w : World) (hA : Seen w w.heap.size A n (i64s l)) :
    Calls Tryd.prog 34 #[.agg #[.int .i64 k, .int .i32 r, .int .u8 p, .int .u8 i, .int .u8 f, .slice A n c, .string (strOfNums t)]] w fun e w' => e = .returned (.bool (decide (64 ≤ f) && (decide (f ≤ 126) && (decide (PA.okInter i) && (decide (PA.okPriv p) && decide (okParams l)))))) ∧ Below w.heap.size w w' := by
  have HB := hide (fun o : Obj => (Below.refl w.heap.size w).alloc (Nat.le_refl _) o)
  have CP := hide (fun o : Obj => rightParams_any A n c l (w.alloc o) ((hA.alloc (Nat.le_refl _) _).more (by simp)))
  have CI := hide (rightInter_any i)
  have CV := hide (rightPriv_any p)
  clear hA
  generalize strOfNums t = s at *
  generalize hr : (decide (64 ≤ f) && (decide (f ≤ 126) && (decide (PA.okInter i) && (decide (PA.okPriv p) && decide (okParams l))))) = R
  by_cases h0 : f < 64
  · have HE := hide (show R = false by rw [← hr]; simp; omega)
    clear hr
    go_enter Tryd.func34, Tryd.ntmps34
    go_wp2_with fail
    go_ret
    exact ⟨c_is HE.out, HB.out _⟩
  by_cases h1 : 126 < f
  · have HE := hide (show R = false by rw [← hr]; simp; omega)
    clear hr
    go_enter Tryd.func34, Tryd.ntmps34
    go_wp2_with fail
    go_ret
    exact ⟨c_is HE.out, HB.out _⟩
  have d0 : decide (64 ≤ f) = true := by simp; omega
  have d1 : decide (f ≤ 126) = true := by simp; omega
  rw [d0, d1, Bool.true_and, Bool.true_and] at hr
  generalize decide (PA.okInter i) = bi at *
  generalize decide (PA.okPriv p) = bp at *
  generalize decide (okParams l) = bl at *
  rcases bi with _ | _
  · have HE := hide (show R = false by rw [← hr]; rfl)
    clear hr
    go_enter Tryd.func34, Tryd.ntmps34
    go_wp2_with fail
    refine (CI.out _).mono ?_
    rintro e w1 ⟨rfl, rfl⟩
    go_wp2_with fail
    go_ret
    exact ⟨c_is HE.out, HB.out _⟩
  rcases bp with _ | _
  · have HE := hide (show R = false by rw [← hr]; rfl)
    clear hr
    go_enter Tryd.func34, Tryd.ntmps34
    go_wp2_with fail
    refine (CI.out _).mono ?_
    rintro e w1 ⟨rfl, rfl⟩
    go_wp2_with fail
    refine (CV.out _).mono ?_
    rintro e w1 ⟨rfl, rfl⟩
    go_wp2_with fail
    go_ret
    exact ⟨c_is HE.out, HB.out _⟩
  · have HE := hide (show R = bl by rw [← hr]; rfl)
    clear hr
    go_enter Tryd.func34, Tryd.ntmps34
    go_wp2_with fail
    refine (CI.out _).mono ?_
    rintro e w1 ⟨rfl, rfl⟩
    go_wp2_with fail
    refine (CV.out _).mono ?_
    rintro e w1 ⟨rfl, rfl⟩
    go_wp2_with fail
    refine (CP.out _).mono ?_
    rintro e w1 ⟨rfl, rfl⟩
    go_wp2_with fail
    go_ret
    exact ⟨c_is HE.out, HB.out _⟩
theorem rb1 (r p i f : Int) (l t : List Int) : PA.rightB ⟨1, r, p, i, f, l, t⟩ = (decide (PA.okRune r) && evEqB ⟨1, r, p, i, f, l, t⟩ ⟨1, r, 0, 0, 0, [], []⟩) := by
  rw [Bool.eq_iff_iff, Bool.and_eq_true, evEqB_iff, decide_eq_true_iff]
  unfold PA.rightB
  rw [if_pos rfl, decide_eq_true_iff]
  simp only [PA.Ev.mk.injEq, true_and]
theorem rb2 (r p i f : Int) (l t : List Int) : PA.rightB ⟨2, r, p, i, f, l, t⟩ = (decide (okExec f) && evEqB ⟨2, r, p, i, f, l, t⟩ ⟨2, 0, 0, 0, f, [], []⟩) := by
  rw [Bool.eq_iff_iff, Bool.and_eq_true, evEqB_iff, decide_eq_true_iff]
  unfold PA.rightB okExec
  rw [if_neg (show ¬ (2 : Int) = 1 by decide), if_pos rfl, decide_eq_true_iff]
  simp only [PA.Ev.mk.injEq, true_and]
  constructor
  · rintro ⟨a, b, c, d, e, g⟩; exact ⟨g, a, b, c, d, e⟩
  · rintro ⟨g, a, b, c, d, e⟩; exact ⟨a, b, c, d, e, g⟩
theorem rb3 (r p i f : Int) (l t : List Int) : PA.rightB ⟨3, r, p, i, f, l, t⟩ = (decide (escOk i f) && evEqB ⟨3, r, p, i, f, l, t⟩ ⟨3, 0, 0, i, f, [], []⟩) := by
  rw [Bool.eq_iff_iff, Bool.and_eq_true, evEqB_iff, decide_eq_true_iff]
  unfold PA.rightB escOk
  rw [if_neg (show ¬ (3 : Int) = 1 by decide), if_neg (show ¬ (3 : Int) = 2 by decide), if_pos rfl, decide_eq_true_iff]
  simp only [PA.Ev.mk.injEq, true_and]
  constructor
  · rintro ⟨a, b, c, d, g⟩; exact ⟨g, a, b, c, d⟩
  · rintro ⟨g, a, b, c, d⟩; exact ⟨a, b, c, d, g⟩
theorem rb4 (r p i f : Int) (l t : List Int) : PA.rightB ⟨4, r, p, i, f, l, t⟩ = ((decide (64 ≤ f) && (decide (f ≤ 126) && (decide (PA.okInter i) && (decide (PA.okPriv p) && decide (okParams l))))) && (decide (r = 0) && decide (t = []))) := by
  rw [Bool.eq_iff_iff]
  unfold PA.rightB
  rw [if_neg (show ¬ (4 : Int) = 1 by decide), if_neg (show ¬ (4 : Int) = 2 by decide), if_neg (show ¬ (4 : Int) = 3 by decide), if_pos rfl, decide_eq_true_iff]
  simp only [Bool.and_eq_true, decide_eq_true_iff]
  unfold okParams
  constructor
  · rintro ⟨a, b, c, d, g, h, x, y, z⟩; exact ⟨⟨g, h, d, c, x, y, z⟩, a, b⟩
  · rintro ⟨⟨g, h, d, c, x, y, z⟩, a, b⟩; exact ⟨a, b, c, d, g, h, x, y, z⟩
theorem rb5 (r p i f : Int) (l t : List Int) : PA.rightB ⟨5, r, p, i, f, l, t⟩ = (decide (okText t) && evEqB ⟨5, r, p, i, f, l, t⟩ ⟨5, 0, 0, 0, 0, [], t⟩) := by
  rw [Bool.eq_iff_iff, Bool.and_eq_true, evEqB_iff, decide_eq_true_iff]
  unfold PA.rightB okText
  rw [if_neg (show ¬ (5 : Int) = 1 by decide), if_neg (show ¬ (5 : Int) = 2 by decide), if_neg (show ¬ (5 : Int) = 3 by decide), if_neg (show ¬ (5 : Int) = 4 by decide), if_pos rfl, decide_eq_true_iff]
  simp only [PA.Ev.mk.injEq, true_and, and_true]
  constructor
  · rintro ⟨a, b, c, d, e, g⟩; exact ⟨g, a, b, c, d, e⟩
  · rintro ⟨g, a, b, c, d, e⟩; exact ⟨a, b, c, d, e, g⟩
theorem rb0 (k r p i f : Int) (l t : List Int) (h1 : k ≠ 1) (h2 : k ≠ 2) (h3 : k ≠ 3) (h4 : k ≠ 4) (h5 : k ≠ 5) : PA.rightB ⟨k, r, p, i, f, l, t⟩ = false := by
  unfold PA.rightB
  rw [if_neg h1, if_neg h2, if_neg h3, if_neg h4, if_neg h5]
set_option maxHeartbeats 2000000 in
theorem right1 (r p i f : Int) (A : Option Addr) (n c : Nat) (l t : List Int) (w : World) (hA : Seen w w.heap.size A n (i64s l)) (hn : n ≤ 1099511627776) (h0 : 0 ≤ f) (ht : ∀ x ∈ t, 0 ≤ x ∧ x < 256) :
    Calls Tryd.prog 16 #[.agg #[.int .i64 1, .int .i32 r, .int .u8 p, .int .u8 i, .int .u8 f, .slice A n c, .string (strOfNums t)]] w fun e w' => e = .returned (.bool (PA.rightB ⟨1, r, p, i, f, l, t⟩)) ∧ Below w.heap.size w w' := by
  have HB := hide (fun o : Obj => (Below.refl w.heap.size w).alloc (Nat.le_refl _) o)
  have SM := hide (fun w1 (b1 : Below w.heap.size w w1) => seqSame_any 1 r p i f 1 r 0 0 0 A none n c 0 0 l [] t [] w1 ((hA.below b1).more b1.size) (Seen.nil_ _ _ _) hn ht (by simp))
  have CF := hide (rightRune_any r)
  have RB := hide (rb1 r p i f l t)
  generalize PA.rightB ⟨1, r, p, i, f, l, t⟩ = R at RB ⊢
  generalize evEqB ⟨1, r, p, i, f, l, t⟩ ⟨1, r, 0, 0, 0, [], []⟩ = S at *
  generalize decide (PA.okRune r) = b1 at *
  clear hA ht
  rcases b1 with _ | _
  · have HE := hide (show R = false by rw [RB.out]; rfl)
    go_enter Tryd.func16, Tryd.ntmps16
    go_wp2_with fail
    refine (CF.out _).mono ?_
    rintro e w1 ⟨rfl, rfl⟩
    go_wp2_with fail
    go_ret
    exact ⟨c_is HE.out, HB.out _⟩
  · have HE := hide (show R = S by rw [RB.out]; rfl)
    go_enter Tryd.func16, Tryd.ntmps16
    go_wp2_with fail
    refine (CF.out _).mono ?_
    rintro e w1 ⟨rfl, rfl⟩
    go_wp2_with fail
    refine (SM.out _ (HB.out _)).mono ?_
    rintro e w3 ⟨rfl, b3⟩
    have b4 := (HB.out _).trans (b3.mono (by simp))
    clear b3
    go_wp2_with fail
    go_ret
    exact ⟨c_is HE.out, b4⟩
set_option maxHeartbeats 2000000 in
theorem right2 (r p i f : Int) (A : Option Addr) (n c : Nat) (l t : List Int) (w : World) (hA : Seen w w.heap.size A n (i64s l)) (hn : n ≤ 1099511627776) (h0 : 0 ≤ f) (ht : ∀ x ∈ t, 0 ≤ x ∧ x < 256) :
    Calls Tryd.prog 16 #[.agg #[.int .i64 2, .int .i32 r, .int .u8 p, .int .u8 i, .int .u8 f, .slice A n c, .string (strOfNums t)]] w fun e w' => e = .returned (.bool (PA.rightB ⟨2, r, p, i, f, l, t⟩)) ∧ Below w.heap.size w w' := by
  have HB := hide (fun o : Obj => (Below.refl w.heap.size w).alloc (Nat.le_refl _) o)
  have SM := hide (fun w1 (b1 : Below w.heap.size w w1) => seqSame_any 2 r p i f 2 0 0 0 f A none n c 0 0 l [] t [] w1 ((hA.below b1).more b1.size) (Seen.nil_ _ _ _) hn ht (by simp))
  have CF := hide (fun w => rightExec_any f w h0)
  have RB := hide (rb2 r p i f l t)
  generalize PA.rightB ⟨2, r, p, i, f, l, t⟩ = R at RB ⊢
  generalize evEqB ⟨2, r, p, i, f, l, t⟩ ⟨2, 0, 0, 0, f, [], []⟩ = S at *
  generalize decide (okExec f) = b1 at *
  clear hA ht
  rcases b1 with _ | _
  · have HE := hide (show R = false by rw [RB.out]; rfl)
    go_enter Tryd.func16, Tryd.ntmps16
    go_wp2_with fail
    refine (CF.out _).mono ?_
    rintro e w1 ⟨rfl, rfl⟩
    go_wp2_with fail
    go_ret
    exact ⟨c_is HE.out, HB.out _⟩
  · have HE := hide (show R = S by rw [RB.out]; rfl)
    go_enter Tryd.func16, Tryd.ntmps16
    go_wp2_with fail
    refine (CF.out _).mono ?_
    rintro e w1 ⟨rfl, rfl⟩
    go_wp2_with fail
    refine (SM.out _ (HB.out _)).mono ?_
    rintro e w3 ⟨rfl, b3⟩
    have b4 := (HB.out _).trans (b3.mono (by simp))
    clear b3
    go_wp2_with fail
    go_ret
    exact ⟨c_is HE.out, b4⟩
set_option maxHeartbeats 2000000 in
theorem right3 (r p i f : Int) (A : Option Addr) (n c : Nat) (l t : List Int) (w : World) (hA : Seen w w.heap.size A n (i64s l)) (hn : n ≤ 1099511627776) (h0 : 0 ≤ f) (ht : ∀ x ∈ t, 0 ≤ x ∧ x < 256) :
    Calls Tryd.prog 16 #[.agg #[.int .i64 3, .int .i32 r, .int .u8 p, .int .u8 i, .int .u8 f, .slice A n c, .string (strOfNums t)]] w fun e w' => e = .returned (.bool (PA.rightB ⟨3, r, p, i, f, l, t⟩)) ∧ Below w.heap.size w w' := by
  have HB := hide (fun o : Obj => (Below.refl w.heap.size w).alloc (Nat.le_refl _) o)
  have SM := hide (fun w1 (b1 : Below w.heap.size w w1) => seqSame_any 3 r p i f 3 0 0 i f A none n c 0 0 l [] t [] w1 ((hA.below b1).more b1.size) (Seen.nil_ _ _ _) hn ht (by simp))
  have CF := hide (rightEsc_any i f)
  have RB := hide (rb3 r p i f l t)
  generalize PA.rightB ⟨3, r, p, i, f, l, t⟩ = R at RB ⊢
  generalize evEqB ⟨3, r, p, i, f, l, t⟩ ⟨3, 0, 0, i, f, [], []⟩ = S at *
  generalize decide (escOk i f) = b1 at *
  clear hA ht
  rcases b1 with _ | _
  · have HE := hide (show R = false by rw [RB.out]; rfl)
    go_enter Tryd.func16, Tryd.ntmps16
    go_wp2_with fail
    refine (CF.out _).mono ?_
    rintro e w1 ⟨rfl, rfl⟩
    go_wp2_with fail
    go_ret
    exact ⟨c_is HE.out, HB.out _⟩
  · have HE := hide (show R = S by rw [RB.out]; rfl)
    go_enter Tryd.func16, Tryd.ntmps16
    go_wp2_with fail
    refine (CF.out _).mono ?_
    rintro e w1 ⟨rfl, rfl⟩
    go_wp2_with fail
    refine (SM.out _ (HB.out _)).mono ?_
    rintro e w3 ⟨rfl, b3⟩
    have b4 := (HB.out _).trans (b3.mono (by simp))
    clear b3
    go_wp2_with fail
    go_ret
    exact ⟨c_is HE.out, b4⟩
set_option maxHeartbeats 2000000 in
theorem right5 (r p i f : Int) (A : Option Addr) (n c : Nat) (l t : List Int) (w : World) (hA : Seen w w.heap.size A n (i64s l)) (hn : n ≤ 1099511627776) (h0 : 0 ≤ f) (ht : ∀ x ∈ t, 0 ≤ x ∧ x < 256) :
    Calls Tryd.prog 16 #[.agg #[.int .i64 5, .int .i32 r, .int .u8 p, .int .u8 i, .int .u8 f, .slice A n c, .string (strOfNums t)]] w fun e w' => e = .returned (.bool (PA.rightB ⟨5, r, p, i, f, l, t⟩)) ∧ Below w.heap.size w w' := by
  have HB := hide (fun o : Obj => (Below.refl w.heap.size w).alloc (Nat.le_refl _) o)
  have SM := hide (fun w1 (b1 : Below w.heap.size w w1) => seqSame_any 5 r p i f 5 0 0 0 0 A none n c 0 0 l [] t t w1 ((hA.below b1).more b1.size) (Seen.nil_ _ _ _) hn ht ht)
  have CF := hide (fun w => rightText_any t w ht)
  have RB := hide (rb5 r p i f l t)
  generalize PA.rightB ⟨5, r, p, i, f, l, t⟩ = R at RB ⊢
  generalize evEqB ⟨5, r, p, i, f, l, t⟩ ⟨5, 0, 0, 0, 0, [], t⟩ = S at *
  generalize decide (okText t) = b1 at *
  clear hA ht
  rcases b1 with _ | _
  · have HE := hide (show R = false by rw [RB.out]; rfl)
    go_enter Tryd.func16, Tryd.ntmps16
    go_wp2_with fail
    refine (CF.out _).mono ?_
    rintro e w1 ⟨rfl, bb⟩
    have b2 := (HB.out _).trans (bb.mono (by simp))
    obtain ⟨k0, k1, k2, k3, k4, k5, k6⟩ := Box.seven ((Box.new w 24 #[.int .i64 5, .int .i32 r, .int .u8 p, .int .u8 i, .int .u8 f, .slice A n c, .string (strOfNums t)]).below bb (by simp))
    clear bb
    go_wp2_with fail
    go_ret
    exact ⟨c_is HE.out, b2⟩
  · have HE := hide (show R = S by rw [RB.out]; rfl)
    go_enter Tryd.func16, Tryd.ntmps16
    go_wp2_with fail
    refine (CF.out _).mono ?_
    rintro e w1 ⟨rfl, bb⟩
    have b2 := (HB.out _).trans (bb.mono (by simp))
    obtain ⟨k0, k1, k2, k3, k4, k5, k6⟩ := Box.seven ((Box.new w 24 #[.int .i64 5, .int .i32 r, .int .u8 p, .int .u8 i, .int .u8 f, .slice A n c, .string (strOfNums t)]).below bb (by simp))
    clear bb
    go_wp2_with fail
    refine (SM.out _ b2).mono ?_
    rintro e w3 ⟨rfl, b3⟩
    have b4 := b2.trans (b3.mono b2.size)
    clear b3
    go_wp2_with fail
    go_ret
    exact ⟨c_is HE.out, b4⟩
set_option maxHeartbeats 2000000 in
theorem right4 (r p i f : Int) (A : Option Addr) (n c : Nat) (l t : List Int) (w : World) (hA : Seen w w.heap.size A n (i64s l)) (hn : n ≤ 1099511627776) (h0 : 0 ≤ f) (ht : ∀ x ∈ t, 0 ≤ x ∧ x < 256) :
    Calls Tryd.prog 16 #[.agg #[.int .i64 4, .int .i32 r, .int .u8 p, .int .u8 i, .int .u8 f, .slice A n c, .string (strOfNums t)]] w fun e w' => e = .returned (.bool (PA.rightB ⟨4, r, p, i, f, l, t⟩)) ∧ Below w.heap.size w w' := by
  have HB := hide (fun o : Obj => (Below.refl w.heap.size w).alloc (Nat.le_refl _) o)
  have CF := hide (fun o : Obj => rightCsi_any 4 r p i f A n c l t (w.alloc o) ((hA.alloc (Nat.le_refl _) _).more (by simp)))
  have RB := hide (rb4 r p i f l t)
  have hts : (strOfNums t).toList.isEmpty = decide (t = []) := by rw [bytes_toList, Bool.eq_iff_iff]; simp
  generalize PA.rightB ⟨4, r, p, i, f, l, t⟩ = R at RB ⊢
  generalize (decide (64 ≤ f) && (decide (f ≤ 126) && (decide (PA.okInter i) && (decide (PA.okPriv p) && decide (okParams l))))) = b1 at *
  generalize decide (t = []) = bt at *
  generalize strOfNums t = s at *
  clear hA ht
  rcases b1 with _ | _
  · have HE := hide (show R = false by rw [RB.out]; rfl)
    go_enter Tryd.func16, Tryd.ntmps16
    go_wp2_with fail
    refine (CF.out _).mono ?_
    rintro e w1 ⟨rfl, bb⟩
    have b2 := (HB.out _).trans (bb.mono (by simp))
    clear bb
    go_wp2_with fail
    go_ret
    exact ⟨c_is HE.out, b2⟩
  by_cases hr : r = 0
  · subst hr
    have HE := hide (show R = bt by rw [RB.out]; simp)
    have HTS := hide hts
    clear hts
    go_enter Tryd.func16, Tryd.ntmps16
    go_wp2_with fail
    have bx := Box.new w 24 #[.int .i64 4, .int .i32 0, .int .u8 p, .int .u8 i, .int .u8 f, .slice A n c, .string s]
    refine (CF.out _).mono ?_
    rintro e w1 ⟨rfl, bb⟩
    have b2 := (HB.out _).trans (bb.mono (by simp))
    obtain ⟨k0, k1, k2, k3, k4, k5, k6⟩ := Box.seven (bx.below bb (by simp))
    clear bb bx
    go_wp2_with fail
    go_ret
    exact ⟨c_is (HE.out.trans HTS.out.symm), b2⟩
  · have d0 : (r == 0) = false := by simpa using hr
    have HE := hide (show R = false by rw [RB.out]; simp [hr])
    clear hr
    go_enter Tryd.func16, Tryd.ntmps16
    go_wp2_with fail
    have bx := Box.new w 24 #[.int .i64 4, .int .i32 r, .int .u8 p, .int .u8 i, .int .u8 f, .slice A n c, .string s]
    refine (CF.out _).mono ?_
    rintro e w1 ⟨rfl, bb⟩
    have b2 := (HB.out _).trans (bb.mono (by simp))
    obtain ⟨k0, k1, k2, k3, k4, k5, k6⟩ := Box.seven (bx.below bb (by simp))
    clear bb bx
    go_wp2_with fail
    go_ret
    exact ⟨c_is HE.out, b2⟩
set_option maxHeartbeats 2000000 in
theorem right0 (k r p i f : Int) (A : Option Addr) (n c : Nat) (l t : List Int) (w : World) (hA : Seen w w.heap.size A n (i64s l)) (hn : n ≤ 1099511627776) (h0 : 0 ≤ f) (ht : ∀ x ∈ t, 0 ≤ x ∧ x < 256) (h1 : k ≠ 1) (h2 : k ≠ 2) (h3 : k ≠ 3) (h4 : k ≠ 4) (h5 : k ≠ 5) :
    Calls Tryd.prog 16 #[.agg #[.int .i64 k, .int .i32 r, .int .u8 p, .int .u8 i, .int .u8 f, .slice A n c, .string (strOfNums t)]] w fun e w' => e = .returned (.bool (PA.rightB ⟨k, r, p, i, f, l, t⟩)) ∧ Below w.heap.size w w' := by
  have HE := hide (rb0 k r p i f l t h1 h2 h3 h4 h5)
  have e1 : (k == 1) = false := by simpa using h1
  have e2 : (k == 2) = false := by simpa using h2
  have e3 : (k == 3) = false := by simpa using h3
  have e4 : (k == 4) = false := by simpa using h4
  have e5 : (k == 5) = false := by simpa using h5
  clear h1 h2 h3 h4 h5 hA ht
  go_enter Tryd.func16, Tryd.ntmps16
  go_wp2_with fail
  go_ret
  exact ⟨c_is HE.out, (Below.refl _ _).alloc (Nat.le_refl _) _⟩
set_option maxHeartbeats 2000000 in
theorem right_any (k r p i f : Int) (A : Option Addr) (n c : Nat) (l t : List Int) (w : World) (hA : Seen w w.heap.size A n (i64s l)) (hn : n ≤ 1099511627776) (h0 : 0 ≤ f) (ht : ∀ x ∈ t, 0 ≤ x ∧ x < 256) :
    Calls Tryd.prog 16 #[.agg #[.int .i64 k, .int .i32 r, .int .u8 p, .int .u8 i, .int .u8 f, .slice A n c, .string (strOfNums t)]] w fun e w' => e = .returned (.bool (PA.rightB ⟨k, r, p, i, f, l, t⟩)) ∧ Below w.heap.size w w' := by
  by_cases h1 : k = 1
  · subst h1; exact right1 r p i f A n c l t w hA hn h0 ht
  by_cases h2 : k = 2
  · subst h2; exact right2 r p i f A n c l t w hA hn h0 ht
  by_cases h3 : k = 3
  · subst h3; exact right3 r p i f A n c l t w hA hn h0 ht
  by_cases h4 : k = 4
  · subst h4; exact right4 r p i f A n c l t w hA hn h0 ht
  by_cases h5 : k = 5
  · subst h5; exact right5 r p i f A n c l t w hA hn h0 ht
  exact right0 k r p i f A n c l t w hA hn h0 ht h1 h2 h3 h4 h5
end Go.Proofs.YtnnjppgmadmmaaaDoor
