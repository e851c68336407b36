/- The contract of seq's Same: are two events alike in all that is in them? -/
import Derived.Test.YtnnjppgmadmmaaaDoorSeqPart
import Derived.Test.YtnnjppgmadmmaaaDoorEqual
set_option maxRecDepth 100000
namespace Go.Proofs.YtnnjppgmadmmaaaDoor
open Go.RowKit
set_option linter.unusedVariables false
theorem bytes_toList (l : List Int) : (strOfNums l).toList = l.map fun n => UInt8.ofNat n.toNat := by
  rw [ByteArray.toList_eq]
  simp [strOfNums]
theorem map_u8_inj : ∀ {l m : List Int}, (∀ x ∈ l, 0 ≤ x ∧ x < 256) → (∀ x ∈ m, 0 ≤ x ∧ x < 256) → l.map (fun n => UInt8.ofNat n.toNat) = m.map (fun n => UInt8.ofNat n.toNat) → l = m
  | [], [], _, _, _ => rfl
  | [], y :: m, _, _, h => by simp at h
  | x :: l, [], _, _, h => by simp at h
  | x :: l, y :: m, hl, hm, h => by
    simp only [List.map_cons, List.cons.injEq] at h
    have hx := hl x (by simp)
    have hy := hm y (by simp)
    have e : x = y := by
      have := congrArg UInt8.toNat h.1
      simp at this
      omega
    rw [e, map_u8_inj (fun z hz => hl z (List.mem_cons_of_mem _ hz)) (fun z hz => hm z (List.mem_cons_of_mem _ hz)) h.2]
theorem strOfNums_eq {l m : List Int} (hl : ∀ x ∈ l, 0 ≤ x ∧ x < 256) (hm : ∀ x ∈ m, 0 ≤ x ∧ x < 256) : ((strOfNums l).toList == (strOfNums m).toList) = decide (l = m) := by
  rw [bytes_toList, bytes_toList, Bool.eq_iff_iff, beq_iff_eq, decide_eq_true_iff]
  exact ⟨map_u8_inj hl hm, fun e => by rw [e]⟩
/-- alike in all -/
def evEqB (a b : PA.Ev) : Bool := decide (a.kind = b.kind) && (decide (a.rune = b.rune) && (decide (a.priv = b.priv) && (decide (a.inter = b.inter) && (decide (a.final = b.final) && (decide (a.params = b.params) && decide (a.text = b.text))))))
theorem evEqB_iff (a b : PA.Ev) : evEqB a b = true ↔ a = b := by
  obtain ⟨a1, a2, a3, a4, a5, a6, a7⟩ := a
  obtain ⟨b1, b2, b3, b4, b5, b6, b7⟩ := b
  simp [evEqB]
set_option maxHeartbeats 2000000 in
theorem seqSame_any (k r p i f k' r' p' i' f' : Int) (A A' : Option Addr) (n c n' c' : Nat) (l l' t t' : List Int) (w : World) (hA : Seen w w.heap.size A n (i64s l)) (hA' : Seen w w.heap.size A' n' (i64s l')) (hn : n ≤ 1099511627776) (ht : ∀ x ∈ t, 0 ≤ x ∧ x < 256) (ht' : ∀ x ∈ t', 0 ≤ x ∧ x < 256) :
    Calls Tryd.prog 13 #[.agg #[.int .i64 k, .int .i32 r, .int .u8 p, .int .u8 i, .int .u8 f, .slice A n c, .string (strOfNums t)], .agg #[.int .i64 k', .int .i32 r', .int .u8 p', .int .u8 i', .int .u8 f', .slice A' n' c', .string (strOfNums t')]] w fun e w' => e = .returned (.bool (evEqB ⟨k, r, p, i, f, l, t⟩ ⟨k', r', p', i', f', l', t'⟩)) ∧ Below w.heap.size w w' := by
  have hts := strOfNums_eq ht ht'
  have hB : ∀ o o' : Obj, Below w.heap.size w ((w.alloc o).alloc o') := fun o o' => ((Below.refl _ _).alloc (Nat.le_refl _) _).alloc (by simp) _
  have EQ := hide (fun o o' => equal_i64 l l' A A' w.heap.size w.heap.size n c n' c' ((w.alloc o).alloc o') ((hA.alloc (Nat.le_refl _) _).alloc (by simp) _) ((hA'.alloc (Nat.le_refl _) _).alloc (by simp) _) hn)
  have HB := hide hB
  have HF := hide (fun (x : Bool) (h : evEqB ⟨k, r, p, i, f, l, t⟩ ⟨k', r', p', i', f', l', t'⟩ = x) => c_bool h.symm)
  clear hA hA' hn ht ht' hB
  generalize strOfNums t = s at *
  generalize strOfNums t' = s' at *
  by_cases hk : k = k'
  rotate_left
  · have dk : (k == k') = false := by simpa using hk
    have HE := hide (show evEqB ⟨k, r, p, i, f, l, t⟩ ⟨k', r', p', i', f', l', t'⟩ = false by simp [evEqB, hk])
    clear hk hts
    go_enter Tryd.func13, Tryd.ntmps13
    go_wp2_with fail
    go_ret
    exact ⟨HF.out _ HE.out, HB.out _ _⟩
  subst hk
  by_cases hr : r = r'
  rotate_left
  · have dr : (r == r') = false := by simpa using hr
    have HE := hide (show evEqB ⟨k, r, p, i, f, l, t⟩ ⟨k, r', p', i', f', l', t'⟩ = false by simp [evEqB, hr])
    clear hr hts
    go_enter Tryd.func13, Tryd.ntmps13
    go_wp2_with fail
    go_ret
    exact ⟨HF.out _ HE.out, HB.out _ _⟩
  subst hr
  by_cases hp : p = p'
  rotate_left
  · have dp : (p == p') = false := by simpa using hp
    have HE := hide (show evEqB ⟨k, r, p, i, f, l, t⟩ ⟨k, r, p', i', f', l', t'⟩ = false by simp [evEqB, hp])
    clear hp hts
    go_enter Tryd.func13, Tryd.ntmps13
    go_wp2_with fail
    go_ret
    exact ⟨HF.out _ HE.out, HB.out _ _⟩
  subst hp
  by_cases hi : i = i'
  rotate_left
  · have di : (i == i') = false := by simpa using hi
    have HE := hide (show evEqB ⟨k, r, p, i, f, l, t⟩ ⟨k, r, p, i', f', l', t'⟩ = false by simp [evEqB, hi])
    clear hi hts
    go_enter Tryd.func13, Tryd.ntmps13
    go_wp2_with fail
    go_ret
    exact ⟨HF.out _ HE.out, HB.out _ _⟩
  subst hi
  by_cases hf : f = f'
  rotate_left
  · have df : (f == f') = false := by simpa using hf
    have HE := hide (show evEqB ⟨k, r, p, i, f, l, t⟩ ⟨k, r, p, i, f', l', t'⟩ = false by simp [evEqB, hf])
    clear hf hts
    go_enter Tryd.func13, Tryd.ntmps13
    go_wp2_with fail
    go_ret
    exact ⟨HF.out _ HE.out, HB.out _ _⟩
  subst hf
  by_cases hl : l = l'
  rotate_left
  · have dl : decide (l = l') = false := by simpa using hl
    rw [dl] at EQ
    have HE := hide (show evEqB ⟨k, r, p, i, f, l, t⟩ ⟨k, r, p, i, f, l', t'⟩ = false by simp [evEqB, hl])
    clear hl dl hts
    go_enter Tryd.func13, Tryd.ntmps13
    go_wp2_with fail
    refine (EQ.out _ _).mono ?_
    rintro e w1 ⟨rfl, q, rfl⟩
    go_wp2_with fail
    go_ret
    exact ⟨HF.out _ HE.out, below_drewN (HB.out _ _) _⟩
  subst hl
  have dl : decide (l = l) = true := by simp
  rw [dl] at EQ
  have HE := hide (show evEqB ⟨k, r, p, i, f, l, t⟩ ⟨k, r, p, i, f, l, t'⟩ = decide (t = t') by simp [evEqB])
  rw [← hts] at HE
  clear dl hts
  go_enter Tryd.func13, Tryd.ntmps13
  go_wp2_with fail
  refine (EQ.out _ _).mono ?_
  rintro e w1 ⟨rfl, q, rfl⟩
  go_wp2_with fail
  go_ret
  exact ⟨HF.out _ HE.out, below_drewN (HB.out _ _) _⟩
end Go.Proofs.YtnnjppgmadmmaaaDoor
