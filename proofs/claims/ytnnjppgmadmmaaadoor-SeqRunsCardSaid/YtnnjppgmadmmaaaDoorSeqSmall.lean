/- Package seq's small functions: is a rune, a byte, a parameter right? -/
import Derived.Test.YtnnjppgmadmmaaaDoorSeqRight
import Derived.Test.YtnnjppgmadmmaaaDoorLists
import Derived.Test.YtnnjppgmadmmaaaDoorEnds
import Derived.Test.YtnnjppgmadmmaaaDoorParseMem
set_option maxRecDepth 100000
namespace Go.Proofs.YtnnjppgmadmmaaaDoor
open Go.RowKit
set_option linter.unusedVariables false
theorem c_dec {p : Prop} [Decidable p] {b : Bool} (h : b = true ↔ p) : Ending.returned (.bool b) = .returned (.bool (decide p)) := by
  rw [show b = decide p from by rw [Bool.eq_iff_iff, h, decide_eq_true_iff]]
set_option maxHeartbeats 400000 in
theorem rightRune_any (r : Int) (w : World) : Calls Tryd.prog 31 #[.int .i32 r] w fun e w' => e = .returned (.bool (decide (PA.okRune r))) ∧ w = w' := by
  have HR := hide (fun b => c_dec (p := PA.okRune r) (b := b))
  have cs : r < 32 ∨ r = 127 ∨ 1114111 < r ∨ (32 ≤ r ∧ r < 127) ∨ (127 < r ∧ r < 55296) ∨ (55296 ≤ r ∧ r ≤ 57343) ∨ (57343 < r ∧ r ≤ 1114111) := by omega
  rcases cs with h | h | h | h | h | h | h
  all_goals
    (try have h127 : (r != 127) = true := by simp; omega)
    (try subst h)
    go_enter Tryd.func31, Tryd.ntmps31
    go_wp2
    go_ret
    exact ⟨HR.out _ (by unfold PA.okRune; simp; try omega), rfl⟩
def okExec (b : Int) : Prop := 0 ≤ b ∧ b < 32 ∧ b ≠ 24 ∧ b ≠ 26 ∧ b ≠ 27
instance (b : Int) : Decidable (okExec b) := by unfold okExec; infer_instance
set_option maxHeartbeats 400000 in
theorem rightExec_any (b : Int) (w : World) (h0 : 0 ≤ b) : Calls Tryd.prog 32 #[.int .u8 b] w fun e w' => e = .returned (.bool (decide (okExec b))) ∧ w = w' := by
  have HR := hide (fun x => c_dec (p := okExec b) (b := x))
  by_cases h : b < 32
  · by_cases h1 : b = 24
    · subst h1
      go_enter Tryd.func32, Tryd.ntmps32
      go_wp2
      go_ret
      exact ⟨HR.out _ (by unfold okExec; simp), rfl⟩
    by_cases h2 : b = 26
    · subst h2
      go_enter Tryd.func32, Tryd.ntmps32
      go_wp2
      go_ret
      exact ⟨HR.out _ (by unfold okExec; simp), rfl⟩
    have e1 : (b != 24) = true := by simpa using h1
    have e2 : (b != 26) = true := by simpa using h2
    by_cases h3 : b = 27
    · subst h3
      go_enter Tryd.func32, Tryd.ntmps32
      go_wp2
      go_ret
      exact ⟨HR.out _ (by unfold okExec; simp), rfl⟩
    have e3 : (b != 27) = true := by simpa using h3
    have X := hide (And.intro h1 (And.intro h2 h3))
    clear h1 h2 h3
    go_enter Tryd.func32, Tryd.ntmps32
    go_wp2
    go_ret
    exact ⟨HR.out _ (by have := X.out; unfold okExec; simp; omega), rfl⟩
  · go_enter Tryd.func32, Tryd.ntmps32
    go_wp2
    go_ret
    exact ⟨HR.out _ (by unfold okExec; simp; omega), rfl⟩
set_option maxHeartbeats 400000 in
theorem rightInter_any (b : Int) (w : World) : Calls Tryd.prog 43 #[.int .u8 b] w fun e w' => e = .returned (.bool (decide (PA.okInter b))) ∧ w = w' := by
  have HR := hide (fun x => c_dec (p := PA.okInter b) (b := x))
  by_cases h : b = 0
  · subst h
    go_enter Tryd.func43, Tryd.ntmps43
    go_wp2
    go_ret
    exact ⟨HR.out _ (by unfold PA.okInter; simp), rfl⟩
  · have e1 : (b == 0) = false := by simpa using h
    have cs : b < 32 ∨ (32 ≤ b ∧ b ≤ 47) ∨ 47 < b := by omega
    have X := hide h
    clear h
    rcases cs with h | h | h
    all_goals
      go_enter Tryd.func43, Tryd.ntmps43
      go_wp2
      go_ret
      exact ⟨HR.out _ (by have := X.out; unfold PA.okInter; simp; omega), rfl⟩
set_option maxHeartbeats 400000 in
theorem rightPriv_any (b : Int) (w : World) : Calls Tryd.prog 44 #[.int .u8 b] w fun e w' => e = .returned (.bool (decide (PA.okPriv b))) ∧ w = w' := by
  have HR := hide (fun x => c_dec (p := PA.okPriv b) (b := x))
  by_cases h : b = 0
  · subst h
    go_enter Tryd.func44, Tryd.ntmps44
    go_wp2
    go_ret
    exact ⟨HR.out _ (by unfold PA.okPriv; simp), rfl⟩
  · have e1 : (b == 0) = false := by simpa using h
    have cs : b < 60 ∨ (60 ≤ b ∧ b ≤ 63) ∨ 63 < b := by omega
    have X := hide h
    clear h
    rcases cs with h | h | h
    all_goals
      go_enter Tryd.func44, Tryd.ntmps44
      go_wp2
      go_ret
      exact ⟨HR.out _ (by have := X.out; unfold PA.okPriv; simp; omega), rfl⟩
def escOk (i f : Int) : Prop := PA.okInter i ∧ 48 ≤ f ∧ f ≤ 126 ∧ (i = 0 → ¬ PA.opens f)
instance (i f : Int) : Decidable (escOk i f) := by unfold escOk; infer_instance
set_option maxHeartbeats 1000000 in
theorem rightEsc_any (i f : Int) (w : World) : Calls Tryd.prog 33 #[.int .u8 i, .int .u8 f] w fun e w' => e = .returned (.bool (decide (escOk i f))) ∧ w = w' := by
  have HR := hide (fun x => c_dec (p := escOk i f) (b := x))
  have CI := hide (rightInter_any i)
  by_cases h0 : f < 48
  · go_enter Tryd.func33, Tryd.ntmps33
    go_wp2_with fail
    go_ret
    exact ⟨HR.out _ (by unfold escOk; simp; omega), rfl⟩
  by_cases h1 : 126 < f
  · go_enter Tryd.func33, Tryd.ntmps33
    go_wp2_with fail
    go_ret
    exact ⟨HR.out _ (by unfold escOk; simp; omega), rfl⟩
  by_cases hi : PA.okInter i
  · have ei : decide (PA.okInter i) = true := by simpa using hi
    rw [ei] at CI
    by_cases ho : PA.opens f
    · by_cases hz : i = 0
      · have hz' : (i != 0) = false := by simp [hz]
        have X := hide (And.intro hz ho)
        clear hi ei hz
        unfold PA.opens at ho
        rcases ho with rfl | rfl | rfl | rfl | rfl | rfl
        all_goals
          go_enter Tryd.func33, Tryd.ntmps33
          go_wp2_with fail
          refine (CI.out _).mono ?_
          rintro e w1 ⟨rfl, rfl⟩
          go_wp2_with fail
          go_ret
          exact ⟨HR.out _ (by have := X.out; unfold escOk; simp [this.1, this.2]), rfl⟩
      · have hz' : (i != 0) = true := by simpa using hz
        have X := hide (And.intro hz hi)
        clear hi ei hz
        unfold PA.opens at ho
        rcases ho with rfl | rfl | rfl | rfl | rfl | rfl
        all_goals
          go_enter Tryd.func33, Tryd.ntmps33
          go_wp2_with fail
          refine (CI.out _).mono ?_
          rintro e w1 ⟨rfl, rfl⟩
          go_wp2_with fail
          go_ret
          exact ⟨HR.out _ (by have := X.out; unfold escOk; simp [this.1, this.2]), rfl⟩
    · have e1 : (f == 91) = false := by unfold PA.opens at ho; simp; omega
      have e2 : (f == 93) = false := by unfold PA.opens at ho; simp; omega
      have e3 : (f == 80) = false := by unfold PA.opens at ho; simp; omega
      have e4 : (f == 88) = false := by unfold PA.opens at ho; simp; omega
      have e5 : (f == 94) = false := by unfold PA.opens at ho; simp; omega
      have e6 : (f == 95) = false := by unfold PA.opens at ho; simp; omega
      have X := hide (And.intro ho hi)
      clear hi ei ho
      go_enter Tryd.func33, Tryd.ntmps33
      go_wp2_with fail
      refine (CI.out _).mono ?_
      rintro e w1 ⟨rfl, rfl⟩
      go_wp2_with fail
      go_ret
      exact ⟨HR.out _ (by have := X.out; unfold escOk; simp [this.1, this.2]; omega), rfl⟩
  · have ei : decide (PA.okInter i) = false := by simpa using hi
    rw [ei] at CI
    have X := hide hi
    clear hi ei
    go_enter Tryd.func33, Tryd.ntmps33
    go_wp2_with fail
    refine (CI.out _).mono ?_
    rintro e w1 ⟨rfl, rfl⟩
    go_wp2_with fail
    go_ret
    exact ⟨HR.out _ (by have := X.out; unfold escOk; simp [this]), rfl⟩
end Go.Proofs.YtnnjppgmadmmaaaDoor
