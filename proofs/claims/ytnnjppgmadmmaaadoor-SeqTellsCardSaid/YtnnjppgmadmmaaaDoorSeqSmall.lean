/- Package seq's small functions: is a rune, a byte, a parameter right? The contracts of seq's own, rightParams, rightText, param. -/
import Derived.Test.YtnnjppgmadmmaaaDoorSeqSpec
import Derived.Test.YtnnjppgmadmmaaaDoorLists
import Derived.Test.YtnnjppgmadmmaaaDoorEnds
import Derived.Test.YtnnjppgmadmmaaaDoorParseMem
import Derived.Test.YtnnjppgmadmmaaaDoorStrConv
set_option maxRecDepth 100000
namespace Go.Proofs.YtnnjppgmadmmaaaDoor
open Go.RowKit
set_option linter.unusedVariables false
theorem c_dec {p : Prop} [Decidable p] {b : Bool} (h : b = true ↔ p) : Ending.returned (.bool b) = .returned (.bool (decide p)) := by
  rw [show b = decide p from by rw [Bool.eq_iff_iff, h, decide_eq_true_iff]]
set_option maxHeartbeats 400000 in
theorem rightRune_any (r : Int) (w : World) : Calls Tryd.prog 31 #[.int .i32 r] w fun e w' => e = .returned (.bool (decide (PA.okRune r))) ∧ w = w' := by
  have HR := hide (fun b => c_dec (p := PA.okRune r) (b := b))
  have cs : r < 32 ∨ r = 127 ∨ 1114111 < r ∨ (32 ≤ r ∧ r < 127) ∨ (127 < r ∧ r < 55296) ∨ (55296 ≤ r ∧ r ≤ 57343) ∨ (57343 < r ∧ r ≤ 1114111) := by omega
  rcases cs with h | h | h | h | h | h | h
  all_goals
    (try have h127 : (r != 127) = true := by simp; omega)
    (try subst h)
    go_enter Tryd.func31, Tryd.ntmps31
    go_wp2
    go_ret
    exact ⟨HR.out _ (by unfold PA.okRune; simp; try omega), rfl⟩
def okExec (b : Int) : Prop := 0 ≤ b ∧ b < 32 ∧ b ≠ 24 ∧ b ≠ 26 ∧ b ≠ 27
instance (b : Int) : Decidable (okExec b) := by unfold okExec; infer_instance
set_option maxHeartbeats 400000 in
theorem rightExec_any (b : Int) (w : World) (h0 : 0 ≤ b) : Calls Tryd.prog 32 #[.int .u8 b] w fun e w' => e = .returned (.bool (decide (okExec b))) ∧ w = w' := by
  have HR := hide (fun x => c_dec (p := okExec b) (b := x))
  by_cases h : b < 32
  · by_cases h1 : b = 24
    · subst h1
      go_enter Tryd.func32, Tryd.ntmps32
      go_wp2
      go_ret
      exact ⟨HR.out _ (by unfold okExec; simp), rfl⟩
    by_cases h2 : b = 26
    · subst h2
      go_enter Tryd.func32, Tryd.ntmps32
      go_wp2
      go_ret
      exact ⟨HR.out _ (by unfold okExec; simp), rfl⟩
    have e1 : (b != 24) = true := by simpa using h1
    have e2 : (b != 26) = true := by simpa using h2
    by_cases h3 : b = 27
    · subst h3
      go_enter Tryd.func32, Tryd.ntmps32
      go_wp2
      go_ret
      exact ⟨HR.out _ (by unfold okExec; simp), rfl⟩
    have e3 : (b != 27) = true := by simpa using h3
    have X := hide (And.intro h1 (And.intro h2 h3))
    clear h1 h2 h3
    go_enter Tryd.func32, Tryd.ntmps32
    go_wp2
    go_ret
    exact ⟨HR.out _ (by have := X.out; unfold okExec; simp; omega), rfl⟩
  · go_enter Tryd.func32, Tryd.ntmps32
    go_wp2
    go_ret
    exact ⟨HR.out _ (by unfold okExec; simp; omega), rfl⟩
set_option maxHeartbeats 400000 in
theorem rightInter_any (b : Int) (w : World) : Calls Tryd.prog 43 #[.int .u8 b] w fun e w' => e = .returned (.bool (decide (PA.okInter b))) ∧ w = w' := by
  have HR := hide (fun x => c_dec (p := PA.okInter b) (b := x))
  by_cases h : b = 0
  · subst h
    go_enter Tryd.func43, Tryd.ntmps43
    go_wp2
    go_ret
    exact ⟨HR.out _ (by unfold PA.okInter; simp), rfl⟩
  · have e1 : (b == 0) = false := by simpa using h
    have cs : b < 32 ∨ (32 ≤ b ∧ b ≤ 47) ∨ 47 < b := by omega
    have X := hide h
    clear h
    rcases cs with h | h | h
    all_goals
      go_enter Tryd.func43, Tryd.ntmps43
      go_wp2
      go_ret
      exact ⟨HR.out _ (by have := X.out; unfold PA.okInter; simp; omega), rfl⟩
set_option maxHeartbeats 400000 in
theorem rightPriv_any (b : Int) (w : World) : Calls Tryd.prog 44 #[.int .u8 b] w fun e w' => e = .returned (.bool (decide (PA.okPriv b))) ∧ w = w' := by
  have HR := hide (fun x => c_dec (p := PA.okPriv b) (b := x))
  by_cases h : b = 0
  · subst h
    go_enter Tryd.func44, Tryd.ntmps44
    go_wp2
    go_ret
    exact ⟨HR.out _ (by unfold PA.okPriv; simp), rfl⟩
  · have e1 : (b == 0) = false := by simpa using h
    have cs : b < 60 ∨ (60 ≤ b ∧ b ≤ 63) ∨ 63 < b := by omega
    have X := hide h
    clear h
    rcases cs with h | h | h
    all_goals
      go_enter Tryd.func44, Tryd.ntmps44
      go_wp2
      go_ret
      exact ⟨HR.out _ (by have := X.out; unfold PA.okPriv; simp; omega), rfl⟩
def escOk (i f : Int) : Prop := PA.okInter i ∧ 48 ≤ f ∧ f ≤ 126 ∧ (i = 0 → ¬ PA.opens f)
instance (i f : Int) : Decidable (escOk i f) := by unfold escOk; infer_instance
set_option maxHeartbeats 1000000 in
theorem rightEsc_any (i f : Int) (w : World) : Calls Tryd.prog 33 #[.int .u8 i, .int .u8 f] w fun e w' => e = .returned (.bool (decide (escOk i f))) ∧ w = w' := by
  have HR := hide (fun x => c_dec (p := escOk i f) (b := x))
  have CI := hide (rightInter_any i)
  by_cases h0 : f < 48
  · go_enter Tryd.func33, Tryd.ntmps33
    go_wp2_with fail
    go_ret
    exact ⟨HR.out _ (by unfold escOk; simp; omega), rfl⟩
  by_cases h1 : 126 < f
  · go_enter Tryd.func33, Tryd.ntmps33
    go_wp2_with fail
    go_ret
    exact ⟨HR.out _ (by unfold escOk; simp; omega), rfl⟩
  by_cases hi : PA.okInter i
  · have ei : decide (PA.okInter i) = true := by simpa using hi
    rw [ei] at CI
    by_cases ho : PA.opens f
    · by_cases hz : i = 0
      · have hz' : (i != 0) = false := by simp [hz]
        have X := hide (And.intro hz ho)
        clear hi ei hz
        unfold PA.opens at ho
        rcases ho with rfl | rfl | rfl | rfl | rfl | rfl
        all_goals
          go_enter Tryd.func33, Tryd.ntmps33
          go_wp2_with fail
          refine (CI.out _).mono ?_
          rintro e w1 ⟨rfl, rfl⟩
          go_wp2_with fail
          go_ret
          exact ⟨HR.out _ (by have := X.out; unfold escOk; simp [this.1, this.2]), rfl⟩
      · have hz' : (i != 0) = true := by simpa using hz
        have X := hide (And.intro hz hi)
        clear hi ei hz
        unfold PA.opens at ho
        rcases ho with rfl | rfl | rfl | rfl | rfl | rfl
        all_goals
          go_enter Tryd.func33, Tryd.ntmps33
          go_wp2_with fail
          refine (CI.out _).mono ?_
          rintro e w1 ⟨rfl, rfl⟩
          go_wp2_with fail
          go_ret
          exact ⟨HR.out _ (by have := X.out; unfold escOk; simp [this.1, this.2]), rfl⟩
    · have e1 : (f == 91) = false := by unfold PA.opens at ho; simp; omega
      have e2 : (f == 93) = false := by unfold PA.opens at ho; simp; omega
      have e3 : (f == 80) = false := by unfold PA.opens at ho; simp; omega
      have e4 : (f == 88) = false := by unfold PA.opens at ho; simp; omega
      have e5 : (f == 94) = false := by unfold PA.opens at ho; simp; omega
      have e6 : (f == 95) = false := by unfold PA.opens at ho; simp; omega
      have X := hide (And.intro ho hi)
      clear hi ei ho
      go_enter Tryd.func33, Tryd.ntmps33
      go_wp2_with fail
      refine (CI.out _).mono ?_
      rintro e w1 ⟨rfl, rfl⟩
      go_wp2_with fail
      go_ret
      exact ⟨HR.out _ (by have := X.out; unfold escOk; simp [this.1, this.2]; omega), rfl⟩
  · have ei : decide (PA.okInter i) = false := by simpa using hi
    rw [ei] at CI
    have X := hide hi
    clear hi ei
    go_enter Tryd.func33, Tryd.ntmps33
    go_wp2_with fail
    refine (CI.out _).mono ?_
    rintro e w1 ⟨rfl, rfl⟩
    go_wp2_with fail
    go_ret
    exact ⟨HR.out _ (by have := X.out; unfold escOk; simp [this]), rfl⟩
end Go.Proofs.YtnnjppgmadmmaaaDoor
set_option maxRecDepth 100000
namespace Go.Proofs.YtnnjppgmadmmaaaDoor
open Go.RowKit
set_option linter.unusedVariables false
/-- A call that gives back a new row of numbers. -/
def Row64 (w : World) (n : Nat) (l : List Int) (e : Ending) (w' : World) : Prop :=
  ∃ v', e = .returned v' ∧ w'.ownsRow w.heap.size 3 1 v' n (i64s l) ∧ Below w.heap.size w w'
theorem i64s_one (l : List Int) : ∀ u ∈ i64s l, u.oneCell' = true := ints_one _ _
set_option maxHeartbeats 1000000 in
theorem own_any (A : Option Addr) (n c : Nat) (l : List Int) (w : World) (hA : Seen w w.heap.size A n (i64s l)) (hn : n ≤ 1099511627776) : Calls Tryd.prog 25 #[.slice A n c] w (Row64 w n l) := by
  obtain ⟨i0, hi, hz0, hz1, hz2⟩ := info_parts info_i64
  go_enter Tryd.func25, Tryd.ntmps25
  go_wp2_with (at_builtin; refine wpList_appN rfl (.const (.slice none 0 0)) (.tmp 3) 22 rfl w.heap.size 3 i0 _ 8 Tryd.underlying22 hi hz0 hz1 hz2 rfl (.slice none 0 0) 0 [] rfl (World.ownsRow_nil _ _ _ _) w.heap.size A n c (i64s l) rfl hA (i64s_one l) (by omega) (by omega) (Nat.le_refl _) ?_; intro v' w1 hown1 hg1 hm1)
  go_ret
  refine ⟨v', rfl, ?_, below_of_grown hg1 (Nat.le_refl _) (fun g hg => by simp [Value.ownBlock] at hg)⟩
  rw [Nat.zero_add, List.nil_append] at hown1
  exact hown1
def okParams (l : List Int) : Prop := l.length ≤ 16 ∧ (∀ x ∈ l, -1 ≤ x ∧ x ≤ 65535) ∧ l ≠ [-1]
instance (l : List Int) : Decidable (okParams l) := by unfold okParams; infer_instance
theorem c_yes {p : Prop} [Decidable p] (h : p) : Ending.returned (.bool true) = .returned (.bool (decide p)) := by rw [decide_eq_true h]
theorem c_no {p : Prop} [Decidable p] (h : ¬ p) : Ending.returned (.bool false) = .returned (.bool (decide p)) := by rw [decide_eq_false h]
theorem ok_more {q : Int → Prop} {l : List Int} {k : Nat} {x : Int} (h : ∀ y ∈ l.take k, q y) (hx : l[k]? = some x) (hq : q x) : ∀ y ∈ l.take (k + 1), q y := by
  intro y hy
  rw [List.take_add_one, hx] at hy
  rcases List.mem_append.1 hy with hy | hy
  · exact h y hy
  · simp at hy
    subst hy
    exact hq
set_option maxHeartbeats 1000000 in
theorem rightParams_any (A : Option Addr) (n c : Nat) (l : List Int) (w : World) (hA : Seen w w.heap.size A n (i64s l)) : Calls Tryd.prog 45 #[.slice A n c] w fun e w' => e = .returned (.bool (decide (okParams l))) ∧ w = w' := by
  have hl : l.length = n := by simpa [i64s] using hA.1
  have HA := hide hA
  have HL := hide hl
  clear hA hl
  by_cases h16 : 16 < n
  · have HN := hide (show ¬ okParams l from fun h => by have := h.1; have := HL.out; omega)
    go_enter Tryd.func45, Tryd.ntmps45
    go_wp2
    go_ret
    exact ⟨c_no HN.out, by trivial⟩
  · go_enter Tryd.func45, Tryd.ntmps45
    go_wp2
    go_loopw [10] (fun i wr => ∃ k : Nat, k ≤ n ∧ i = .int .i64 k ∧ wr = w ∧ Hid (∀ x ∈ l.take k, -1 ≤ x ∧ x ≤ 65535)) (fun i _ => n - (intOf i).toNat)
    case atStart => exact ⟨0, Nat.zero_le _, rfl, rfl, hide (by simp)⟩
    case round =>
      obtain ⟨k, hk, rfl, rfl, HT⟩ := hrel
      by_cases hlt : k < n
      · obtain ⟨ad, u, rfl, _, hu, hc⟩ := HA.out.at_ hlt
        rw [i64s, List.getElem?_map] at hu
        obtain ⟨x, hx, rfl⟩ := Option.map_eq_some_iff.1 hu
        clear hu
        have HX := hide hx
        clear hx
        have cs : x = -1 ∨ x < -1 ∨ 65535 < x ∨ (0 ≤ x ∧ x ≤ 65535) := by omega
        rcases cs with h | h | h | h
        · subst h
          have HT2 := hide (ok_more (q := fun x => -1 ≤ x ∧ x ≤ 65535) HT.out HX.out (by omega))
          go_wp2
          go_roundw
          case rel => exact ⟨k + 1, by omega, by go_num, by trivial, HT2⟩
          case measure => simp [intOf]; omega
        · have hd : (x != -1) = true := by simp; omega
          have HN := hide (show ¬ okParams l from fun hh => by have := hh.2.1 x (List.mem_of_getElem? HX.out); omega)
          go_wp2
          go_ret
          exact ⟨c_no HN.out, by trivial⟩
        · have hd : (x != -1) = true := by simp; omega
          have HN := hide (show ¬ okParams l from fun hh => by have := hh.2.1 x (List.mem_of_getElem? HX.out); omega)
          go_wp2
          go_ret
          exact ⟨c_no HN.out, by trivial⟩
        · have hd : (x != -1) = true := by simp; omega
          have HT2 := hide (ok_more (q := fun x => -1 ≤ x ∧ x ≤ 65535) HT.out HX.out (by omega))
          go_wp2
          go_roundw
          case rel => exact ⟨k + 1, by omega, by go_num, by trivial, HT2⟩
          case measure => simp [intOf]; omega
      · obtain rfl : k = n := by omega
        have HF := hide (show ∀ x ∈ l, -1 ≤ x ∧ x ≤ 65535 from by
          have := HT.out
          rwa [List.take_of_length_le (by rw [HL.out]; omega)] at this)
        clear HT
        by_cases h1 : k = 1
        · subst h1
          obtain ⟨ad, u, rfl, _, hu, hc⟩ := HA.out.at_ (k := 0) (by omega)
          rw [i64s, List.getElem?_map] at hu
          obtain ⟨x, hx, rfl⟩ := Option.map_eq_some_iff.1 hu
          rw [show ad.add 0 = ad from by simp [Addr.add]] at hc
          have hll : l = [x] := by
            have hlen := HL.out
            rcases l with _ | ⟨y, _ | ⟨z, l⟩⟩ <;> simp at hlen hx
            subst hx
            rfl
          have HLL := hide hll
          clear hll hx hu
          by_cases hx1 : x = -1
          · subst hx1
            have HN := hide (show ¬ okParams l from fun hh => hh.2.2 HLL.out)
            go_wp2
            go_ret
            exact ⟨c_no HN.out, by trivial⟩
          · have hd : (x != -1) = true := by simpa using hx1
            have HN := hide (show okParams l from ⟨by have := HL.out; omega, HF.out, by rw [HLL.out]; simpa using hx1⟩)
            clear hx1
            go_wp2
            go_ret
            exact ⟨c_yes HN.out, by trivial⟩
        · have hd : ((k : Int) != 1) = true := by simp; omega
          have HN := hide (show okParams l from ⟨by have := HL.out; omega, HF.out, fun e => h1 (by rw [← HL.out, e]; rfl)⟩)
          go_wp2
          go_ret
          exact ⟨c_yes HN.out, by trivial⟩
def okText (t : List Int) : Prop := t.length ≤ 4096 ∧ ∀ x ∈ t, 32 ≤ x ∧ x < 256
instance (l : List Int) : Decidable (okText l) := by unfold okText; infer_instance
set_option maxHeartbeats 1000000 in
theorem rightText_any (t : List Int) (w : World) (ht : ∀ x ∈ t, 0 ≤ x ∧ x < 256) : Calls Tryd.prog 35 #[.string (strOfNums t)] w fun e w' => e = .returned (.bool (decide (okText t))) ∧ Below w.heap.size w w' := by
  have hs : (strOfNums t).size = t.length := strOfNums_size t
  have hS : Seen (strWorld w (strOfNums t)) (strWorld w (strOfNums t)).heap.size (some ⟨w.heap.size, 0, none⟩) t.length (u8s t) := strWorld_seen rfl ht rfl
  have hB := strWorld_below w (strOfNums t)
  have hc := conv_str w (strOfNums t)
  generalize strWorld w (strOfNums t) = w1 at hS hB hc
  generalize strCap w (strOfNums t) = cp at hc
  have HS := hide hS
  have HB := hide hB
  have HT := hide ht
  clear hS hB ht
  generalize hn : t.length = n at *
  generalize strOfNums t = s at *
  have HL := hide hn
  clear hn
  by_cases h4 : 4096 < n
  · have HN := hide (show ¬ okText t from fun h => by have := h.1; have := HL.out; omega)
    go_enter Tryd.func35, Tryd.ntmps35
    go_wp2
    go_ret
    exact ⟨c_no HN.out, Below.refl _ _⟩
  · go_enter Tryd.func35, Tryd.ntmps35
    go_wp2
    go_loopw [11] (fun i wr => ∃ k : Nat, k ≤ n ∧ i = .int .i64 k ∧ wr = w1 ∧ Hid (∀ x ∈ t.take k, 32 ≤ x ∧ x < 256)) (fun i _ => n - (intOf i).toNat)
    case atStart => exact ⟨0, Nat.zero_le _, rfl, rfl, hide (by simp)⟩
    case round =>
      obtain ⟨k, hk, rfl, rfl, HK⟩ := hrel
      by_cases hlt : k < n
      · obtain ⟨ad, u, had, _, hu, hcc⟩ := HS.out.at_ hlt
        injection had with had
        subst had
        rw [Addr.add_lit, Nat.zero_add] at hcc
        rw [u8s, List.getElem?_map] at hu
        obtain ⟨x, hx, rfl⟩ := Option.map_eq_some_iff.1 hu
        have hxr := HT.out x (List.mem_of_getElem? hx)
        have HX := hide hx
        clear hu hx
        by_cases h32 : x < 32
        · have HN := hide (show ¬ okText t from fun hh => by have := hh.2 x (List.mem_of_getElem? HX.out); omega)
          go_wp2
          go_ret
          exact ⟨c_no HN.out, HB.out⟩
        · have HT2 := hide (ok_more (q := fun x => 32 ≤ x ∧ x < 256) HK.out HX.out (by omega))
          go_wp2
          go_roundw
          case rel => exact ⟨k + 1, by omega, by go_num, by trivial, HT2⟩
          case measure => simp [intOf]; omega
      · obtain rfl : k = n := by omega
        have HF := hide (show okText t from ⟨by have := HL.out; omega, by
          have := HK.out
          rwa [List.take_of_length_le (by rw [HL.out]; omega)] at this⟩)
        go_wp2
        go_ret
        exact ⟨c_yes HF.out, HB.out⟩
end Go.Proofs.YtnnjppgmadmmaaaDoor
