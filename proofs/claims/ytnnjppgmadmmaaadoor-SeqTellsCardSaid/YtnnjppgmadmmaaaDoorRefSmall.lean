/- The document's own small words: is a byte one of a text's; may it be collected? The document's own next, at a byte that is printed: this byte, and one place on. The document's own Parse, of no bytes: no events. -/
import Derived.Test.YtnnjppgmadmmaaaDoorStrCut
import Derived.BigQuiet
set_option maxRecDepth 100000
namespace Go.Proofs.YtnnjppgmadmmaaaDoor
open Go.RowKit
set_option linter.unusedVariables false
set_option maxHeartbeats 400000 in
theorem collected_any (b : Int) (w : World) : Calls Tryd.prog 29 #[.int .u8 b] w fun e w' => e = .returned (.bool (decide (PA.okInter b))) ∧ w = w' := by
  have HR := hide (fun x => c_dec (p := PA.okInter b) (b := x))
  by_cases h : b = 0
  · subst h
    go_enter Tryd.func29, Tryd.ntmps29
    go_wp2
    go_ret
    exact ⟨HR.out _ (by unfold PA.okInter; simp), rfl⟩
  · have e1 : (b == 0) = false := by simpa using h
    have cs : b < 32 ∨ (32 ≤ b ∧ b < 48) ∨ 48 ≤ b := by omega
    have X := hide h
    clear h
    rcases cs with h | h | h
    all_goals
      go_enter Tryd.func29, Tryd.ntmps29
      go_wp2
      go_ret
      exact ⟨HR.out _ (by have := X.out; unfold PA.okInter; simp; omega), rfl⟩
theorem not_mem_more {l : List Int} {k : Nat} {x c : Int} (h : c ∉ l.take k) (hx : l[k]? = some x) (hne : x ≠ c) : c ∉ l.take (k + 1) := by
  rw [List.take_add_one, hx]
  simp only [Option.toList_some, List.mem_append, List.mem_singleton]
  rintro (a | a)
  · exact h a
  · exact hne a.symm
set_option maxHeartbeats 1000000 in
theorem one_any (l : List Int) (c : Int) (w : World) (hl : ∀ x ∈ l, 0 ≤ x ∧ x < 256) (hl9 : l.length ≤ 4096) : Calls Tryd.prog 30 #[.string (strOfNums l), .int .u8 c] w fun e w' => e = .returned (.bool (decide (c ∈ l))) ∧ w = w' := by
  have hs : (strOfNums l).size = l.length := strOfNums_size l
  have AT := hide (fun k x (hx : l[k]? = some x) (hk : k < (strOfNums l).size) => str_at l k x hx (hl x (List.mem_of_getElem? hx)).1 (hl x (List.mem_of_getElem? hx)).2 hk)
  generalize hn : l.length = n at *
  generalize strOfNums l = s at *
  have HL := hide hn
  clear hn hl
  go_enter Tryd.func30, Tryd.ntmps30
  go_wp2
  go_loopw [5] (fun i wr => ∃ k : Nat, k ≤ n ∧ i = .int .i64 k ∧ wr = w ∧ Hid (c ∉ l.take k)) (fun i _ => n - (intOf i).toNat)
  case atStart => exact ⟨0, Nat.zero_le _, rfl, rfl, hide (by simp)⟩
  case round =>
    obtain ⟨k, hk, rfl, rfl, HT⟩ := hrel
    by_cases hlt : k < n
    · obtain ⟨x, hx⟩ : ∃ x, l[k]? = some x := ⟨_, List.getElem?_eq_getElem (by have := HL.out; omega)⟩
      have hkk : k < s.size := by omega
      have hb : ((s[k]'hkk).toNat : Int) = x := AT.out k x hx hkk
      have HX := hide hx
      clear hx
      by_cases hc : x = c
      · subst hc
        have HY := hide (List.mem_of_getElem? HX.out)
        go_wp2
        go_ret
        exact ⟨c_yes HY.out, by trivial⟩
      · have hd : (x == c) = false := by simpa using hc
        have HT2 := hide (not_mem_more HT.out HX.out hc)
        clear hc
        go_wp2
        go_roundw
        case rel => exact ⟨k + 1, by omega, by go_num, by trivial, HT2⟩
        case measure => simp [intOf]; omega
    · obtain rfl : k = n := by omega
      have HF := hide (show c ∉ l from by
        have := HT.out
        rwa [List.take_of_length_le (by rw [HL.out]; omega)] at this)
      go_wp2
      go_ret
      exact ⟨c_no HF.out, by trivial⟩
theorem str_none {t : List Int} (h : t ≠ []) : ((strOfNums t).toList == []) = false := by
  rw [bytes_toList]
  cases t with
  | nil => exact absurd rfl h
  | cons x t => rfl
end Go.Proofs.YtnnjppgmadmmaaaDoor
set_option maxRecDepth 100000
namespace Go.Proofs.YtnnjppgmadmmaaaDoor
open Go.RowKit
set_option linter.unusedVariables false
theorem inner_no (b : Int) (w : World) (h : 32 ≤ b) : Calls Tryd.prog 55 #[.int .u8 b] w fun e w' => e = .returned (.bool false) ∧ w = w' := by
  go_enter Tryd.func55, Tryd.ntmps55
  go_wp2
  go_ret
  exact ⟨rfl, by trivial⟩
set_option maxHeartbeats 2000000 in
theorem next_plain (g : Nat) (ty : TypeId) (Ab : Option Addr) (nb cb k : Nat) (l : List Int) (vo : Value) (c : Int) (w : World) (B : Nat) (hbox : Box w g ty #[.slice Ab nb cb, .int .i64 k, vo]) (hb : Seen w B Ab nb (u8s l)) (hk : l[k]? = some c) (h32 : 32 ≤ c) (h127 : c < 127) (hn : nb ≤ 274877906944) :
    Calls Tryd.prog 46 #[.pointer (some ⟨g, 0, none⟩)] w fun e w' => e = .returned (.tuple #[.int .u8 c, .bool true]) ∧ ∃ m, w' = (w.drewN m).setCell ⟨g, 1, none⟩ (.int .i64 ((k : Int) + 1)) := by
  obtain ⟨k0, k1, k2, f0, f1, f2⟩ := hbox.three
  have hlen : l.length = nb := by simpa [u8s] using hb.1
  have hkl : k < l.length := (List.getElem?_eq_some_iff.1 hk).1
  have hlt : k < nb := by omega
  obtain ⟨ad, u, rfl, _, hu, hc⟩ := hb.at_ hlt
  rw [u8s, List.getElem?_map, hk] at hu
  obtain rfl := Option.some.inj hu
  clear hu hk hb hbox hlen hkl
  have hi0 : (0 : Int) ≤ (k : Int) := by omega
  have hi1 : (k : Int) < (nb : Int) := by omega
  have d24 : (c == 24) = false := by simp; omega
  have d26 : (c == 26) = false := by simp; omega
  have d27 : (c == 27) = false := by simp; omega
  have d127 : (c == 127) = false := by simp; omega
  have CI := hide (fun w => inner_no c w h32)
  go_enter Tryd.func46, Tryd.ntmps46
  go_wp2_with fail
  go_loopw [] (fun wr => wr = w) (fun _ => 0)
  case atStart => rfl
  case round =>
    obtain rfl := hrel
    go_wp2_with fail
    go_quiet (fail)
    go_wp2_with fail
    go_quiet (fail)
    go_wp2_with fail
    refine (CI.out _).mono ?_
    rintro e w1 ⟨rfl, rfl⟩
    go_wp2_with fail
    go_ret2
    exact ⟨rfl, _, rfl⟩
end Go.Proofs.YtnnjppgmadmmaaaDoor
set_option maxRecDepth 100000
namespace Go.Proofs.YtnnjppgmadmmaaaDoor
open Go.RowKit
set_option linter.unusedVariables false
set_option maxHeartbeats 2000000 in
theorem parse_none (A : Option Addr) (c : Nat) (w : World) :
    Calls Tryd.prog 17 #[.slice A 0 c] w fun e w' => e = .returned (.slice none 0 0) ∧ Below w.heap.size w w' := by
  have HB := hide (fun o : Obj => (Below.refl w.heap.size w).alloc (Nat.le_refl _) o)
  have BX := fun ty => Box.new w ty #[.slice A 0 c, .int .i64 0, .slice none 0 0]
  have K := fun ty => (BX ty).three
  go_enter Tryd.func17, Tryd.ntmps17
  go_wp2_with fail
  go_loopw [] (fun wr => wr = w.alloc (.cells #[.slice A 0 c, .int .i64 0, .slice none 0 0] 61)) (fun _ => 0)
  case atStart => rfl
  case round =>
    obtain rfl := hrel
    obtain ⟨k0, k1, k2, f0, f1, f2⟩ := K 61
    go_wp2_with fail
    go_quiet (fail)
    go_wp2_with fail
    go_ret
    exact ⟨rfl, below_drewN (HB.out _) _⟩
end Go.Proofs.YtnnjppgmadmmaaaDoor
