/- Events side by side in one block; the strings that are compared. -/
import Derived.Test.YtnnjppgmadmmaaaDoorSeqPut
import Derived.Test.YtnnjppgmadmmaaaDoorSeqMake
set_option maxRecDepth 100000
namespace Go.Proofs.YtnnjppgmadmmaaaDoor
open Go.RowKit
set_option linter.unusedVariables false
/-- an event's parameters lie where they are said to -/
def ParIn (w : World) (p : PA.Ev × Value) : Prop := ∃ Ap cp, p.2 = .slice Ap p.1.params.length cp ∧ Seen w w.heap.size Ap p.1.params.length (i64s p.1.params) ∧ p.1.params.length ≤ 1024
theorem ParIn.below {w w' : World} {p : PA.Ev × Value} (h : ParIn w p) (b : Below w.heap.size w w') : ParIn w' p := by
  obtain ⟨Ap, cp, h1, h2, h3⟩ := h
  exact ⟨Ap, cp, h1, (h2.below b).more b.size, h3⟩
theorem seenE_block {w : World} {g : Nat} {M : List (PA.Ev × Value)} {cs : Array Value} {n : Nat} (hb : Box w g 24 cs) (hc : cs.toList = mcells M) (hn : M.length = n) (hp : ∀ p ∈ M, ParIn w p) : SeenE w (some ⟨g, 0, none⟩) n M := by
  refine ⟨hn, fun k p hk => ⟨g, rfl, hb.lt, fun j u hu => ?_, hp p (List.mem_of_getElem? hk)⟩⟩
  rw [hb.cell, ← Array.getElem?_toList, hc]
  exact mcells_at M k j p u hk hu
theorem str_eq {l m : List Int} {s : ByteArray} (hs : s = strOfNums m) (hl : ∀ x ∈ l, 0 ≤ x ∧ x < 256) (hm : ∀ x ∈ m, 0 ≤ x ∧ x < 256) : ((strOfNums l).toList == s.toList) = decide (l = m) := by
  subst hs
  exact strOfNums_eq hl hm
/-- a call that gives back a new slice -/
def GaveS (w : World) (n : Nat) (xs : List Value) (e : Ending) (w' : World) : Prop := ∃ (A : Option Addr) (c : Nat), e = .returned (.slice A n c) ∧ n ≤ c ∧ Seen w' w'.heap.size A n xs ∧ Below w.heap.size w w'
/-- a call that gives back a CSI -/
def GaveC (w : World) (p f : Int) (n : Nat) (xs : List Value) (e : Ending) (w' : World) : Prop := ∃ (A : Option Addr) (c : Nat), e = .returned (.agg #[.int .i64 4, .int .i32 0, .int .u8 p, .int .u8 0, .int .u8 f, .slice A n c, .string ⟨#[]⟩]) ∧ n ≤ c ∧ Seen w' w'.heap.size A n xs ∧ Below w.heap.size w w'
/-- Print of events that are known: these bytes, in a new slice -/
theorem print_is {A : Option Addr} {n c : Nat} {M : List (PA.Ev × Value)} {w : World} (es : List PA.Ev) (bs : List Int) (m : Nat) (hb : PA.bytesAll (printed es) = bs) (hm : bs.length = m) (he : M.map (·.1) = es) (hM : SeenE w A n M) (hf : ∀ p ∈ M, EvFits p.1) (hn : n ≤ 100000) (ht : Tens w) :
    Calls Tryd.prog 10 #[.slice A n c] w (GaveS w m (u8s bs)) := by
  subst hb he hm
  refine (print_any A n c M w hM hf hn ht).mono ?_
  rintro e w' ⟨v, he, h1, h2⟩
  obtain ⟨A, c, rfl, hc, _⟩ := own_form h1
  exact ⟨A, c, he, hc, Seen.of_own h1, h2⟩
theorem csi_is {f : Int} {A : Option Addr} {n c : Nat} {l : List Int} {w : World} (ps : List Int) (m : Nat) (hp : csiParams l = ps) (hm : ps.length = m) (hA : Seen w w.heap.size A n (i64s l)) (hn : n ≤ 1099511627776) :
    Calls Tryd.prog 9 #[.int .u8 f, .slice A n c] w (GaveC w 0 f m (i64s ps)) := by
  subst hp hm
  refine (csi_any f A n c l w hA hn).mono ?_
  rintro e w' ⟨v, he, h1, h2⟩
  obtain ⟨A, c, rfl, hc, _⟩ := own_form h1
  exact ⟨A, c, he, hc, Seen.of_own h1, h2⟩
theorem set_is {p : Int} {on : Bool} {A : Option Addr} {n c : Nat} {l : List Int} {w : World} (f : Int) (m : Nat) (hf : (if on = true then 104 else 108) = f) (hm : l.length = m) (hA : Seen w w.heap.size A n (i64s l)) (hn : n ≤ 1099511627776) :
    Calls Tryd.prog 12 #[.int .u8 p, .bool on, .slice A n c] w (GaveC w p f m (i64s l)) := by
  subst hf hm
  refine (set_any p on A n c l w hA hn).mono ?_
  rintro e w' ⟨v, he, h1, h2⟩
  obtain ⟨A, c, rfl, hc, _⟩ := own_form h1
  exact ⟨A, c, he, hc, Seen.of_own h1, h2⟩
theorem one_fits {e : PA.Ev} {u : Value} (h : EvFits e) : ∀ p ∈ [(e, u)], EvFits p.1 := by simpa using h
theorem one_par {w : World} {e : PA.Ev} {A : Option Addr} {n c : Nat} (hn : e.params.length = n) (h : Seen w w.heap.size A n (i64s e.params)) (hle : n ≤ 1024) : ∀ p ∈ [(e, Value.slice A n c)], ParIn w p := by
  subst hn
  intro p hp
  simp only [List.mem_singleton] at hp
  subst hp
  exact ⟨A, c, rfl, h, hle⟩
/-- '==' between a string made of these bytes and a constant of the same bytes -/
theorem str_same (l : List Int) (bs : List UInt8) (h : bs = l.map fun n => UInt8.ofNat n.toNat) : ((strOfNums l).toList == bs) = true := by rw [bytes_toList, h]; simp
end Go.Proofs.YtnnjppgmadmmaaaDoor
