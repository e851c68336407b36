/- Lists of numbers in memory: what a call appends, what a call gives back; what was just laid. -/
import Derived.Test.YtnjkongbccblaaaDoorLib
import Derived.Test.YtnjkongbccblaaaDoorRows
set_option maxRecDepth 100000
namespace Go.Proofs.YtnjkongbccblaaaDoor
open Go.RowKit
set_option linter.unusedVariables false
theorem info_i32 : (Tryd.prog.info? 21).map (fun i => (i.zero, i.size, i.bytes)) = some (some (.int .i32 0), 1, 4) := by kernel_rfl
theorem info_u8 : (Tryd.prog.info? 5).map (fun i => (i.zero, i.size, i.bytes)) = some (some (.int .u8 0), 1, 1) := by kernel_rfl
/-- What a call that appends ys to its own slice v (it reads xs) leaves; r: what it returns, of the new slice. -/
def Gave (base : Nat) (t : TypeId) (w : World) (v : Value) (n : Nat) (xs ys : List Value) (r : Value → Value) (e : Ending) (w' : World) : Prop :=
  ∃ v', e = .returned (r v') ∧ w'.ownsRow base t 1 v' (n + ys.length) (xs ++ ys) ∧ w.grownBy w' v.ownBlock ∧ Moved w v v'
def i32s (l : List Int) : List Value := l.map (Value.int .i32)
def u8s (l : List Int) : List Value := l.map (Value.int .u8)
theorem i32s_one (l : List Int) : ∀ u ∈ i32s l, u.oneCell' = true := ints_one _ _
theorem u8s_one (l : List Int) : ∀ u ∈ u8s l, u.oneCell' = true := ints_one _ _
theorem i32s_len (l : List Int) : (i32s l).length = l.length := by simp [i32s]
theorem u8s_len (l : List Int) : (u8s l).length = l.length := by simp [u8s]
theorem i32s_app (l m : List Int) : i32s (l ++ m) = i32s l ++ i32s m := by simp [i32s]
theorem u8s_app (l m : List Int) : u8s (l ++ m) = u8s l ++ u8s m := by simp [u8s]

/-- what was just laid reads as it was laid -/
theorem Seen.new (w : World) (t : TypeId) (cs : Array Value) (n : Nat) (hn : cs.size = n) : Seen (w.alloc (.cells cs t)) (w.heap.size + 1) (some ⟨w.heap.size, 0, none⟩) n cs.toList := by
  refine ⟨by simpa using hn, fun j u hu => ⟨_, rfl, by simp, ?_⟩⟩
  rw [Addr.add_lit, Nat.zero_add, (Box.new w t cs).cell j]
  simpa using hu
theorem Seen.fresh {w : World} {t : TypeId} {cs : Array Value} {n g B : Nat} {xs : List Value} (hg : g = w.heap.size) (hB : B = w.heap.size + 1) (hn : cs.size = n) (hx : cs.toList = xs) : Seen (w.alloc (.cells cs t)) B (some ⟨g, 0, none⟩) n xs := by
  subst hg hB hx
  exact Seen.new w t cs n hn
/-- A call that gives back a new slice of n cells, which reads as xs, and leaves what was there; r: the result, of that slice. -/
def Gives (w : World) (r : Value → Value) (n : Nat) (xs : List Value) (e : Ending) (w' : World) : Prop :=
  ∃ (A : Option Addr) (c : Nat), e = .returned (r (.slice A n c)) ∧ n ≤ c ∧ Seen w' w'.heap.size A n xs ∧ Below w.heap.size w w'
theorem gives_of_own {w w' : World} {r : Value → Value} {t : TypeId} {v : Value} {n : Nat} {xs : List Value} {e : Ending} (he : e = .returned (r v)) (h : w'.ownsRow w.heap.size t 1 v n xs) (hb : Below w.heap.size w w') : Gives w r n xs e w' := by
  obtain ⟨A, c, rfl, h1, _, _⟩ := own_form h
  exact ⟨A, c, he, h1, Seen.of_own h, hb⟩
end Go.Proofs.YtnjkongbccblaaaDoor
