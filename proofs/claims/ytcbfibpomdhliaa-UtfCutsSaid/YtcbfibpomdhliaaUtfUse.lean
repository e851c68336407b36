/- utf's contracts as laws use them: what comes back reads as a list; all that was there stays. -/
import Derived.Test.YtcbfibpomdhliaaUtfEncode
import Derived.Test.YtcbfibpomdhliaaSame
namespace Go.Proofs.Ytcbfibpomdhliaa
open Go.RowKit
set_option linter.unusedVariables false

/-- what was just laid reads as it was laid -/
theorem Seen.new (w : World) (t : TypeId) (cs : Array Value) (n : Nat) (hn : cs.size = n) : Seen (w.alloc (.cells cs t)) (w.heap.size + 1) (some ⟨w.heap.size, 0, none⟩) n cs.toList := by
  refine ⟨by simpa using hn, fun j u hu => ⟨_, rfl, by simp, ?_⟩⟩
  rw [Addr.add_lit, Nat.zero_add, (Box.new w t cs).cell j]
  simpa using hu
theorem Seen.fresh {w : World} {t : TypeId} {cs : Array Value} {n g B : Nat} {xs : List Value} (hg : g = w.heap.size) (hB : B = w.heap.size + 1) (hn : cs.size = n) (hx : cs.toList = xs) : Seen (w.alloc (.cells cs t)) B (some ⟨g, 0, none⟩) n xs := by
  subst hg hB hx
  exact Seen.new w t cs n hn
/-- A call that gives back a new slice of n cells, which reads as xs, and leaves what was there; r: the result, of that slice. -/
def Gives (w : World) (r : Value → Value) (n : Nat) (xs : List Value) (e : Ending) (w' : World) : Prop :=
  ∃ (A : Option Addr) (c : Nat), e = .returned (r (.slice A n c)) ∧ n ≤ c ∧ Seen w' w'.heap.size A n xs ∧ Below w.heap.size w w'
theorem gives_of_own {w w' : World} {r : Value → Value} {t : TypeId} {v : Value} {n : Nat} {xs : List Value} {e : Ending} (he : e = .returned (r v)) (h : w'.ownsRow w.heap.size t 1 v n xs) (hb : Below w.heap.size w w') : Gives w r n xs e w' := by
  obtain ⟨A, c, rfl, h1, _, _⟩ := own_form h
  exact ⟨A, c, he, h1, Seen.of_own h, hb⟩
theorem decode_is (A : Option Addr) (n c : Nat) (l : List Int) (w : World) (p q r : Int) (m : List Int) (k : Nat) (hd : U.dec U.z l = (⟨p, q, r⟩, m)) (hk : m.length = k) (hA : Seen w w.heap.size A n (u8s l)) (hl : ∀ x ∈ l, 0 ≤ x ∧ x < 256) (hn : n ≤ 274877906944) :
    Calls Try.prog 9 #[.slice A n c] w (Gives w (fun v => .tuple #[v, .agg #[.int .i64 p, .int .i64 q, .int .i64 r]]) k (i32s m)) := by
  refine (decode_any A n c l w hA hl hn).mono ?_
  rintro e w' ⟨v', he, h1, h2⟩
  rw [hd] at he h1
  subst hk
  exact gives_of_own he h1 h2
theorem encode_is (A : Option Addr) (n c : Nat) (l m : List Int) (w : World) (k : Nat) (hm : U.enc l = m) (hk : m.length = k) (hA : Seen w w.heap.size A n (i32s l)) (hl : ∀ x ∈ l, -2147483648 ≤ x ∧ x ≤ 2147483647) (hn : n ≤ 137438953472) :
    Calls Try.prog 13 #[.slice A n c] w (Gives w (fun v => v) k (u8s m)) := by
  refine (encode_any A n c l w hA hl hn).mono ?_
  rintro e w' ⟨v', he, h1, h2⟩
  rw [hm] at h1
  subst hk
  exact gives_of_own he h1 h2
theorem push_is (a b c x : Int) (w : World) (p q r : Int) (m : List Int) (k : Nat) (hd : U.it ⟨a, b, c⟩ x = (⟨p, q, r⟩, m)) (hk : m.length = k) (h0 : 0 ≤ x) (h1 : x < 256) (hs : (U.St.mk a b c).ok) :
    Calls Try.prog 19 #[.agg #[.int .i64 a, .int .i64 b, .int .i64 c], .int .u8 x] w (Gives w (fun v => .tuple #[.agg #[.int .i64 p, .int .i64 q, .int .i64 r], v]) k (i32s m)) := by
  refine (push_any ⟨a, b, c⟩ x w h0 h1 hs).mono ?_
  rintro e w' ⟨v', he, h1, h2⟩
  rw [hd] at he h1
  subst hk
  exact gives_of_own he h1 h2
theorem held_is (p q r : Int) (b : Bool) (hb : decide (0 < p) = b) (w : World) : Calls Try.prog 11 #[.agg #[.int .i64 p, .int .i64 q, .int .i64 r]] w fun e w' => e = .returned (.bool b) ∧ Below w.heap.size w w' := by
  subst hb
  refine (held_any ⟨p, q, r⟩ w).mono ?_
  rintro e w' ⟨he, rfl⟩
  exact ⟨he, (Below.refl _ _).alloc (Nat.le_refl _) _⟩
theorem same32_is (zs : List Int) (A A' : Option Addr) (B B' n c m c' : Nat) (w : World) (hx : Seen w B A n (i32s zs)) (hy : Seen w B' A' m (i32s zs)) (hn : n ≤ 1099511627776) :
    Calls Try.prog 10 #[.slice A n c, .slice A' m c'] w fun e w' => e = .returned (.bool true) ∧ Below w.heap.size w w' := by
  refine (same_i32 zs A A' B B' n c m c' w hx hy hn).mono ?_
  rintro e w' ⟨he, q, rfl⟩
  exact ⟨he, below_drewN (Below.refl _ _) _⟩
theorem same8_is (zs : List Int) (A A' : Option Addr) (B B' n c m c' : Nat) (w : World) (hx : Seen w B A n (u8s zs)) (hy : Seen w B' A' m (u8s zs)) (hn : n ≤ 1099511627776) :
    Calls Try.prog 12 #[.slice A n c, .slice A' m c'] w fun e w' => e = .returned (.bool true) ∧ Below w.heap.size w w' := by
  refine (same_u8 zs A A' B B' n c m c' w hx hy hn).mono ?_
  rintro e w' ⟨he, q, rfl⟩
  exact ⟨he, below_drewN (Below.refl _ _) _⟩
end Go.Proofs.Ytcbfibpomdhliaa
