/- UtfWide: whatever number and byte, it answers true; it only makes new memory. -/
import Derived.Test.YtcbfibpomdhliaaWideEven
import Derived.Test.YtcbfibpomdhliaaWideOdd
namespace Go.Proofs.Ytcbfibpomdhliaa
open Go.RowKit
theorem en_lens (r : Int) (h : 128 ≤ r ∧ r < 1114112) : ∃ ne, (U.en r).length = ne ∧ ((ne = 2 ∧ 128 ≤ r ∧ r < 2048) ∨ (ne = 3 ∧ 2048 ≤ r ∧ r < 65536) ∨ (ne = 4 ∧ 65536 ≤ r ∧ r < 1114112)) := by
  have cs : (128 ≤ r ∧ r < 2048) ∨ (2048 ≤ r ∧ r < 65536) ∨ (65536 ≤ r ∧ r < 1114112) := by omega
  rcases cs with c | c | c
  · exact ⟨2, by rw [U.en_eq2 r c.1 c.2]; rfl, .inl ⟨rfl, c⟩⟩
  · exact ⟨3, by rw [U.en_eq3 r c.1 c.2]; rfl, .inr (.inl ⟨rfl, c⟩)⟩
  · exact ⟨4, by rw [U.en_eq4 r c.1]; rfl, .inr (.inr ⟨rfl, c⟩)⟩
theorem utfWide_any (n b : Int) (w : World) (hn : (Lit.int .i64 n).wf = true) (hb : (Lit.int .u8 b).wf = true) :
    Calls Try.prog 7 #[.int .i64 n, .int .u8 b] w fun e w' => e = .returned (.bool true) ∧ Below w.heap.size w w' := by
  have hn' := bounds_i64 hn
  have hb' := bounds_u8 hb
  have hbit := i64_mask 1 (by omega) n
  simp at hbit
  have c1 := within_any n 128 55295
  have c2 := within_any n 57344 1114111
  have hK1 : 128 ≤ 128 + n % (55295 - 128 + 1) ∧ 128 + n % (55295 - 128 + 1) ≤ 55295 := by omega
  have hK2 : 57344 ≤ 57344 + n % (1114111 - 57344 + 1) ∧ 57344 + n % (1114111 - 57344 + 1) ≤ 1114111 := by omega
  generalize 128 + n % (55295 - 128 + 1) = K1 at c1 hK1
  generalize 57344 + n % (1114111 - 57344 + 1) = K2 at c2 hK2
  have C1 := fun w => c1 w hn'.1 hn'.2 (by omega) (by omega) (by omega)
  have C2 := fun w => c2 w hn'.1 hn'.2 (by omega) (by omega) (by omega)
  have cs : n % 2 = 0 ∨ n % 2 = 1 := by omega
  rcases cs with h | h
  · obtain ⟨ne, h1, h2⟩ := en_lens K1 (by omega)
    exact wide_even n b K1 ne w hb'.1 (by omega) (by rw [hbit, h]) h1 h2 (by simp [U.isR]; omega) C1
  · obtain ⟨ne, h1, h2⟩ := en_lens K2 (by omega)
    exact wide_odd n b K2 ne w hb'.1 (by omega) (by rw [hbit, h]) h1 h2 (by simp [U.isR]; omega) K1 hK1 C1 C2
end Go.Proofs.Ytcbfibpomdhliaa
