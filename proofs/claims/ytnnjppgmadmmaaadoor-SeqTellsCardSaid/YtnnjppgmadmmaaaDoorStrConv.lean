/- Bytes as a string, a string as bytes, strings put together. -/
import Derived.Test.YtnnjppgmadmmaaaDoorParseConst
set_option maxRecDepth 100000
namespace Go.Proofs.YtnnjppgmadmmaaaDoor
open Go.RowKit
set_option linter.unusedVariables false
theorem str_app (l m : List Int) : strOfNums l ++ strOfNums m = strOfNums (l ++ m) := by
  apply ByteArray.ext
  simp [strOfNums, ByteArray.data_append]
theorem conv_seen {w : World} {B n c : Nat} {A : Option Addr} {l : List Int} (h : Seen w B A n (u8s l)) : (convert 26 9 (.slice A n c)).run Tryd.prog w = .ok (.string (strOfNums l)) w := by
  have hl : l.length = n := by simpa [u8s] using h.1
  rcases A with _ | ad
  · have : l = [] := by
      rcases l with _ | ⟨x, l⟩
      · rfl
      · obtain ⟨ad, h0, _⟩ := h.2 0 _ rfl
        cases h0
    subst this
    exact run_convert_bytes_nil w _ _ Tryd.underlying26 Tryd.underlying5 _ _ _ Tryd.underlying9
  · have hh : (loadCells ad n).run Tryd.prog w = .ok ((l.map (Value.int .u8)).toArray) w := by
      have := run_loadCells_list (P := Tryd.prog) w ad (l.map (Value.int .u8)) (fun j v hj => by
        obtain ⟨ad', h1, _, h3⟩ := h.2 j v hj
        injection h1 with h1
        subst h1
        exact h3)
      simpa [hl] using this
    rw [run_convert_bytes_string w _ _ _ _ n c Tryd.underlying26 Tryd.underlying5 Tryd.underlying9, run_bytesToString w _ n c l hh, foldl_push_bytes]
    simp [strOfNums, ByteArray.empty, ByteArray.emptyWithCapacity]
    rfl
/-- what '[]byte(s)' makes of a world -/
def strCap (w : World) (s : ByteArray) : Nat := grownCap w s.size 0 5
def strWorld (w : World) (s : ByteArray) : World := w.drew.alloc (.cells (bytesRow s (strCap w s)) 5 ((bytesRow s (strCap w s)).size, (bytesRow s (strCap w s)).size + 1))
theorem conv_str (w : World) (s : ByteArray) : (convert 9 26 (.string s)).run Tryd.prog w = .ok (.slice (some ⟨w.heap.size, 0, none⟩) s.size (strCap w s)) (strWorld w s) := conv_string w s
theorem strWorld_below (w : World) (s : ByteArray) : Below w.heap.size w (strWorld w s) := (Below.refl _ _).drew.alloc (Nat.le_refl _) _
theorem strWorld_size (w : World) (s : ByteArray) : (strWorld w s).heap.size = w.heap.size + 1 := by simp [strWorld]
theorem strWorld_seen {w : World} {s : ByteArray} {l : List Int} {n : Nat} (hs : s = strOfNums l) (hl : ∀ x ∈ l, 0 ≤ x ∧ x < 256) (hn : l.length = n) : Seen (strWorld w s) (strWorld w s).heap.size (some ⟨w.heap.size, 0, none⟩) n (u8s l) := by
  subst hs
  exact seen_string hl rfl (by rw [strWorld_size]; exact Nat.lt_succ_self _) hn
theorem strOfNums_size (l : List Int) : (strOfNums l).size = l.length := by simp [strOfNums, ByteArray.size]
end Go.Proofs.YtnnjppgmadmmaaaDoor
