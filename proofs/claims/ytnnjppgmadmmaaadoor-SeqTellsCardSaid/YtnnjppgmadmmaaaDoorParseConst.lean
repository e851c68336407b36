/- '[]byte(..)' of a constant and of a string; what feeding leaves below it; the laid tables. -/
import Derived.Test.YtnnjppgmadmmaaaDoorParseEvents
import Derived.Test.YtnnjppgmadmmaaaDoorParseMore
import Derived.Lib.SlBytesConst
import Derived.Laws.IdiomStrings
set_option maxRecDepth 100000
namespace Go.Proofs.YtnnjppgmadmmaaaDoor
open Go.RowKit
set_option linter.unusedVariables false
theorem Fed.below {B g : Nat} {s' : PA.S} {evs : List PA.Ev} {w w' : World} {e : Ending} (h : Fed B g s' evs (.slice none 0 0) (.slice none 0 0) w e w') {C : Nat} (hC : C ≤ g) (hw : C ≤ w.heap.size) : Below C w w' := by
  obtain ⟨v', vp', vt', M, _, _, _, _, _, _, hK, _⟩ := h
  refine hK.toBelow hw (fun k hk => ?_)
  simp [Value.ownBlock] at hk
  omega
theorem three_of {α β : Type} {M : List (α × β)} {a b c : α} (h : M.map (·.1) = [a, b, c]) : ∃ x y z, M = [(a, x), (b, y), (c, z)] := by
  rcases M with _ | ⟨⟨p, x⟩, _ | ⟨⟨q, y⟩, _ | ⟨⟨r, z⟩, _ | ⟨t, M⟩⟩⟩⟩ <;> simp at h
  obtain ⟨rfl, rfl, rfl⟩ := h
  exact ⟨x, y, z, rfl⟩
theorem conv_const (w : World) (C : Array Value) (n c : Nat) : (convert 26 26 (.slice (some ⟨w.heap.size, 0, none⟩) n c)).run Tryd.prog (w.alloc (.cells C 5)) = .ok (.slice (some ⟨w.heap.size, 0, none⟩) n c) (w.alloc (.cells C 5 (C.size, C.size + 1))) :=
  Lib.run_convert_bytes_const w _ _ C n c Tryd.underlying26 Tryd.underlying5
theorem conv_string (w : World) (s : ByteArray) : (convert 9 26 (.string s)).run Tryd.prog w = .ok (.slice (some ⟨w.heap.size, 0, none⟩) s.size (grownCap w s.size 0 5))
      (w.drew.alloc (.cells (bytesRow s (grownCap w s.size 0 5)) 5 ((bytesRow s (grownCap w s.size 0 5)).size, (bytesRow s (grownCap w s.size 0 5)).size + 1))) :=
  run_bytes_of_string w _ _ _ s Tryd.underlying9 Tryd.underlying26 Tryd.underlying5
/-- what was just laid reads as it was laid, whatever mark it bears -/
theorem seen_marked {w : World} {t : TypeId} {cs : Array Value} {lo hi n g B : Nat} {xs : List Value} (hg : g = w.heap.size) (hB : w.heap.size < B) (hn : xs.length = n) (hx : ∀ (j : Nat) (u : Value), xs[j]? = some u → cs[j]? = some u) : Seen (w.alloc (.cells cs t (lo, hi))) B (some ⟨g, 0, none⟩) n xs := by
  subst hg
  refine ⟨hn, fun j u hu => ⟨_, rfl, hB, ?_⟩⟩
  rw [Addr.add_lit, Nat.zero_add, World.cell?_alloc_mark]
  exact hx j u hu
theorem seen_string {w : World} {l : List Int} {cap lo hi n g B : Nat} (hl : ∀ x ∈ l, 0 ≤ x ∧ x < 256) (hg : g = w.heap.size) (hB : w.heap.size < B) (hn : l.length = n) : Seen (w.alloc (.cells (bytesRow (strOfNums l) cap) 5 (lo, hi))) B (some ⟨g, 0, none⟩) n (u8s l) := by
  refine seen_marked hg hB (by simpa [u8s] using hn) (fun j u hu => ?_)
  rw [u8s, List.getElem?_map] at hu
  obtain ⟨x, hx, rfl⟩ := Option.map_eq_some_iff.1 hu
  have hj : j < l.length := (List.getElem?_eq_some_iff.1 hx).1
  have hxr := hl x (List.mem_of_getElem? hx)
  have hjs : j < (strOfNums l).data.size := by simpa [strOfNums] using hj
  rw [bytesRow_at _ _ _ hjs]
  have hx' : l[j] = x := by rw [List.getElem?_eq_getElem hj] at hx; exact Option.some.inj hx
  have : (strOfNums l).data[j] = UInt8.ofNat x.toNat := by simp [strOfNums, hx']
  rw [this]
  simp
  omega
theorem parse_laid {w : World} {l : List (String × DataW Unit)} (h : laidMet Tryd.prog l w) (hm : ("linguist/parse.runs", Rows.laid_linguist_parse_runs) ∈ l ∧ ("linguist/parse.moves", Rows.laid_linguist_parse_moves) ∈ l) : Tabs w := tabs_laid h hm.1 hm.2
end Go.Proofs.YtnnjppgmadmmaaaDoor
