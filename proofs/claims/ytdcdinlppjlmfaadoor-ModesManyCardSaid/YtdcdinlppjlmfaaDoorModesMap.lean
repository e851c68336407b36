/- The map that says of each mode what it was set to last. -/
import Derived.Test.YtdcdinlppjlmfaaDoorModesSpec
import Derived.Test.YtdcdinlppjlmfaaDoorMapBool
import Derived.Test.YtdcdinlppjlmfaaDoorScreenVal
import Derived.Test.YtdcdinlppjlmfaaDoorKept
import Derived.Maps.RangeWalk
import Derived.Maps.Own
import Derived.Maps.Views
set_option maxRecDepth 100000
namespace Go.Proofs.YtdcdinlppjlmfaaDoor
open Go Go.RowKit Go.Maps
set_option linter.unusedVariables false
theorem keyed64 : Keyed Tryd.prog 3 := int_keyed Tryd.underlying3
theorem zeroBool64 (w : World) : (zeroValue 4).run Tryd.prog w = .ok (.bool false) w := by kernel_rfl
/-- the map reads as each mode's truth, and holds modes alone -/
def MHolds (t : SN.Sc) (D : DataW Unit) : Prop := IsMap D ∧ (∀ kl, has D kl = true → ∃ m : Int, SN.IsMode m ∧ kl = .int .i64 m) ∧ ∀ m : Int, SN.IsMode m → ∀ z, D.atKey (.int .i64 m) z = .lit (.bool (SN.modeV t m))
theorem key_mode {n : Int} : WideAt.IsKeyLit (.int .i64 n) := trivial
theorem key64_of (x : Int) (h0 : 0 ≤ x) (h1 : x < 1000) : keyOf Tryd.prog 3 (.int .i64 x) = some (.int .i64 x) := by
  refine keyOf_int_mk Tryd.underlying3 ?_
  simp [Lit.wf, IntKind.min, IntKind.max, IntKind.bits, IntKind.signed]
  omega
theorem MHolds.put {t : SN.Sc} {D : DataW Unit} (h : MHolds t D) {n : Int} (hn : SN.IsMode n) (on : Bool) : MHolds (SN.modeS t n on) (D.put (.int .i64 n) (.lit (.bool on))) := by
  obtain ⟨h1, h2, h3⟩ := h
  refine ⟨h1.put _ _, fun kl hk => ?_, fun m hm z => ?_⟩
  · by_cases e : kl = .int .i64 n
    · exact ⟨n, hn, e⟩
    · rw [has_put_other e] at hk
      exact h2 kl hk
  · by_cases e : m = n
    · subst e
      rw [atKey_put_same h1 key_mode, SN.modeV_set hn]
    · rw [atKey_put_other (fun hh => e (by cases hh; rfl)), SN.modeV_other hn hm e]
      exact h3 m hm z
theorem MHolds.start (s : SN.Sc) : MHolds s (((((DataW.map [] : DataW Unit).put (.int .i64 1) (.lit (.bool s.keys))).put (.int .i64 6) (.lit (.bool s.org))).put (.int .i64 7) (.lit (.bool s.wrap))).put (.int .i64 25) (.lit (.bool s.shown))) := by
  have m0 : IsMap (DataW.map [] : DataW Unit) := ⟨_, rfl⟩
  have n1 : ∀ a b : Int, a ≠ b → (Lit.int .i64 a) ≠ (Lit.int .i64 b) := fun a b h e => h (by cases e; rfl)
  refine ⟨(((m0.put _ _).put _ _).put _ _).put _ _, fun kl hk => ?_, fun m hm z => ?_⟩
  · by_cases e1 : kl = .int .i64 25
    · exact ⟨25, by unfold SN.IsMode; omega, e1⟩
    rw [has_put_other e1] at hk
    by_cases e2 : kl = .int .i64 7
    · exact ⟨7, by unfold SN.IsMode; omega, e2⟩
    rw [has_put_other e2] at hk
    by_cases e3 : kl = .int .i64 6
    · exact ⟨6, by unfold SN.IsMode; omega, e3⟩
    rw [has_put_other e3] at hk
    by_cases e4 : kl = .int .i64 1
    · exact ⟨1, by unfold SN.IsMode; omega, e4⟩
    rw [has_put_other e4] at hk
    simp [has] at hk
  · rcases hm with rfl | rfl | rfl | rfl
    · rw [atKey_put_other (n1 _ _ (by omega)), atKey_put_other (n1 _ _ (by omega)), atKey_put_other (n1 _ _ (by omega)), atKey_put_same m0 key_mode]
      rfl
    · rw [atKey_put_other (n1 _ _ (by omega)), atKey_put_other (n1 _ _ (by omega)), atKey_put_same (m0.put _ _) key_mode]
      rfl
    · rw [atKey_put_other (n1 _ _ (by omega)), atKey_put_same ((m0.put _ _).put _ _) key_mode]
      rfl
    · rw [atKey_put_same (((m0.put _ _).put _ _).put _ _) key_mode]
      rfl
/-- the map in memory, at block g, of at most n entries -/
def MMap (w : World) (g n : Nat) (t : SN.Sc) : Prop := ∃ D, w.ownsMap (H := Unit) Tryd.prog 3 (plainElem Tryd.prog 4) g n D ∧ MHolds t D
theorem own_map_kept {H : Type} {P : Program} {k : TypeId} {R : Value → Option (DataW H × List MemPlace)} {b n : Nat} {D : DataW H} {w w' : World} {L : List (Option Nat)} (h : w.ownsMap P k R b n D) (hk : Kept L w w') (hb : some b ∉ L) : w'.ownsMap P k R b n D := by
  have hlt := World.ownsMap.lt h
  obtain ⟨es, clock, hb0, F, hs, hD⟩ := h
  exact ⟨es, clock, (hk.block b hlt hb).trans hb0, F, hs, hD⟩
theorem MMap.kept {w w' : World} {g n : Nat} {t : SN.Sc} {L : List (Option Nat)} (h : MMap w g n t) (hk : Kept L w w') (hb : some g ∉ L) : MMap w' g n t := by
  obtain ⟨D, h1, h2⟩ := h
  exact ⟨D, own_map_kept h1 hk hb, h2⟩
theorem MMap.below {w w' : World} {g n : Nat} {t : SN.Sc} (h : MMap w g n t) (hb : Below w.heap.size w w') : MMap w' g n t := by
  obtain ⟨D, h1, h2⟩ := h
  exact ⟨D, World.ownsMap.kept h1 (grown_of_below hb none) (by simp), h2⟩
theorem MMap.lt {w : World} {g n : Nat} {t : SN.Sc} (h : MMap w g n t) : g < w.heap.size := by
  obtain ⟨D, h1, h2⟩ := h
  exact World.ownsMap.lt h1
theorem elem_bool (x : Bool) : plainElem (H := Unit) Tryd.prog 4 (.bool x) = some (.lit (.bool x), []) := plainElem_bool Tryd.underlying4 x
theorem MMap.ne_box {w : World} {g n b : Nat} {t : SN.Sc} {T : TypeId} {cs : Array Value} (h : MMap w g n t) (hb : Box w b T cs) : b ≠ g := fun e => by
  obtain ⟨D, ⟨es, clock, h0, _⟩, _⟩ := h
  unfold Box at hb
  rw [e, h0] at hb
  cases hb
/-- rows stay where a map is written -/
theorem MMap.row_kept {w w' : World} {g n base size m : Nat} {t : SN.Sc} {T : TypeId} {v : Value} {xs : List Value} (h : MMap w g n t) (k : Kept [some g] w w') (ho : w.ownsRow base T size v m xs) : w'.ownsRow base T size v m xs :=
  own_kept ho k fun b hb hm => by
    rcases ho.2 with ⟨rfl, _⟩ | ⟨g', cap, cur, rfl, _, hh, _⟩
    · cases hb
    · obtain rfl : g' = b := by
        have := hb
        simp [Value.ownBlock] at this
        exact this
      obtain rfl : g' = g := by simpa using hm
      exact h.ne_box (show Box w g' _ cur from hh) rfl
theorem MMap.isg {w w' : World} {g n : Nat} {t : SN.Sc} {G : PG.Gr} {v : Value} (h : MMap w g n t) (k : Kept [some g] w w') (hg : IsG w G v) : IsG w' G v := by
  obtain ⟨s, h1, h2⟩ := hg
  exact ⟨s, h1, h.row_kept k h2⟩
theorem MMap.box {w w' : World} {g n b : Nat} {t : SN.Sc} {T : TypeId} {cs : Array Value} (h : MMap w g n t) (k : Kept [some g] w w') (hb : Box w b T cs) : Box w' b T cs :=
  hb.kept k (by simp; exact h.ne_box hb)
/-- a map's literal: 'm[k] = v' in the order that stands there -/
theorem wpList_insert_own {H : Type} {P : Program} (w : World) {ops : Array Oper} {rest : List Oper} {o : Oper} {a : Act} {Q : Exit → Act → World → Prop}
    (hg : o.guard = none) (m x v : Operand) (t : TypeId) (hop : o.op = Op.insert t m x v)
    (k e : TypeId) (K : Keyed P k) (ht : P.underlying t = some (.map k e)) (R : Value → Option (DataW H × List MemPlace)) (b n : Nat) (D : DataW H)
    (hm : a.eval m = .map (some b)) (hown : w.ownsMap P k R b n D) (hn : n < maxLen) (key val : Value) (kl : Lit) (hx : a.eval x = key) (hv : a.eval v = val) (hkey : keyOf P k key = some kl)
    (d : DataW H) (ps : List MemPlace) (hval : R val = some (d, ps))
    (hK : ∀ w', w'.ownsMap P k R b (n + 1) (D.put kl d) → w.grownBy w' (some b) → wpList P ops Q rest (a.put o.dst undef) w') :
    wpList P ops Q (o :: rest) a w := by
  refine wpList_plain hg fun K' hK' => ?_
  obtain ⟨w', hrun, r1, r2⟩ := hown.update K ht hn hkey hval
  unfold Oper.wp
  simp [execOp, hop, hm, hx, hv, hrun, Result.andThen]
  exact hK' _ _ (hK w' r1 r2)
theorem invKey {key : Value} {kl : Lit} (h : keyOf Tryd.prog 3 key = some kl) : ∃ x : Int, key = .int .i64 x := by
  obtain ⟨x, h1, _⟩ := Maps.keyOf_int_inv Tryd.underlying3 h
  exact ⟨x, h1⟩
theorem invBool {v : Value} {y : DataW Unit × List MemPlace} (h : plainElem Tryd.prog 4 v = some y) : ∃ c : Bool, v = .bool c := by
  obtain ⟨c, h1, _⟩ := plainElem_bool_inv Tryd.underlying4 h
  exact ⟨c, h1⟩
/-- what an entry that comes tells -/
theorem MHolds.entry {t : SN.Sc} {D : DataW Unit} (h : MHolds t D) {x : Int} {c : Bool} {kl : Lit} {y : DataW Unit × List MemPlace} (hkey : keyOf Tryd.prog 3 (.int .i64 x) = some kl) (hd : has D kl = true) (hv : plainElem Tryd.prog 4 (.bool c) = some y) (hat : ∀ z, D.atKey kl z = y.1) :
    SN.IsMode x ∧ SN.modeV t x = c := by
  obtain ⟨m, hm, rfl⟩ := h.2.1 kl hd
  obtain ⟨x', e1, e2, _⟩ := Maps.keyOf_int_inv Tryd.underlying3 hkey
  cases e1
  cases e2
  refine ⟨hm, ?_⟩
  rw [elem_bool] at hv
  cases hv
  have := (h.2.2 x hm (.lit (.bool true))).symm.trans (hat _)
  cases h' : SN.modeV t x <;> rw [h'] at this <;> cases c <;> first | rfl | (cases this)
end Go.Proofs.YtdcdinlppjlmfaaDoor
