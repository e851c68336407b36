/- '==' on what screens hold: two letters, the saved cursor. linguistkeep.Screens of two screens alike. (written by tools/genscreens11.py) Screens in regions that draw: a whole screen loaded, one that a call gave; the given book's comparing of two alike, told of them. -/
import Derived.Test.YtdcdinlppjlmfaaDoorPenEq
import Derived.WalkKit
import Derived.Test.YtdcdinlppjlmfaaDoorScreenVal
import Derived.Test.YtdcdinlppjlmfaaDoorGridRefNew
import Derived.Test.YtdcdinlppjlmfaaDoorKeepPen
import Derived.Test.YtdcdinlppjlmfaaDoorCellWidth
import Derived.Test.YtdcdinlppjlmfaaDoorKept
set_option maxRecDepth 100000
namespace Go.Proofs.YtdcdinlppjlmfaaDoor
open Go Go.RowKit
set_option linter.unusedVariables false
theorem run_equalIn_arr2 {P : Program} (d : Nat) (t e : TypeId) (k j : IntKind) (a b a' b' : Int) (w : World) (ht : P.underlying t = some (.array 2 e)) (he : P.underlying e = some (.int k)) (hz : ∀ w, (Go.sizeOf e).run P w = .ok 1 w) (hg : ∀ w, (isAgg e).run P w = .ok false w) :
    (Op.equalIn (d + 2) t (.agg #[.int j a, .int j b]) (.agg #[.int j a', .int j b'])).run P w = .ok (a == a' && b == b') w := by
  have hi : ∀ x y w, (Op.equalIn (d + 1) e (.int j x) (.int j y)).run P w = .ok (x == y) w := fun x y w => run_equalIn_int w d e j k x y he
  have hp0 : ∀ (x y : Value) w, (Go.part e #[x, y] 0).run P w = .ok x w := fun x y w => by simp [Go.part, hg]
  have hp1 : ∀ (x y : Value) w, (Go.part e #[x, y] 1).run P w = .ok y w := fun x y w => by simp [Go.part, hg]
  rw [Op.equalIn]
  simp only [Sem.run_bind, run_underlying ht, Result.andThen_ok, hz]
  rw [Std.Legacy.Range.forIn_eq_forIn_range']
  simp [Std.Legacy.Range.size, List.range', hp0, hp1, hi]
  by_cases h1 : a = a' <;> by_cases h2 : b = b' <;> simp [h1, h2]
theorem sets_guard : Tryd.prog.eqGuardType Tryd.prog.depth 28 = false := by kernel_rfl
theorem saved_guard : Tryd.prog.eqGuardType Tryd.prog.depth 30 = false := by kernel_rfl
theorem sets_eqIn (d : Nat) (a b a' b' : Int) (w : World) : (Op.equalIn (d + 2) 28 (.agg #[.int .u8 a, .int .u8 b]) (.agg #[.int .u8 a', .int .u8 b'])).run Tryd.prog w = .ok (a == a' && b == b') w :=
  run_equalIn_arr2 d _ 5 .u8 .u8 a b a' b' w (by kernel_rfl) Tryd.underlying5 (fun w => by have z := Tryd.sizeOf5; go_simp) (fun w => by have z := Tryd.isAgg5; go_simp)
set_option maxHeartbeats 2000000 in
theorem saved_eqIn (d : Nat) (r c p0 p1 p2 s0 s1 h r' c' q0 q1 q2 t0 t1 h' : Int) (o o' : Bool) (w : World) :
    (Op.equalIn (d + 3) 30 (.agg #[.int .i64 r, .int .i64 c, .int .i64 p0, .int .i64 p1, .int .i64 p2, .int .u8 s0, .int .u8 s1, .int .i64 h, .bool o]) (.agg #[.int .i64 r', .int .i64 c', .int .i64 q0, .int .i64 q1, .int .i64 q2, .int .u8 t0, .int .u8 t1, .int .i64 h', .bool o'])).run Tryd.prog w
      = .ok (r == r' && c == c' && (p0 == q0 && p1 == q1 && p2 == q2) && (s0 == t0 && s1 == t1) && h == h' && o == o') w := by
  have u3 := Tryd.underlying3
  have a3 := Tryd.isAgg3
  have z3 := Tryd.sizeOf3
  have u4 := Tryd.underlying4
  have a4 := Tryd.isAgg4
  have z4 := Tryd.sizeOf4
  have a5 := Tryd.isAgg26
  have z5 := Tryd.sizeOf26
  have a6 := Tryd.isAgg28
  have z6 := Tryd.sizeOf28
  have hS : Tryd.prog.underlying 30 = some (.struct (Tryd.prog.fieldsOf 30)) := by kernel_rfl
  have hp : Tryd.prog.stoodInHeld 30 = false := by kernel_rfl
  have pe := pen_eqIn d p0 p1 p2 q0 q1 q2
  have se := sets_eqIn d s0 s1 t0 t1
  rw [run_equalIn_agg w (d + 2) _ _ _ hS hp]
  simp only [Program.fieldsOf, Tryd.underlying30]
  generalize (p0 == q0 && p1 == q1 && p2 == q2) = b3 at pe ⊢
  generalize (s0 == t0 && s1 == t1) = b4 at se ⊢
  go_simp
  by_cases h1 : r = r' <;> by_cases h2 : c = c' <;> by_cases h5 : h = h' <;> cases b3 <;> cases b4 <;> cases o <;> cases o' <;> simp [h1, h2, h5]
theorem eql_sets (a b a' b' : Int) (w : World) : (binOp .eql 28 (.agg #[.int .u8 a, .int .u8 b]) (.agg #[.int .u8 a', .int .u8 b'])).run Tryd.prog w = .ok (.bool (a == a' && b == b')) w := by
  rw [run_eql_struct, sets_eqIn 9998]
  rfl
theorem eql_saved (r c p0 p1 p2 s0 s1 h r' c' q0 q1 q2 t0 t1 h' : Int) (o o' : Bool) (w : World) :
    (binOp .eql 30 (.agg #[.int .i64 r, .int .i64 c, .int .i64 p0, .int .i64 p1, .int .i64 p2, .int .u8 s0, .int .u8 s1, .int .i64 h, .bool o]) (.agg #[.int .i64 r', .int .i64 c', .int .i64 q0, .int .i64 q1, .int .i64 q2, .int .u8 t0, .int .u8 t1, .int .i64 h', .bool o'])).run Tryd.prog w
      = .ok (.bool (r == r' && c == c' && (p0 == q0 && p1 == q1 && p2 == q2) && (s0 == t0 && s1 == t1) && h == h' && o == o')) w := by
  rw [run_eql_struct, saved_eqIn 9997]
  rfl
end Go.Proofs.YtdcdinlppjlmfaaDoor
set_option maxRecDepth 100000
namespace Go.Proofs.YtdcdinlppjlmfaaDoor
open Go.RowKit
set_option linter.unusedVariables false
set_option maxHeartbeats 8000000 in
theorem screens_go (R K n c m c' row col top bot tabs sr sc B B' : Nat) (p0 p1 p2 s0 s1 sh q0 q1 q2 t0 t1 th : Int) (pend wrap org shown keys pad so : Bool) (l : List PG.Cl) (A A' : Option Addr) (w : World) (hx : SeenC w B A n l) (hy : SeenC w B' A' m l) (hB : B ≤ w.heap.size) (hB' : B' ≤ w.heap.size) (hn : n ≤ 1099511627776) :
    Calls Tryd.prog 15 #[.agg #[.int .i64 R, .int .i64 K, .slice A n c, .int .i64 row, .int .i64 col, .bool pend, .int .i64 top, .int .i64 bot, .int .i64 p0, .int .i64 p1, .int .i64 p2, .int .u64 tabs, .int .u8 s0, .int .u8 s1, .int .i64 sh, .bool wrap, .bool org, .bool shown, .bool keys, .bool pad, .int .i64 sr, .int .i64 sc, .int .i64 q0, .int .i64 q1, .int .i64 q2, .int .u8 t0, .int .u8 t1, .int .i64 th, .bool so], .agg #[.int .i64 R, .int .i64 K, .slice A' m c', .int .i64 row, .int .i64 col, .bool pend, .int .i64 top, .int .i64 bot, .int .i64 p0, .int .i64 p1, .int .i64 p2, .int .u64 tabs, .int .u8 s0, .int .u8 s1, .int .i64 sh, .bool wrap, .bool org, .bool shown, .bool keys, .bool pad, .int .i64 sr, .int .i64 sc, .int .i64 q0, .int .i64 q1, .int .i64 q2, .int .u8 t0, .int .u8 t1, .int .i64 th, .bool so]] w fun e w' => e = .returned (.bool true) ∧ Below w.heap.size w w' := by
  have SC := hide (fun w' (hb : Below w.heap.size w w') => same_cells l A A' B B' n c m c' w' (hx.below (hb.mono hB)) (hy.below (hb.mono hB')) hn)
  have ep : ∀ w', (binOp .eql 26 (.agg #[.int .i64 p0, .int .i64 p1, .int .i64 p2]) (.agg #[.int .i64 p0, .int .i64 p1, .int .i64 p2])).run Tryd.prog w' = .ok (.bool true) w' := fun w' => by rw [eql_pen]; simp
  have es : ∀ w', (binOp .eql 28 (.agg #[.int .u8 s0, .int .u8 s1]) (.agg #[.int .u8 s0, .int .u8 s1])).run Tryd.prog w' = .ok (.bool true) w' := fun w' => by rw [eql_sets]; simp
  have ev : ∀ w', (binOp .eql 30 (.agg #[.int .i64 sr, .int .i64 sc, .int .i64 q0, .int .i64 q1, .int .i64 q2, .int .u8 t0, .int .u8 t1, .int .i64 th, .bool so]) (.agg #[.int .i64 sr, .int .i64 sc, .int .i64 q0, .int .i64 q1, .int .i64 q2, .int .u8 t0, .int .u8 t1, .int .i64 th, .bool so])).run Tryd.prog w' = .ok (.bool true) w' := fun w' => by rw [eql_saved]; simp
  have sg := sets_guard
  have vg := saved_guard
  have pg := pen_guard
  clear hx hy hB hB' hn
  have x1 := hide (Box.new w 32 #[.int .i64 R, .int .i64 K, .slice A n c, .int .i64 row, .int .i64 col, .bool pend, .int .i64 top, .int .i64 bot, .int .i64 p0, .int .i64 p1, .int .i64 p2, .int .u64 tabs, .int .u8 s0, .int .u8 s1, .int .i64 sh, .bool wrap, .bool org, .bool shown, .bool keys, .bool pad, .int .i64 sr, .int .i64 sc, .int .i64 q0, .int .i64 q1, .int .i64 q2, .int .u8 t0, .int .u8 t1, .int .i64 th, .bool so])
  have x2 := hide (Box.new (w.alloc (.cells #[.int .i64 R, .int .i64 K, .slice A n c, .int .i64 row, .int .i64 col, .bool pend, .int .i64 top, .int .i64 bot, .int .i64 p0, .int .i64 p1, .int .i64 p2, .int .u64 tabs, .int .u8 s0, .int .u8 s1, .int .i64 sh, .bool wrap, .bool org, .bool shown, .bool keys, .bool pad, .int .i64 sr, .int .i64 sc, .int .i64 q0, .int .i64 q1, .int .i64 q2, .int .u8 t0, .int .u8 t1, .int .i64 th, .bool so] 32)) 32 #[.int .i64 R, .int .i64 K, .slice A' m c', .int .i64 row, .int .i64 col, .bool pend, .int .i64 top, .int .i64 bot, .int .i64 p0, .int .i64 p1, .int .i64 p2, .int .u64 tabs, .int .u8 s0, .int .u8 s1, .int .i64 sh, .bool wrap, .bool org, .bool shown, .bool keys, .bool pad, .int .i64 sr, .int .i64 sc, .int .i64 q0, .int .i64 q1, .int .i64 q2, .int .u8 t0, .int .u8 t1, .int .i64 th, .bool so])
  have b0 : Below w.heap.size w ((w.alloc (.cells #[.int .i64 R, .int .i64 K, .slice A n c, .int .i64 row, .int .i64 col, .bool pend, .int .i64 top, .int .i64 bot, .int .i64 p0, .int .i64 p1, .int .i64 p2, .int .u64 tabs, .int .u8 s0, .int .u8 s1, .int .i64 sh, .bool wrap, .bool org, .bool shown, .bool keys, .bool pad, .int .i64 sr, .int .i64 sc, .int .i64 q0, .int .i64 q1, .int .i64 q2, .int .u8 t0, .int .u8 t1, .int .i64 th, .bool so] 32)).alloc (.cells #[.int .i64 R, .int .i64 K, .slice A' m c', .int .i64 row, .int .i64 col, .bool pend, .int .i64 top, .int .i64 bot, .int .i64 p0, .int .i64 p1, .int .i64 p2, .int .u64 tabs, .int .u8 s0, .int .u8 s1, .int .i64 sh, .bool wrap, .bool org, .bool shown, .bool keys, .bool pad, .int .i64 sr, .int .i64 sc, .int .i64 q0, .int .i64 q1, .int .i64 q2, .int .u8 t0, .int .u8 t1, .int .i64 th, .bool so] 32)) := ((Below.refl _ _).alloc (Nat.le_refl _) _).alloc (by simp) _
  have x1' := hide (x1.out.alloc (.cells #[.int .i64 R, .int .i64 K, .slice A' m c', .int .i64 row, .int .i64 col, .bool pend, .int .i64 top, .int .i64 bot, .int .i64 p0, .int .i64 p1, .int .i64 p2, .int .u64 tabs, .int .u8 s0, .int .u8 s1, .int .i64 sh, .bool wrap, .bool org, .bool shown, .bool keys, .bool pad, .int .i64 sr, .int .i64 sc, .int .i64 q0, .int .i64 q1, .int .i64 q2, .int .u8 t0, .int .u8 t1, .int .i64 th, .bool so] 32))
  go_enter Tryd.func15, Tryd.ntmps15
  go_wp2_with fail
  refine (SC.out _ b0).mono ?_
  rintro e w1 ⟨rfl, q, rfl⟩
  have b1 := hide (below_drewN b0 q)
  clear SC b0 x1 x2 x1'
  go_wp2_with fail
  go_ret
  exact ⟨rfl, b1.out⟩
end Go.Proofs.YtdcdinlppjlmfaaDoor
set_option maxRecDepth 100000
namespace Go.Proofs.YtdcdinlppjlmfaaDoor
open Go.RowKit
set_option linter.unusedVariables false
/-- a load of a whole screen, wherever it comes up -/
theorem exec_load_any {w : World} {g : Nat} {cs : Array Value} (h : Box w g 32 cs) (hs : cs.size = 29) (ρ : Operand → Value) (o : Oper) {y : Operand} (ho : o.op = .load 32 y) (hy : ρ y = .pointer (some ⟨g, 0, none⟩)) :
    (execOp ρ o).run Tryd.prog w = .ok (.value (.agg cs)) w := by
  obtain ⟨d, hu, hd⟩ := row_screen
  have e : (.agg cs : Value) = .agg cs.toList.toArray := by simp
  unfold execOp
  simp only [ho, hy, Instr.loadAt, Instr.sureAddr, Sem.run_bind, Sem.run_pure, Result.andThen_ok, run_loadVar_mid w g 0 32 cs.toList d h.rangeAt hu hd (by rw [size_screen]; simp [hs])]
/-- a screen that a call gave -/
def ScrV (S : SN.Sc) (v : Value) (w : World) : Prop := ∃ A c, v = .agg (scA (.slice A (S.g.rows * S.g.cols) c) S) ∧ IsG w S.g (gv S.g.rows S.g.cols (.slice A (S.g.rows * S.g.cols) c))
theorem ScrV.stays {Ts : List TypeId} {S : SN.Sc} (h : Ts.all (fun x => x != 58) = true) : StaysG Ts (ScrV S) :=
  ⟨fun v w w' ⟨A, c, h1, h2⟩ hb => ⟨A, c, h1, h2.low hb⟩, fun v w w' g' T' cs' ⟨A, c, h1, h2⟩ hb hT hk => ⟨A, c, h1, h2.kept hb (fun e => by
    have := List.all_eq_true.1 h _ hT
    simp [e] at this) hk⟩⟩
theorem scrV_of {S : SN.Sc} {v : Value} {w : World} (h : IsS w S v) : ScrV S v w := by
  obtain ⟨x, rfl, hg⟩ := h
  obtain ⟨A, c, rfl⟩ := gv_slice hg
  exact ⟨A, c, rfl, hg⟩
theorem screens_is (S : SN.Sc) (A A' : Option Addr) (c c' : Nat) (w : World) (hn : S.g.rows * S.g.cols ≤ 1099511627776) (h : IsG w S.g (gv S.g.rows S.g.cols (.slice A (S.g.rows * S.g.cols) c))) (h' : IsG w S.g (gv S.g.rows S.g.cols (.slice A' (S.g.rows * S.g.cols) c'))) :
    Calls Tryd.prog 15 #[.agg (scA (.slice A (S.g.rows * S.g.cols) c) S), .agg (scA (.slice A' (S.g.rows * S.g.cols) c') S)] w fun e w' => e = .returned (.bool true) ∧ Below w.heap.size w w' :=
  screens_go S.g.rows S.g.cols _ c _ c' S.row S.col S.top S.bot S.tabs S.sv.row S.sv.col w.heap.size w.heap.size S.pen.1 S.pen.2.1 S.pen.2.2 S.s0 S.s1 S.sh S.sv.pen.1 S.sv.pen.2.1 S.sv.pen.2.2 S.sv.s0 S.sv.s1 S.sv.sh S.pend S.wrap S.org S.shown S.keys S.pad S.sv.org (PG.cells S.g) A A' w (isg_seen h).1 (isg_seen h').1 (Nat.le_refl _) (Nat.le_refl _) hn
end Go.Proofs.YtdcdinlppjlmfaaDoor
