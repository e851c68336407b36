/- A screen's 29 cells as an array that no walk opens; a box that holds one: its cells, its fields written. (written by tools/genscreenval.py) Operations on screens with the world behind a variable: a parameter boxed, a result's box made; min and max by their names. Screens in memory: by value, as calls give them. The document's own at. Screens whose numbers may be any: which are right, the same, look the same. Sizes as they are cut. A box that holds a screen of any numbers: its cells; boxed, loaded whole. (written by tools/genscreenrawbox.py) Screens that differ from a right one in one thing: neither right nor the same. -/
import Derived.Test.YtdcdinlppjlmfaaDoorCellSpec
import Derived.Test.YtdcdinlppjlmfaaDoorKept
import Derived.Test.YtdcdinlppjlmfaaDoorGridRefNew
import Derived.Test.YtdcdinlppjlmfaaDoorGridUse
import Derived.Deep.DeepCutAuto
set_option maxRecDepth 100000
namespace Go.Proofs.YtdcdinlppjlmfaaDoor
open Go.RowKit
set_option linter.unusedVariables false
namespace SN.Sc
def u3 (s : SN.Sc) (v : Nat) : SN.Sc := { s with row := v }
def u4 (s : SN.Sc) (v : Nat) : SN.Sc := { s with col := v }
def u5 (s : SN.Sc) (v : Bool) : SN.Sc := { s with pend := v }
def u6 (s : SN.Sc) (v : Nat) : SN.Sc := { s with top := v }
def u7 (s : SN.Sc) (v : Nat) : SN.Sc := { s with bot := v }
def u8 (s : SN.Sc) (v : Int) : SN.Sc := { s with pen := (v, s.pen.2.1, s.pen.2.2) }
def u9 (s : SN.Sc) (v : Int) : SN.Sc := { s with pen := (s.pen.1, v, s.pen.2.2) }
def u10 (s : SN.Sc) (v : Int) : SN.Sc := { s with pen := (s.pen.1, s.pen.2.1, v) }
def u11 (s : SN.Sc) (v : Nat) : SN.Sc := { s with tabs := v }
def u12 (s : SN.Sc) (v : Int) : SN.Sc := { s with s0 := v }
def u13 (s : SN.Sc) (v : Int) : SN.Sc := { s with s1 := v }
def u14 (s : SN.Sc) (v : Int) : SN.Sc := { s with sh := v }
def u15 (s : SN.Sc) (v : Bool) : SN.Sc := { s with wrap := v }
def u16 (s : SN.Sc) (v : Bool) : SN.Sc := { s with org := v }
def u17 (s : SN.Sc) (v : Bool) : SN.Sc := { s with shown := v }
def u18 (s : SN.Sc) (v : Bool) : SN.Sc := { s with keys := v }
def u19 (s : SN.Sc) (v : Bool) : SN.Sc := { s with pad := v }
def u20 (s : SN.Sc) (v : Nat) : SN.Sc := { s with sv := { s.sv with row := v } }
def u21 (s : SN.Sc) (v : Nat) : SN.Sc := { s with sv := { s.sv with col := v } }
def u22 (s : SN.Sc) (v : Int) : SN.Sc := { s with sv := { s.sv with pen := (v, s.sv.pen.2.1, s.sv.pen.2.2) } }
def u23 (s : SN.Sc) (v : Int) : SN.Sc := { s with sv := { s.sv with pen := (s.sv.pen.1, v, s.sv.pen.2.2) } }
def u24 (s : SN.Sc) (v : Int) : SN.Sc := { s with sv := { s.sv with pen := (s.sv.pen.1, s.sv.pen.2.1, v) } }
def u25 (s : SN.Sc) (v : Int) : SN.Sc := { s with sv := { s.sv with s0 := v } }
def u26 (s : SN.Sc) (v : Int) : SN.Sc := { s with sv := { s.sv with s1 := v } }
def u27 (s : SN.Sc) (v : Int) : SN.Sc := { s with sv := { s.sv with sh := v } }
def u28 (s : SN.Sc) (v : Bool) : SN.Sc := { s with sv := { s.sv with org := v } }
def uG (s : SN.Sc) (v : PG.Gr) : SN.Sc := { s with g := v }
def uP (s : SN.Sc) (v : PG.Pn) : SN.Sc := { s with pen := v }
def uS (s : SN.Sc) (a b : Int) : SN.Sc := { s with s0 := a, s1 := b }
def uV (s : SN.Sc) (v : SN.Sv) : SN.Sc := { s with sv := v }
end SN.Sc
/-- a screen's cells; x: its grid's slice -/
def scA (x : Value) (s : SN.Sc) : Array Value := #[.int .i64 s.g.rows, .int .i64 s.g.cols, x, .int .i64 s.row, .int .i64 s.col, .bool s.pend, .int .i64 s.top, .int .i64 s.bot, .int .i64 s.pen.1, .int .i64 s.pen.2.1, .int .i64 s.pen.2.2, .int .u64 s.tabs, .int .u8 s.s0, .int .u8 s.s1, .int .i64 s.sh, .bool s.wrap, .bool s.org, .bool s.shown, .bool s.keys, .bool s.pad, .int .i64 s.sv.row, .int .i64 s.sv.col, .int .i64 s.sv.pen.1, .int .i64 s.sv.pen.2.1, .int .i64 s.sv.pen.2.2, .int .u8 s.sv.s0, .int .u8 s.sv.s1, .int .i64 s.sv.sh, .bool s.sv.org]
theorem scA_size (x : Value) (s : SN.Sc) : (scA x s).size = 29 := rfl
theorem scA_one {x : Value} (hx : x.oneCell' = true) (s : SN.Sc) : (scA x s).all (·.oneCell') = true := by
  cases x <;> first | (simp [scA, Value.oneCell']; done) | (simp [Value.oneCell'] at hx)

theorem scA_at0 (x : Value) (s : SN.Sc) : (scA x s)[0]? = some (.int .i64 s.g.rows) := rfl
theorem scA_at1 (x : Value) (s : SN.Sc) : (scA x s)[1]? = some (.int .i64 s.g.cols) := rfl
theorem scA_at2 (x : Value) (s : SN.Sc) : (scA x s)[2]? = some (x) := rfl
theorem scA_at3 (x : Value) (s : SN.Sc) : (scA x s)[3]? = some (.int .i64 s.row) := rfl
theorem scA_at4 (x : Value) (s : SN.Sc) : (scA x s)[4]? = some (.int .i64 s.col) := rfl
theorem scA_at5 (x : Value) (s : SN.Sc) : (scA x s)[5]? = some (.bool s.pend) := rfl
theorem scA_at6 (x : Value) (s : SN.Sc) : (scA x s)[6]? = some (.int .i64 s.top) := rfl
theorem scA_at7 (x : Value) (s : SN.Sc) : (scA x s)[7]? = some (.int .i64 s.bot) := rfl
theorem scA_at8 (x : Value) (s : SN.Sc) : (scA x s)[8]? = some (.int .i64 s.pen.1) := rfl
theorem scA_at9 (x : Value) (s : SN.Sc) : (scA x s)[9]? = some (.int .i64 s.pen.2.1) := rfl
theorem scA_at10 (x : Value) (s : SN.Sc) : (scA x s)[10]? = some (.int .i64 s.pen.2.2) := rfl
theorem scA_at11 (x : Value) (s : SN.Sc) : (scA x s)[11]? = some (.int .u64 s.tabs) := rfl
theorem scA_at12 (x : Value) (s : SN.Sc) : (scA x s)[12]? = some (.int .u8 s.s0) := rfl
theorem scA_at13 (x : Value) (s : SN.Sc) : (scA x s)[13]? = some (.int .u8 s.s1) := rfl
theorem scA_at14 (x : Value) (s : SN.Sc) : (scA x s)[14]? = some (.int .i64 s.sh) := rfl
theorem scA_at15 (x : Value) (s : SN.Sc) : (scA x s)[15]? = some (.bool s.wrap) := rfl
theorem scA_at16 (x : Value) (s : SN.Sc) : (scA x s)[16]? = some (.bool s.org) := rfl
theorem scA_at17 (x : Value) (s : SN.Sc) : (scA x s)[17]? = some (.bool s.shown) := rfl
theorem scA_at18 (x : Value) (s : SN.Sc) : (scA x s)[18]? = some (.bool s.keys) := rfl
theorem scA_at19 (x : Value) (s : SN.Sc) : (scA x s)[19]? = some (.bool s.pad) := rfl
theorem scA_at20 (x : Value) (s : SN.Sc) : (scA x s)[20]? = some (.int .i64 s.sv.row) := rfl
theorem scA_at21 (x : Value) (s : SN.Sc) : (scA x s)[21]? = some (.int .i64 s.sv.col) := rfl
theorem scA_at22 (x : Value) (s : SN.Sc) : (scA x s)[22]? = some (.int .i64 s.sv.pen.1) := rfl
theorem scA_at23 (x : Value) (s : SN.Sc) : (scA x s)[23]? = some (.int .i64 s.sv.pen.2.1) := rfl
theorem scA_at24 (x : Value) (s : SN.Sc) : (scA x s)[24]? = some (.int .i64 s.sv.pen.2.2) := rfl
theorem scA_at25 (x : Value) (s : SN.Sc) : (scA x s)[25]? = some (.int .u8 s.sv.s0) := rfl
theorem scA_at26 (x : Value) (s : SN.Sc) : (scA x s)[26]? = some (.int .u8 s.sv.s1) := rfl
theorem scA_at27 (x : Value) (s : SN.Sc) : (scA x s)[27]? = some (.int .i64 s.sv.sh) := rfl
theorem scA_at28 (x : Value) (s : SN.Sc) : (scA x s)[28]? = some (.bool s.sv.org) := rfl
theorem scA_set3 (x : Value) (s : SN.Sc) (v : Nat) : (scA x s).setIfInBounds 3 (.int .i64 (v : Nat)) = scA x (s.u3 v) := rfl
theorem scA_set4 (x : Value) (s : SN.Sc) (v : Nat) : (scA x s).setIfInBounds 4 (.int .i64 (v : Nat)) = scA x (s.u4 v) := rfl
theorem scA_set5 (x : Value) (s : SN.Sc) (v : Bool) : (scA x s).setIfInBounds 5 (.bool v) = scA x (s.u5 v) := rfl
theorem scA_set6 (x : Value) (s : SN.Sc) (v : Nat) : (scA x s).setIfInBounds 6 (.int .i64 (v : Nat)) = scA x (s.u6 v) := rfl
theorem scA_set7 (x : Value) (s : SN.Sc) (v : Nat) : (scA x s).setIfInBounds 7 (.int .i64 (v : Nat)) = scA x (s.u7 v) := rfl
theorem scA_set8 (x : Value) (s : SN.Sc) (v : Int) : (scA x s).setIfInBounds 8 (.int .i64 (v : Int)) = scA x (s.u8 v) := rfl
theorem scA_set9 (x : Value) (s : SN.Sc) (v : Int) : (scA x s).setIfInBounds 9 (.int .i64 (v : Int)) = scA x (s.u9 v) := rfl
theorem scA_set10 (x : Value) (s : SN.Sc) (v : Int) : (scA x s).setIfInBounds 10 (.int .i64 (v : Int)) = scA x (s.u10 v) := rfl
theorem scA_set11 (x : Value) (s : SN.Sc) (v : Nat) : (scA x s).setIfInBounds 11 (.int .u64 (v : Nat)) = scA x (s.u11 v) := rfl
theorem scA_set12 (x : Value) (s : SN.Sc) (v : Int) : (scA x s).setIfInBounds 12 (.int .u8 (v : Int)) = scA x (s.u12 v) := rfl
theorem scA_set13 (x : Value) (s : SN.Sc) (v : Int) : (scA x s).setIfInBounds 13 (.int .u8 (v : Int)) = scA x (s.u13 v) := rfl
theorem scA_set14 (x : Value) (s : SN.Sc) (v : Int) : (scA x s).setIfInBounds 14 (.int .i64 (v : Int)) = scA x (s.u14 v) := rfl
theorem scA_set15 (x : Value) (s : SN.Sc) (v : Bool) : (scA x s).setIfInBounds 15 (.bool v) = scA x (s.u15 v) := rfl
theorem scA_set16 (x : Value) (s : SN.Sc) (v : Bool) : (scA x s).setIfInBounds 16 (.bool v) = scA x (s.u16 v) := rfl
theorem scA_set17 (x : Value) (s : SN.Sc) (v : Bool) : (scA x s).setIfInBounds 17 (.bool v) = scA x (s.u17 v) := rfl
theorem scA_set18 (x : Value) (s : SN.Sc) (v : Bool) : (scA x s).setIfInBounds 18 (.bool v) = scA x (s.u18 v) := rfl
theorem scA_set19 (x : Value) (s : SN.Sc) (v : Bool) : (scA x s).setIfInBounds 19 (.bool v) = scA x (s.u19 v) := rfl
theorem scA_set20 (x : Value) (s : SN.Sc) (v : Nat) : (scA x s).setIfInBounds 20 (.int .i64 (v : Nat)) = scA x (s.u20 v) := rfl
theorem scA_set21 (x : Value) (s : SN.Sc) (v : Nat) : (scA x s).setIfInBounds 21 (.int .i64 (v : Nat)) = scA x (s.u21 v) := rfl
theorem scA_set22 (x : Value) (s : SN.Sc) (v : Int) : (scA x s).setIfInBounds 22 (.int .i64 (v : Int)) = scA x (s.u22 v) := rfl
theorem scA_set23 (x : Value) (s : SN.Sc) (v : Int) : (scA x s).setIfInBounds 23 (.int .i64 (v : Int)) = scA x (s.u23 v) := rfl
theorem scA_set24 (x : Value) (s : SN.Sc) (v : Int) : (scA x s).setIfInBounds 24 (.int .i64 (v : Int)) = scA x (s.u24 v) := rfl
theorem scA_set25 (x : Value) (s : SN.Sc) (v : Int) : (scA x s).setIfInBounds 25 (.int .u8 (v : Int)) = scA x (s.u25 v) := rfl
theorem scA_set26 (x : Value) (s : SN.Sc) (v : Int) : (scA x s).setIfInBounds 26 (.int .u8 (v : Int)) = scA x (s.u26 v) := rfl
theorem scA_set27 (x : Value) (s : SN.Sc) (v : Int) : (scA x s).setIfInBounds 27 (.int .i64 (v : Int)) = scA x (s.u27 v) := rfl
theorem scA_set28 (x : Value) (s : SN.Sc) (v : Bool) : (scA x s).setIfInBounds 28 (.bool v) = scA x (s.u28 v) := rfl
theorem scA_setG (x y : Value) (s : SN.Sc) (g : PG.Gr) : setA (scA x s) 0 [.int .i64 g.rows, .int .i64 g.cols, y] = scA y (s.uG g) := rfl
theorem scA_setP (x : Value) (s : SN.Sc) (p : PG.Pn) : setA (scA x s) 8 [.int .i64 p.1, .int .i64 p.2.1, .int .i64 p.2.2] = scA x (s.uP p) := rfl
theorem scA_setS (x : Value) (s : SN.Sc) (a b : Int) : setA (scA x s) 12 [.int .u8 a, .int .u8 b] = scA x (s.uS a b) := rfl
theorem scA_setV (x : Value) (s : SN.Sc) (v : SN.Sv) : setA (scA x s) 20 [.int .i64 v.row, .int .i64 v.col, .int .i64 v.pen.1, .int .i64 v.pen.2.1, .int .i64 v.pen.2.2, .int .u8 v.s0, .int .u8 v.s1, .int .i64 v.sh, .bool v.org] = scA x (s.uV v) := by
  simp only [setA]
  rw [scA_set20, scA_set21, scA_set22, scA_set23, scA_set24, scA_set25, scA_set26, scA_set27, scA_set28]
  simp only [SN.Sc.u20, SN.Sc.u21, SN.Sc.u22, SN.Sc.u23, SN.Sc.u24, SN.Sc.u25, SN.Sc.u26, SN.Sc.u27, SN.Sc.u28, SN.Sc.uV]
/-- a box that holds a screen -/
def SBox (w : World) (g : Nat) (x : Value) (s : SN.Sc) : Prop := Box w g 32 (scA x s)
section
variable {w : World} {g : Nat} {x : Value} {s : SN.Sc}
theorem SBox.c0 (h : SBox w g x s) : w.cell? ⟨g, 0, none⟩ = some (.int .i64 s.g.rows) := Box.cell h 0
theorem SBox.c1 (h : SBox w g x s) : w.cell? ⟨g, 1, none⟩ = some (.int .i64 s.g.cols) := Box.cell h 1
theorem SBox.c2 (h : SBox w g x s) : w.cell? ⟨g, 2, none⟩ = some (x) := Box.cell h 2
theorem SBox.c3 (h : SBox w g x s) : w.cell? ⟨g, 3, none⟩ = some (.int .i64 s.row) := Box.cell h 3
theorem SBox.c4 (h : SBox w g x s) : w.cell? ⟨g, 4, none⟩ = some (.int .i64 s.col) := Box.cell h 4
theorem SBox.c5 (h : SBox w g x s) : w.cell? ⟨g, 5, none⟩ = some (.bool s.pend) := Box.cell h 5
theorem SBox.c6 (h : SBox w g x s) : w.cell? ⟨g, 6, none⟩ = some (.int .i64 s.top) := Box.cell h 6
theorem SBox.c7 (h : SBox w g x s) : w.cell? ⟨g, 7, none⟩ = some (.int .i64 s.bot) := Box.cell h 7
theorem SBox.c8 (h : SBox w g x s) : w.cell? ⟨g, 8, none⟩ = some (.int .i64 s.pen.1) := Box.cell h 8
theorem SBox.c9 (h : SBox w g x s) : w.cell? ⟨g, 9, none⟩ = some (.int .i64 s.pen.2.1) := Box.cell h 9
theorem SBox.c10 (h : SBox w g x s) : w.cell? ⟨g, 10, none⟩ = some (.int .i64 s.pen.2.2) := Box.cell h 10
theorem SBox.c11 (h : SBox w g x s) : w.cell? ⟨g, 11, none⟩ = some (.int .u64 s.tabs) := Box.cell h 11
theorem SBox.c12 (h : SBox w g x s) : w.cell? ⟨g, 12, none⟩ = some (.int .u8 s.s0) := Box.cell h 12
theorem SBox.c13 (h : SBox w g x s) : w.cell? ⟨g, 13, none⟩ = some (.int .u8 s.s1) := Box.cell h 13
theorem SBox.c14 (h : SBox w g x s) : w.cell? ⟨g, 14, none⟩ = some (.int .i64 s.sh) := Box.cell h 14
theorem SBox.c15 (h : SBox w g x s) : w.cell? ⟨g, 15, none⟩ = some (.bool s.wrap) := Box.cell h 15
theorem SBox.c16 (h : SBox w g x s) : w.cell? ⟨g, 16, none⟩ = some (.bool s.org) := Box.cell h 16
theorem SBox.c17 (h : SBox w g x s) : w.cell? ⟨g, 17, none⟩ = some (.bool s.shown) := Box.cell h 17
theorem SBox.c18 (h : SBox w g x s) : w.cell? ⟨g, 18, none⟩ = some (.bool s.keys) := Box.cell h 18
theorem SBox.c19 (h : SBox w g x s) : w.cell? ⟨g, 19, none⟩ = some (.bool s.pad) := Box.cell h 19
theorem SBox.c20 (h : SBox w g x s) : w.cell? ⟨g, 20, none⟩ = some (.int .i64 s.sv.row) := Box.cell h 20
theorem SBox.c21 (h : SBox w g x s) : w.cell? ⟨g, 21, none⟩ = some (.int .i64 s.sv.col) := Box.cell h 21
theorem SBox.c22 (h : SBox w g x s) : w.cell? ⟨g, 22, none⟩ = some (.int .i64 s.sv.pen.1) := Box.cell h 22
theorem SBox.c23 (h : SBox w g x s) : w.cell? ⟨g, 23, none⟩ = some (.int .i64 s.sv.pen.2.1) := Box.cell h 23
theorem SBox.c24 (h : SBox w g x s) : w.cell? ⟨g, 24, none⟩ = some (.int .i64 s.sv.pen.2.2) := Box.cell h 24
theorem SBox.c25 (h : SBox w g x s) : w.cell? ⟨g, 25, none⟩ = some (.int .u8 s.sv.s0) := Box.cell h 25
theorem SBox.c26 (h : SBox w g x s) : w.cell? ⟨g, 26, none⟩ = some (.int .u8 s.sv.s1) := Box.cell h 26
theorem SBox.c27 (h : SBox w g x s) : w.cell? ⟨g, 27, none⟩ = some (.int .i64 s.sv.sh) := Box.cell h 27
theorem SBox.c28 (h : SBox w g x s) : w.cell? ⟨g, 28, none⟩ = some (.bool s.sv.org) := Box.cell h 28
theorem SBox.fz (h : SBox w g x s) (i : Nat) : w.frozen? ⟨g, i, none⟩ = false := Box.frozen h i
theorem SBox.lt (h : SBox w g x s) : g < w.heap.size := Box.lt h
theorem SBox.set3 (h : SBox w g x s) (v : Nat) : SBox (w.setCell ⟨g, 3, none⟩ (.int .i64 (v : Nat))) g x (s.u3 v) := Box.set h 3 _
theorem SBox.set4 (h : SBox w g x s) (v : Nat) : SBox (w.setCell ⟨g, 4, none⟩ (.int .i64 (v : Nat))) g x (s.u4 v) := Box.set h 4 _
theorem SBox.set5 (h : SBox w g x s) (v : Bool) : SBox (w.setCell ⟨g, 5, none⟩ (.bool v)) g x (s.u5 v) := Box.set h 5 _
theorem SBox.set6 (h : SBox w g x s) (v : Nat) : SBox (w.setCell ⟨g, 6, none⟩ (.int .i64 (v : Nat))) g x (s.u6 v) := Box.set h 6 _
theorem SBox.set7 (h : SBox w g x s) (v : Nat) : SBox (w.setCell ⟨g, 7, none⟩ (.int .i64 (v : Nat))) g x (s.u7 v) := Box.set h 7 _
theorem SBox.set8 (h : SBox w g x s) (v : Int) : SBox (w.setCell ⟨g, 8, none⟩ (.int .i64 (v : Int))) g x (s.u8 v) := Box.set h 8 _
theorem SBox.set9 (h : SBox w g x s) (v : Int) : SBox (w.setCell ⟨g, 9, none⟩ (.int .i64 (v : Int))) g x (s.u9 v) := Box.set h 9 _
theorem SBox.set10 (h : SBox w g x s) (v : Int) : SBox (w.setCell ⟨g, 10, none⟩ (.int .i64 (v : Int))) g x (s.u10 v) := Box.set h 10 _
theorem SBox.set11 (h : SBox w g x s) (v : Nat) : SBox (w.setCell ⟨g, 11, none⟩ (.int .u64 (v : Nat))) g x (s.u11 v) := Box.set h 11 _
theorem SBox.set12 (h : SBox w g x s) (v : Int) : SBox (w.setCell ⟨g, 12, none⟩ (.int .u8 (v : Int))) g x (s.u12 v) := Box.set h 12 _
theorem SBox.set13 (h : SBox w g x s) (v : Int) : SBox (w.setCell ⟨g, 13, none⟩ (.int .u8 (v : Int))) g x (s.u13 v) := Box.set h 13 _
theorem SBox.set14 (h : SBox w g x s) (v : Int) : SBox (w.setCell ⟨g, 14, none⟩ (.int .i64 (v : Int))) g x (s.u14 v) := Box.set h 14 _
theorem SBox.set15 (h : SBox w g x s) (v : Bool) : SBox (w.setCell ⟨g, 15, none⟩ (.bool v)) g x (s.u15 v) := Box.set h 15 _
theorem SBox.set16 (h : SBox w g x s) (v : Bool) : SBox (w.setCell ⟨g, 16, none⟩ (.bool v)) g x (s.u16 v) := Box.set h 16 _
theorem SBox.set17 (h : SBox w g x s) (v : Bool) : SBox (w.setCell ⟨g, 17, none⟩ (.bool v)) g x (s.u17 v) := Box.set h 17 _
theorem SBox.set18 (h : SBox w g x s) (v : Bool) : SBox (w.setCell ⟨g, 18, none⟩ (.bool v)) g x (s.u18 v) := Box.set h 18 _
theorem SBox.set19 (h : SBox w g x s) (v : Bool) : SBox (w.setCell ⟨g, 19, none⟩ (.bool v)) g x (s.u19 v) := Box.set h 19 _
theorem SBox.set20 (h : SBox w g x s) (v : Nat) : SBox (w.setCell ⟨g, 20, none⟩ (.int .i64 (v : Nat))) g x (s.u20 v) := Box.set h 20 _
theorem SBox.set21 (h : SBox w g x s) (v : Nat) : SBox (w.setCell ⟨g, 21, none⟩ (.int .i64 (v : Nat))) g x (s.u21 v) := Box.set h 21 _
theorem SBox.set22 (h : SBox w g x s) (v : Int) : SBox (w.setCell ⟨g, 22, none⟩ (.int .i64 (v : Int))) g x (s.u22 v) := Box.set h 22 _
theorem SBox.set23 (h : SBox w g x s) (v : Int) : SBox (w.setCell ⟨g, 23, none⟩ (.int .i64 (v : Int))) g x (s.u23 v) := Box.set h 23 _
theorem SBox.set24 (h : SBox w g x s) (v : Int) : SBox (w.setCell ⟨g, 24, none⟩ (.int .i64 (v : Int))) g x (s.u24 v) := Box.set h 24 _
theorem SBox.set25 (h : SBox w g x s) (v : Int) : SBox (w.setCell ⟨g, 25, none⟩ (.int .u8 (v : Int))) g x (s.u25 v) := Box.set h 25 _
theorem SBox.set26 (h : SBox w g x s) (v : Int) : SBox (w.setCell ⟨g, 26, none⟩ (.int .u8 (v : Int))) g x (s.u26 v) := Box.set h 26 _
theorem SBox.set27 (h : SBox w g x s) (v : Int) : SBox (w.setCell ⟨g, 27, none⟩ (.int .i64 (v : Int))) g x (s.u27 v) := Box.set h 27 _
theorem SBox.set28 (h : SBox w g x s) (v : Bool) : SBox (w.setCell ⟨g, 28, none⟩ (.bool v)) g x (s.u28 v) := Box.set h 28 _
theorem SBox.setG (h : SBox w g x s) (G : PG.Gr) (y : Value) : SBox (((w.setCell ⟨g, 0, none⟩ (.int .i64 G.rows)).setCell ⟨g, 1, none⟩ (.int .i64 G.cols)).setCell ⟨g, 2, none⟩ y) g y (s.uG G) := ((Box.set h 0 _).set 1 _).set 2 _
theorem SBox.setP (h : SBox w g x s) (p : PG.Pn) : SBox (((w.setCell ⟨g, 8, none⟩ (.int .i64 p.1)).setCell ⟨g, 9, none⟩ (.int .i64 p.2.1)).setCell ⟨g, 10, none⟩ (.int .i64 p.2.2)) g x (s.uP p) := ((Box.set h 8 _).set 9 _).set 10 _
theorem SBox.setS (h : SBox w g x s) (a b : Int) : SBox ((w.setCell ⟨g, 12, none⟩ (.int .u8 a)).setCell ⟨g, 13, none⟩ (.int .u8 b)) g x (s.uS a b) := (Box.set h 12 _).set 13 _
theorem IsG.put {G : PG.Gr} {v : Value} {T : TypeId} {cs : Array Value} (h : IsG w G v) (hb : Box w g T cs) (hT : T ≠ 58) (i : Nat) (u : Value) : IsG (w.setCell ⟨g, i, none⟩ u) G v := h.kept hb hT ((Kept.refl [some g] w).setCell (p := ⟨g, i, none⟩) (From.mem (by simp)) u)
theorem IsG.puts {G : PG.Gr} {v : Value} (h : IsG w G v) (hb : SBox w g x s) (i : Nat) (u : Value) : IsG (w.setCell ⟨g, i, none⟩ u) G v := h.put hb (by decide) i u
theorem SBox.kept {L : List (Option Nat)} {w' : World} (h : SBox w g x s) (k : Kept L w w') (hg : some g ∉ L) : SBox w' g x s := Box.kept h k hg
theorem SBox.below {B : Nat} {w' : World} (h : SBox w g x s) (hb : Below B w w') (hg : g < B) : SBox w' g x s := Box.below h hb hg
theorem SBox.far (h : SBox w g x s) {p : Addr} (hp : g ≠ p.block) (u : Value) : SBox (w.setCell p u) g x s := Box.far h hp u
theorem SBox.alloc (h : SBox w g x s) (o : Obj) : SBox (w.alloc o) g x s := Box.alloc h o
theorem SBox.drewN (h : SBox w g x s) (k : Nat) : SBox (w.drewN k) g x s := h
theorem size_screen : (Tryd.prog.info? 32).map (·.size) = some 29 := by kernel_rfl
theorem row_screen : ∃ d, Tryd.prog.underlying 32 = some d ∧ d.isRow = true := ⟨_, Tryd.underlying32, rfl⟩
/-- a whole screen loaded -/
theorem wpList_load_scr {ops : Array Oper} {rest : List Oper} {op : Oper} {a : Act} {Q : Exit → Act → World → Prop} (h : SBox w g x s) (hgd : op.guard = none) (y : Operand) (ho : op.op = .load 32 y)
    (hx : a.eval y = .pointer (some ⟨g, 0, none⟩)) (hk : wpList Tryd.prog ops Q rest (a.put op.dst (.agg (scA x s))) w) : wpList Tryd.prog ops Q (op :: rest) a w := by
  obtain ⟨d, hu, hd⟩ := row_screen
  exact wpList_load_box h hgd _ y ho hx d hu hd size_screen hk
/-- .. behind a guard that says yes -/
theorem wpList_load_scrG {ops : Array Oper} {rest : List Oper} {op : Oper} {a : Act} {Q : Exit → Act → World → Prop} (h : SBox w g x s) (y : Operand) (ho : op.op = .load 32 y) (hw : Region.wanted op (yielded ops a.tmps) = true)
    (hx : a.eval y = .pointer (some ⟨g, 0, none⟩)) (hk : wpList Tryd.prog ops Q rest (a.put op.dst (.agg (scA x s))) w) : wpList Tryd.prog ops Q (op :: rest) a w := by
  obtain ⟨d, hu, hd⟩ := row_screen
  refine wpList_step fun K hK => ?_
  rw [if_pos hw]
  have e : (.agg (scA x s) : Value) = .agg (scA x s).toList.toArray := by simp
  exact wp_load_mid _ y ho g 0 hx (scA x s).toList d (Box.rangeAt h) hu hd size_screen (by rw [← e]; exact hK _ _ hk)
/-- a whole screen stored: into any box of its size -/
theorem wpList_store_scr {ops : Array Oper} {rest : List Oper} {op : Oper} {a : Act} {Q : Exit → Act → World → Prop} {cs : Array Value} (h : Box w g 32 cs) (hs : cs.size = 29) (hgd : op.guard = none) (y z : Operand) (ho : op.op = .store 32 y z)
    (hx : a.eval y = .pointer (some ⟨g, 0, none⟩)) (hy : a.eval z = .agg (scA x s)) (h1 : x.oneCell' = true)
    (hk : ∀ w', SBox w' g x s → Kept [some g] w w' → w'.heap.size = w.heap.size → wpList Tryd.prog ops Q rest (a.put op.dst undef) w') : wpList Tryd.prog ops Q (op :: rest) a w :=
  wpList_store_box h (hs.trans (scA_size x s).symm) hgd _ y z ho hx hy size_screen (scA_one h1 s) hk
theorem results_scr {fn : Func} {t : Tmp} (h : fn.results = #[.cell t 32]) {tmps : Array Value} (ht : tmps.getD t undef = .pointer (some ⟨g, 0, none⟩)) (hb : SBox w g x s) : (results fn tmps).run Tryd.prog w = .ok (.agg (scA x s)) w := by
  obtain ⟨d, hu, hd⟩ := row_screen
  have hl := run_loadVar_mid (P := Tryd.prog) w g 0 32 (scA x s).toList d (Box.rangeAt hb) hu hd size_screen
  have ht' : tmps[t]?.getD undef = .pointer (some ⟨g, 0, none⟩) := by simpa using ht
  simp [results, h, ht', asAddr, hl]
end
end Go.Proofs.YtdcdinlppjlmfaaDoor
set_option maxRecDepth 100000
namespace Go.Proofs.YtdcdinlppjlmfaaDoor
open Go Go.RowKit
set_option linter.unusedVariables false
section
variable {P : Program} {ops : Array Oper} {rest : List Oper} {o : Oper} {a : Act} {w : World} {Q : Exit → Act → World → Prop}
theorem wpList_max2 (hgd : o.guard = none) (x y : Operand) (t : TypeId) (ho : o.op = .call { callee := .builtin .max, args := #[x, y], argTypes := #[t, t] }) (k : IntKind) (p q : Int) (hx : a.eval x = .int k p) (hy : a.eval y = .int k q)
    (hk : wpList P ops Q rest (a.put o.dst (.int k (max p q))) w) : wpList P ops Q (o :: rest) a w := by
  refine wpList_plain hgd fun K hK => ?_
  obtain ⟨dst, op, type, pos, after, guard⟩ := o
  simp only at ho hgd
  subst ho hgd
  unfold Oper.wp
  rw [BigFrame.execOp_builtin, BigFrame.builtin_max]
  have e : (if q > p then q else p) = max p q := by
    split <;> omega
  simp only [List.map_toArray, List.map_cons, List.map_nil, hx, hy, Sem.run_bind, run_max_int2, Sem.run_pure, Result.andThen_ok, e]
  exact hK _ _ hk
theorem wpList_min2 (hgd : o.guard = none) (x y : Operand) (t : TypeId) (ho : o.op = .call { callee := .builtin .min, args := #[x, y], argTypes := #[t, t] }) (k : IntKind) (p q : Int) (hx : a.eval x = .int k p) (hy : a.eval y = .int k q)
    (hk : wpList P ops Q rest (a.put o.dst (.int k (min p q))) w) : wpList P ops Q (o :: rest) a w := by
  refine wpList_plain hgd fun K hK => ?_
  obtain ⟨dst, op, type, pos, after, guard⟩ := o
  simp only at ho hgd
  subst ho hgd
  unfold Oper.wp
  rw [BigFrame.execOp_builtin, BigFrame.builtin_min]
  have e : (if q < p then q else p) = min p q := by
    split <;> omega
  simp only [List.map_toArray, List.map_cons, List.map_nil, hx, hy, Sem.run_bind, run_min_int2, Sem.run_pure, Result.andThen_ok, e]
  exact hK _ _ hk
/-- a parameter boxed -/
theorem wpList_box_scr {x : Value} {s : SN.Sc} (hgd : o.guard = none) (y : Operand) (ho : o.op = .box 32 y) (hy : a.eval y = .agg (scA x s))
    (hk : ∀ g w', SBox w' g x s → Below w.heap.size w w' → w.heap.size ≤ g → wpList P ops Q rest (a.put o.dst (.pointer (some ⟨g, 0, none⟩))) w') : wpList P ops Q (o :: rest) a w := by
  refine wpList_plain hgd fun K hK => ?_
  unfold Oper.wp execOp
  simp only [ho, hy]
  have := hk w.heap.size (w.alloc (.cells (scA x s) 32)) (Box.new w _ _) ((Below.refl _ _).alloc (Nat.le_refl _) _) (Nat.le_refl _)
  go_simp
  exact hK _ _ this
/-- a box made for a screen -/
theorem wpList_alloc_scr (hgd : o.guard = none) (ho : o.op = .alloc 32)
    (hk : ∀ g w' cs, Box w' g 32 cs → cs.size = 29 → Below w.heap.size w w' → w.heap.size ≤ g → wpList Tryd.prog ops Q rest (a.put o.dst (.pointer (some ⟨g, 0, none⟩))) w') : wpList Tryd.prog ops Q (o :: rest) a w := by
  refine wpList_plain hgd fun K hK => ?_
  unfold Oper.wp execOp
  simp only [ho]
  have := fun cs hs => hk w.heap.size (w.alloc (.cells cs 32)) cs (Box.new w _ _) hs ((Below.refl _ _).alloc (Nat.le_refl _) _) (Nat.le_refl _)
  go_simp
  exact hK _ _ (this _ rfl)
/-- a box that holds the numbers of a screen -/
def KBox (w : World) (g : Nat) (cs : Array Value) : Prop := Box w g 44 cs ∧ cs.size = 13
theorem wpList_box_ks {cs : Array Value} (hsz : cs.size = 13) (hgd : o.guard = none) (y : Operand) (ho : o.op = .box 44 y) (hy : a.eval y = .agg cs)
    (hk : ∀ g w', KBox w' g cs → Below w.heap.size w w' → w.heap.size ≤ g → wpList P ops Q rest (a.put o.dst (.pointer (some ⟨g, 0, none⟩))) w') : wpList P ops Q (o :: rest) a w := by
  refine wpList_plain hgd fun K hK => ?_
  unfold Oper.wp execOp
  simp only [ho, hy]
  have := hk w.heap.size (w.alloc (.cells cs 44)) ⟨Box.new w _ _, hsz⟩ ((Below.refl _ _).alloc (Nat.le_refl _) _) (Nat.le_refl _)
  go_simp
  exact hK _ _ this
theorem size_ks : (Tryd.prog.info? 44).map (·.size) = some 13 := by kernel_rfl
theorem row_ks : ∃ d, Tryd.prog.underlying 44 = some d ∧ d.isRow = true := ⟨_, Tryd.underlying44, rfl⟩
theorem wpList_load_ks {cs : Array Value} {g : Nat} (h : KBox w g cs) (hgd : o.guard = none) (y : Operand) (ho : o.op = .load 44 y) (hx : a.eval y = .pointer (some ⟨g, 0, none⟩))
    (hk : wpList Tryd.prog ops Q rest (a.put o.dst (.agg cs)) w) : wpList Tryd.prog ops Q (o :: rest) a w := by
  obtain ⟨d, hu, hd⟩ := row_ks
  exact wpList_load_box h.1 hgd _ y ho hx d hu hd (by rw [h.2]; exact size_ks) hk
/-- any operation that ends by itself, its run told -/
theorem wpList_exec (hgd : o.guard = none) (v : Value) (h : (execOp a.eval o).run P w = .ok (.value v) w) (hk : wpList P ops Q rest (a.put o.dst v) w) : wpList P ops Q (o :: rest) a w := by
  refine wpList_plain hgd fun K hK => ?_
  unfold Oper.wp
  rw [h]
  exact hK _ _ hk
theorem size_saved : (Tryd.prog.info? 30).map (·.size) = some 9 := by kernel_rfl
/-- the saved cursor stored into a screen's box -/
theorem wpList_store_sv {x : Value} {s : SN.Sc} {g : Nat} (h : SBox w g x s) (v : SN.Sv) (hgd : o.guard = none) (y z : Operand) (ho : o.op = .store 30 y z) (hx : a.eval y = .pointer (some ⟨g, 20, none⟩))
    (hy : a.eval z = .agg #[.int .i64 v.row, .int .i64 v.col, .int .i64 v.pen.1, .int .i64 v.pen.2.1, .int .i64 v.pen.2.2, .int .u8 v.s0, .int .u8 v.s1, .int .i64 v.sh, .bool v.org])
    (hk : ∀ w', SBox w' g x (s.uV v) → Kept [some g] w w' → w'.heap.size = w.heap.size → wpList Tryd.prog ops Q rest (a.put o.dst undef) w') : wpList Tryd.prog ops Q (o :: rest) a w :=
  wpList_store_boxIn 20 h (by show 20 + 9 ≤ (scA x s).size; rw [scA_size]; decide) hgd _ y z ho hx hy size_saved (by simp [Value.oneCell']) (fun w' h1 h2 h3 => hk w' (by
    have e := scA_setV x s v
    show Box w' g _ _
    rw [← e]
    exact h1) h2 h3)
/-- a screen built of its fields -/
theorem wpList_build_scr {x : Value} {s : SN.Sc} (hgd : o.guard = none) (ps : Array (Nat × Operand)) (ho : o.op = .build 32 ps) (h : (execOp a.eval o).run Tryd.prog w = .ok (.value (.agg (scA x s))) w)
    (hk : wpList Tryd.prog ops Q rest (a.put o.dst (.agg (scA x s))) w) : wpList Tryd.prog ops Q (o :: rest) a w := by
  refine wpList_plain hgd fun K hK => ?_
  unfold Oper.wp
  rw [h]
  exact hK _ _ hk
end
end Go.Proofs.YtdcdinlppjlmfaaDoor
set_option maxRecDepth 100000
namespace Go.Proofs.YtdcdinlppjlmfaaDoor
open Go.RowKit
set_option linter.unusedVariables false
def IsS (w : World) (S : SN.Sc) (v : Value) : Prop := ∃ x, v = .agg (scA x S) ∧ IsG w S.g (gv S.g.rows S.g.cols x)
/-- a call gives such a screen back -/
def GotS (w : World) (S : SN.Sc) (e : Ending) (w' : World) : Prop := ∃ v, e = .returned v ∧ IsS w' S v ∧ Below w.heap.size w w'
theorem gv_slice {w : World} {G : PG.Gr} {x : Value} (h : IsG w G (gv G.rows G.cols x)) : ∃ A c, x = .slice A (G.rows * G.cols) c := by
  obtain ⟨A, c, e, _⟩ := h.open_
  simp only [gv, Value.agg.injEq] at e
  injection e with e
  simp only [List.cons.injEq] at e
  exact ⟨A, c, e.2.2.1⟩
theorem isg_seen {w : World} {G : PG.Gr} {A : Option Addr} {n c : Nat} (h : IsG w G (gv G.rows G.cols (.slice A n c))) : SeenC w w.heap.size A n (PG.cells G) ∧ n = G.rows * G.cols ∧ n ≤ c := by
  obtain ⟨A', c', e, hs, hc, _⟩ := h.open_
  simp only [gv, Value.agg.injEq] at e
  injection e with e
  simp only [List.cons.injEq] at e
  have e3 := e.2.2.1
  injection e3 with e4 e5 e6
  subst e4 e5 e6
  exact ⟨hs, rfl, hc⟩
end Go.Proofs.YtdcdinlppjlmfaaDoor
set_option maxRecDepth 100000
namespace Go.Proofs.YtdcdinlppjlmfaaDoor
open Go.RowKit
set_option linter.unusedVariables false
/-- the nearest place below R -/
def SN.pin (z : Int) (R : Nat) : Nat := (min (max z 0) ((R : Int) - 1)).toNat
theorem pin_if (z : Int) {R : Nat} (h : 1 ≤ R) : (if ((R : Int) - 1 < if z < 0 then 0 else z) then (R : Int) - 1 else if z < 0 then 0 else z) = (SN.pin z R : Int) := by
  unfold SN.pin
  repeat' split
  all_goals omega
/-- at: the cursor there, cut to the screen; nothing pending -/
def SN.atS (s : SN.Sc) (r c : Int) : SN.Sc := ((s.u3 (SN.pin r s.g.rows)).u4 (SN.pin c s.g.cols)).u5 false
theorem rat_is (x : Value) (s t : SN.Sc) (r c : Int) (w : World) (hx : x.oneCell' = true) (hR : 1 ≤ s.g.rows) (hR1 : s.g.rows ≤ 1000) (hK : 1 ≤ s.g.cols) (hK1 : s.g.cols ≤ 1000) (hr : -1099511627776 ≤ r ∧ r ≤ 1099511627776) (hc : -1099511627776 ≤ c ∧ c ≤ 1099511627776)
    (ht : SN.atS s r c = t) :
    Calls Tryd.prog 46 #[.agg (scA x s), .int .i64 r, .int .i64 c] w fun e w' => e = .returned (.agg (scA x t)) ∧ Below w.heap.size w w' := by
  obtain ⟨r', e1, hr'⟩ : ∃ r' : Nat, (if ((s.g.rows : Int) - 1 < if r < 0 then 0 else r) then (s.g.rows : Int) - 1 else if r < 0 then 0 else r) = (r' : Int) ∧ SN.pin r s.g.rows = r' := ⟨_, pin_if r hR, rfl⟩
  obtain ⟨c', e2, hc'⟩ : ∃ c' : Nat, (if ((s.g.cols : Int) - 1 < if c < 0 then 0 else c) then (s.g.cols : Int) - 1 else if c < 0 then 0 else c) = (c' : Int) ∧ SN.pin c s.g.cols = c' := ⟨_, pin_if c hK, rfl⟩
  unfold SN.atS at ht
  rw [hr', hc'] at ht
  have E1 := hide e1
  have E2 := hide e2
  clear e1 e2 hr' hc'
  go_enter Tryd.func46, Tryd.ntmps46
  go_upto_region 1 with (first | (refine wpList_box_scr rfl _ rfl rfl ?_; intro g w1 hB hb1 hg1) | (refine wpList_alloc_scr rfl rfl ?_; intro gR w2 csR hR hsR hb2 hgR))
  have hB2 := hB.below hb2 hB.lt
  have b2 := hb1.trans (hb2.mono hb1.size)
  have k0 := hB2.c0
  have k1 := hB2.c1
  have k3 := hB2.c3
  have k4 := hB2.c4
  have k5 := hB2.c5
  have f3 := hB2.fz 3
  have f4 := hB2.fz 4
  have f5 := hB2.fz 5
  have HB := hide (((hB2.set3 r').set4 c').set5 false)
  rw [ht] at HB
  have hne : gR ≠ g := by have := hB.lt; omega
  have HR := hide (((hR.far (p := ⟨g, 3, none⟩) hne (.int .i64 (r' : Nat))).far (p := ⟨g, 4, none⟩) hne (.int .i64 (c' : Nat))).far (p := ⟨g, 5, none⟩) hne (.bool false))
  have HW := hide (((b2.setCell (p := ⟨g, 3, none⟩) hg1 (.int .i64 (r' : Nat))).setCell (p := ⟨g, 4, none⟩) hg1 (.int .i64 (c' : Nat))).setCell (p := ⟨g, 5, none⟩) hg1 (.bool false))
  have hb1s := hb1.size
  clear hB hB2 hR b2 hb1 hb2
  go_upto_region 2 with fail
  simp only [E1.out, E2.out]
  generalize (if r < 0 then (0 : Int) else r) = zr
  generalize (if c < 0 then (0 : Int) else c) = zc
  generalize ((w2.setCell ⟨g, 3, none⟩ (.int .i64 (r' : Nat))).setCell ⟨g, 4, none⟩ (.int .i64 (c' : Nat))).setCell ⟨g, 5, none⟩ (.bool false) = w3 at HB HR HW ⊢
  clear k0 k1 k3 k4 k5 f3 f4 f5
  go_wp2_with (first | (refine wpList_load_scr HB.out rfl _ rfl rfl ?_) | (refine wpList_store_scr HR.out hsR rfl _ _ rfl rfl rfl hx ?_; intro w4 hB4 hk4 hs4))
  exact bodyPost_ret (results_scr rfl rfl hB4) rfl ⟨rfl, HW.out.trans (hk4.toBelow HW.out.size (fun k hk => by simp at hk; have := hb1s; omega))⟩
end Go.Proofs.YtdcdinlppjlmfaaDoor
set_option maxRecDepth 100000
namespace Go.Proofs.YtdcdinlppjlmfaaDoor
open Go.RowKit
set_option linter.unusedVariables false
namespace SN
/-- a size as it is cut -/
def cut (z : Int) (m : Nat) : Nat := (min (max z 1) (m : Int)).toNat
/-- a screen whose numbers may be any -/
structure Rw where
  g : PG.Gr
  row : Int
  col : Int
  pend : Bool
  top : Int
  bot : Int
  pen : PG.Pn
  tabs : Nat
  s0 : Int
  s1 : Int
  sh : Int
  wrap : Bool
  org : Bool
  shown : Bool
  keys : Bool
  pad : Bool
  svrow : Int
  svcol : Int
  svpen : PG.Pn
  t0 : Int
  t1 : Int
  th : Int
  so : Bool
def raw (s : Sc) : Rw := ⟨s.g, s.row, s.col, s.pend, s.top, s.bot, s.pen, s.tabs, s.s0, s.s1, s.sh, s.wrap, s.org, s.shown, s.keys, s.pad, s.sv.row, s.sv.col, s.sv.pen, s.sv.s0, s.sv.s1, s.sv.sh, s.sv.org⟩
def setT (x y h : Int) : Bool := (x == 66 || x == 48) && (y == 66 || y == 48) && (h == 0 || h == 1)
def placeB (g : PG.Gr) (r c : Int) : Bool := decide (0 ≤ r ∧ r < g.rows) && decide (0 ≤ c ∧ c < g.cols)
/-- right, but for its grid -/
def Rw.right (q : Rw) : Bool := placeB q.g q.row q.col && (decide (0 ≤ q.top ∧ q.top < q.bot ∧ q.bot < q.g.rows) || decide (q.g.rows = 1 ∧ q.top = 0 ∧ q.bot = 0)) && C.right q.pen.1 q.pen.2.1 q.pen.2.2 && setT q.s0 q.s1 q.sh && (!q.pend || (q.wrap && decide (q.col + 1 = q.g.cols))) && placeB q.g q.svrow q.svcol && C.right q.svpen.1 q.svpen.2.1 q.svpen.2.2 && setT q.t0 q.t1 q.th
/-- alike, but for the grids -/
def Rw.same (a b : Rw) : Bool := a.row == b.row && a.col == b.col && a.pend == b.pend && a.top == b.top && a.bot == b.bot && decide (a.pen = b.pen) && a.tabs == b.tabs && a.s0 == b.s0 && a.s1 == b.s1 && a.sh == b.sh && a.wrap == b.wrap && a.org == b.org && a.shown == b.shown && a.keys == b.keys && a.pad == b.pad &&
  (a.svrow == b.svrow && a.svcol == b.svcol && decide (a.svpen = b.svpen) && a.t0 == b.t0 && a.t1 == b.t1 && a.th == b.th && a.so == b.so)
def Rw.looks (a b : Rw) : Bool := a.row == b.row && a.col == b.col && a.shown == b.shown
end SN
def rwA (x : Value) (q : SN.Rw) : Array Value := #[.int .i64 q.g.rows, .int .i64 q.g.cols, x, .int .i64 q.row, .int .i64 q.col, .bool q.pend, .int .i64 q.top, .int .i64 q.bot, .int .i64 q.pen.1, .int .i64 q.pen.2.1, .int .i64 q.pen.2.2, .int .u64 q.tabs, .int .u8 q.s0, .int .u8 q.s1, .int .i64 q.sh, .bool q.wrap, .bool q.org, .bool q.shown, .bool q.keys, .bool q.pad,
  .int .i64 q.svrow, .int .i64 q.svcol, .int .i64 q.svpen.1, .int .i64 q.svpen.2.1, .int .i64 q.svpen.2.2, .int .u8 q.t0, .int .u8 q.t1, .int .i64 q.th, .bool q.so]
theorem scA_raw (x : Value) (s : SN.Sc) : scA x s = rwA x (SN.raw s) := rfl
theorem right_raw {s : SN.Sc} (h : SN.RightS s) : (SN.raw s).right = true := by
  obtain ⟨hg, h1, h2, h3, h4, h5, _, ⟨a1, a2, a3⟩, h7, ⟨b1, b2, b3, ⟨d1, d2, d3⟩⟩⟩ := h
  unfold SN.Rw.right SN.raw SN.placeB SN.setT
  have hp : C.right s.pen.1 s.pen.2.1 s.pen.2.2 = true := h5
  have hq : C.right s.sv.pen.1 s.sv.pen.2.1 s.sv.pen.2.2 = true := b3
  simp only [Bool.and_eq_true, Bool.or_eq_true, decide_eq_true_eq, beq_iff_eq, Bool.not_eq_true']
  refine ⟨⟨⟨⟨⟨⟨⟨⟨by omega, by omega⟩, ?_⟩, hp⟩, ⟨⟨a1, a2⟩, a3⟩⟩, ?_⟩, ⟨by omega, by omega⟩⟩, hq⟩, ⟨⟨d1, d2⟩, d3⟩⟩
  · rcases h4 with h | ⟨e1, e2, e3⟩
    · exact .inl (by omega)
    · exact .inr (by omega)
  · cases hpn : s.pend with
    | false => exact .inl rfl
    | true =>
      obtain ⟨e1, e2⟩ := h7 hpn
      exact .inr ⟨e1, by omega⟩
end Go.Proofs.YtdcdinlppjlmfaaDoor
set_option maxRecDepth 100000
namespace Go.Proofs.YtdcdinlppjlmfaaDoor
open Go Go.RowKit
set_option linter.unusedVariables false
theorem rwA_size (x : Value) (q : SN.Rw) : (rwA x q).size = 29 := rfl
def RBox (w : World) (g : Nat) (x : Value) (q : SN.Rw) : Prop := Box w g 32 (rwA x q)
section
variable {w : World} {g : Nat} {x : Value} {q : SN.Rw}
theorem RBox.c0 (h : RBox w g x q) : w.cell? ⟨g, 0, none⟩ = some (.int .i64 q.g.rows) := Box.cell h 0
theorem RBox.c1 (h : RBox w g x q) : w.cell? ⟨g, 1, none⟩ = some (.int .i64 q.g.cols) := Box.cell h 1
theorem RBox.c2 (h : RBox w g x q) : w.cell? ⟨g, 2, none⟩ = some (x) := Box.cell h 2
theorem RBox.c3 (h : RBox w g x q) : w.cell? ⟨g, 3, none⟩ = some (.int .i64 q.row) := Box.cell h 3
theorem RBox.c4 (h : RBox w g x q) : w.cell? ⟨g, 4, none⟩ = some (.int .i64 q.col) := Box.cell h 4
theorem RBox.c5 (h : RBox w g x q) : w.cell? ⟨g, 5, none⟩ = some (.bool q.pend) := Box.cell h 5
theorem RBox.c6 (h : RBox w g x q) : w.cell? ⟨g, 6, none⟩ = some (.int .i64 q.top) := Box.cell h 6
theorem RBox.c7 (h : RBox w g x q) : w.cell? ⟨g, 7, none⟩ = some (.int .i64 q.bot) := Box.cell h 7
theorem RBox.c8 (h : RBox w g x q) : w.cell? ⟨g, 8, none⟩ = some (.int .i64 q.pen.1) := Box.cell h 8
theorem RBox.c9 (h : RBox w g x q) : w.cell? ⟨g, 9, none⟩ = some (.int .i64 q.pen.2.1) := Box.cell h 9
theorem RBox.c10 (h : RBox w g x q) : w.cell? ⟨g, 10, none⟩ = some (.int .i64 q.pen.2.2) := Box.cell h 10
theorem RBox.c11 (h : RBox w g x q) : w.cell? ⟨g, 11, none⟩ = some (.int .u64 q.tabs) := Box.cell h 11
theorem RBox.c12 (h : RBox w g x q) : w.cell? ⟨g, 12, none⟩ = some (.int .u8 q.s0) := Box.cell h 12
theorem RBox.c13 (h : RBox w g x q) : w.cell? ⟨g, 13, none⟩ = some (.int .u8 q.s1) := Box.cell h 13
theorem RBox.c14 (h : RBox w g x q) : w.cell? ⟨g, 14, none⟩ = some (.int .i64 q.sh) := Box.cell h 14
theorem RBox.c15 (h : RBox w g x q) : w.cell? ⟨g, 15, none⟩ = some (.bool q.wrap) := Box.cell h 15
theorem RBox.c16 (h : RBox w g x q) : w.cell? ⟨g, 16, none⟩ = some (.bool q.org) := Box.cell h 16
theorem RBox.c17 (h : RBox w g x q) : w.cell? ⟨g, 17, none⟩ = some (.bool q.shown) := Box.cell h 17
theorem RBox.c18 (h : RBox w g x q) : w.cell? ⟨g, 18, none⟩ = some (.bool q.keys) := Box.cell h 18
theorem RBox.c19 (h : RBox w g x q) : w.cell? ⟨g, 19, none⟩ = some (.bool q.pad) := Box.cell h 19
theorem RBox.c20 (h : RBox w g x q) : w.cell? ⟨g, 20, none⟩ = some (.int .i64 q.svrow) := Box.cell h 20
theorem RBox.c21 (h : RBox w g x q) : w.cell? ⟨g, 21, none⟩ = some (.int .i64 q.svcol) := Box.cell h 21
theorem RBox.c22 (h : RBox w g x q) : w.cell? ⟨g, 22, none⟩ = some (.int .i64 q.svpen.1) := Box.cell h 22
theorem RBox.c23 (h : RBox w g x q) : w.cell? ⟨g, 23, none⟩ = some (.int .i64 q.svpen.2.1) := Box.cell h 23
theorem RBox.c24 (h : RBox w g x q) : w.cell? ⟨g, 24, none⟩ = some (.int .i64 q.svpen.2.2) := Box.cell h 24
theorem RBox.c25 (h : RBox w g x q) : w.cell? ⟨g, 25, none⟩ = some (.int .u8 q.t0) := Box.cell h 25
theorem RBox.c26 (h : RBox w g x q) : w.cell? ⟨g, 26, none⟩ = some (.int .u8 q.t1) := Box.cell h 26
theorem RBox.c27 (h : RBox w g x q) : w.cell? ⟨g, 27, none⟩ = some (.int .i64 q.th) := Box.cell h 27
theorem RBox.c28 (h : RBox w g x q) : w.cell? ⟨g, 28, none⟩ = some (.bool q.so) := Box.cell h 28
theorem RBox.fz (h : RBox w g x q) (i : Nat) : w.frozen? ⟨g, i, none⟩ = false := Box.frozen h i
theorem RBox.lt (h : RBox w g x q) : g < w.heap.size := Box.lt h
theorem RBox.kept {L : List (Option Nat)} {w' : World} (h : RBox w g x q) (k : Kept L w w') (hg : some g ∉ L) : RBox w' g x q := Box.kept h k hg
theorem RBox.below {B : Nat} {w' : World} (h : RBox w g x q) (hb : Below B w w') (hg : g < B) : RBox w' g x q := Box.below h hb hg
theorem RBox.alloc (h : RBox w g x q) (o : Obj) : RBox (w.alloc o) g x q := Box.alloc h o
variable {P : Program} {ops : Array Oper} {rest : List Oper} {o : Oper} {a : Act} {Q : Exit → Act → World → Prop}
theorem wpList_load_raw (h : RBox w g x q) (hgd : o.guard = none) (y : Operand) (ho : o.op = .load 32 y)
    (hx : a.eval y = .pointer (some ⟨g, 0, none⟩)) (hk : wpList Tryd.prog ops Q rest (a.put o.dst (.agg (rwA x q))) w) : wpList Tryd.prog ops Q (o :: rest) a w := by
  obtain ⟨d, hu, hd⟩ := row_screen
  exact wpList_load_box h hgd _ y ho hx d hu hd size_screen hk
theorem wpList_load_rawG (h : RBox w g x q) (y : Operand) (ho : o.op = .load 32 y) (hw : Region.wanted o (yielded ops a.tmps) = true)
    (hx : a.eval y = .pointer (some ⟨g, 0, none⟩)) (hk : wpList Tryd.prog ops Q rest (a.put o.dst (.agg (rwA x q))) w) : wpList Tryd.prog ops Q (o :: rest) a w := by
  obtain ⟨d, hu, hd⟩ := row_screen
  refine wpList_step fun K hK => ?_
  rw [if_pos hw]
  have e : (.agg (rwA x q) : Value) = .agg (rwA x q).toList.toArray := by simp
  exact wp_load_mid _ y ho g 0 hx (rwA x q).toList d (Box.rangeAt h) hu hd size_screen (by rw [← e]; exact hK _ _ hk)
theorem wpList_box_raw (hgd : o.guard = none) (y : Operand) (ho : o.op = .box 32 y) (hy : a.eval y = .agg (rwA x q))
    (hk : ∀ g w', RBox w' g x q → Below w.heap.size w w' → w.heap.size ≤ g → wpList P ops Q rest (a.put o.dst (.pointer (some ⟨g, 0, none⟩))) w') : wpList P ops Q (o :: rest) a w := by
  refine wpList_plain hgd fun K hK => ?_
  unfold Oper.wp execOp
  simp only [ho, hy]
  have := hk w.heap.size (w.alloc (.cells (rwA x q) 32)) (Box.new w _ _) ((Below.refl _ _).alloc (Nat.le_refl _) _) (Nat.le_refl _)
  go_simp
  exact hK _ _ this
end
end Go.Proofs.YtdcdinlppjlmfaaDoor
set_option maxRecDepth 100000
namespace Go.Proofs.YtdcdinlppjlmfaaDoor.SN
set_option linter.unusedVariables false
theorem bad0 {S : Sc} (hS : RightS S) {n : Int} (hn : 1 ≤ n) : ({ raw S with row := (S.g.rows : Int) - 1 + n } : Rw).right = false ∧ ({ raw S with row := (S.g.rows : Int) - 1 + n } : Rw).same (raw S) = false := by
  have h1 := hS.row
  have e1 : placeB S.g ((S.g.rows : Int) - 1 + n) (S.col : Int) = false := by
    unfold placeB
    rw [decide_eq_false (by omega)]
    rfl
  have e2 : ((S.g.rows : Int) - 1 + n == (S.row : Int)) = false := by simp; omega
  exact ⟨by simp [Rw.right, raw, e1], by simp [Rw.same, raw, e2]⟩
theorem bad1 {S : Sc} (hS : RightS S) {n : Int} (hn : 1 ≤ n) : ({ raw S with col := -n } : Rw).right = false ∧ ({ raw S with col := -n } : Rw).same (raw S) = false := by
  have e1 : placeB S.g (S.row : Int) (-n) = false := by
    unfold placeB
    rw [decide_eq_false (p := 0 ≤ -n ∧ -n < (S.g.cols : Int)) (by omega), Bool.and_false]
  have e2 : (-n == (S.col : Int)) = false := by simp; omega
  exact ⟨by simp [Rw.right, raw, e1], by simp [Rw.same, raw, e2]⟩
theorem bad2 {S : Sc} (hS : RightS S) {n : Int} (hn : 1 ≤ n) : ({ raw S with top := (S.bot : Int) + n } : Rw).right = false ∧ ({ raw S with top := (S.bot : Int) + n } : Rw).same (raw S) = false := by
  have h4 := hS.top
  have e1 : decide (0 ≤ (S.bot : Int) + n ∧ (S.bot : Int) + n < (S.bot : Int) ∧ (S.bot : Int) < (S.g.rows : Int)) = false := decide_eq_false (by omega)
  have e3 : decide (S.g.rows = 1 ∧ (S.bot : Int) + n = 0 ∧ (S.bot : Int) = 0) = false := decide_eq_false (by omega)
  have e2 : ((S.bot : Int) + n == (S.top : Int)) = false := by simp; omega
  refine ⟨?_, by simp [Rw.same, raw, e2]⟩
  unfold Rw.right raw
  simp only [e1, e3]
  simp
theorem bad3 {S : Sc} (hS : RightS S) {n : Int} (hn : 1 ≤ n) : ({ raw S with pen := (S.pen.1, S.pen.2.1, 255 + n) } : Rw).right = false ∧ ({ raw S with pen := (S.pen.1, S.pen.2.1, 255 + n) } : Rw).same (raw S) = false := by
  have h1 : C.right S.pen.1 S.pen.2.1 S.pen.2.2 = true := hS.pen
  have h2 := (C.right_iff.1 h1).2.2.2
  have e1 : C.right S.pen.1 S.pen.2.1 (255 + n) = false := by
    rw [Bool.eq_false_iff]
    intro h
    have := (C.right_iff.1 h).2.2.2
    omega
  have e2 : decide ((S.pen.1, S.pen.2.1, 255 + n) = S.pen) = false := decide_eq_false fun h => by
    have := congrArg (fun p : PG.Pn => p.2.2) h
    simp only at this
    omega
  refine ⟨by simp [Rw.right, raw, e1], ?_⟩
  unfold Rw.same raw
  simp only [e2]
  simp
theorem bad4 {S : Sc} (hS : RightS S) {n : Int} (hn : 1 ≤ n) : ({ raw S with s1 := 65 } : Rw).right = false ∧ ({ raw S with s1 := 65 } : Rw).same (raw S) = false := by
  have h1 := hS.set.2.1
  have e1 : setT S.s0 65 S.sh = false := by simp [setT]
  have e2 : ((65 : Int) == S.s1) = false := by simp; omega
  exact ⟨by simp [Rw.right, raw, e1], by simp [Rw.same, raw, e2]⟩
theorem bad5 {S : Sc} (hS : RightS S) {n : Int} (hn : 1 ≤ n) : ({ raw S with sh := 1 + n } : Rw).right = false ∧ ({ raw S with sh := 1 + n } : Rw).same (raw S) = false := by
  have h1 := hS.set.2.2
  have e0 : (1 + n == 0) = false := by simp; omega
  have e0' : (1 + n == 1) = false := by simp; omega
  have e1 : setT S.s0 S.s1 (1 + n) = false := by simp only [setT, e0, e0', Bool.or_self, Bool.and_false]
  have e2 : (1 + n == S.sh) = false := by simp; omega
  exact ⟨by simp [Rw.right, raw, e1], by simp [Rw.same, raw, e2]⟩
theorem bad6 {S : Sc} (hS : RightS S) {n : Int} (hn : 1 ≤ n) : ({ raw S with pend := true, wrap := false } : Rw).right = false ∧ ({ raw S with pend := true, wrap := false } : Rw).same (raw S) = false := by
  have h1 := hS.pend
  refine ⟨by simp [Rw.right, raw], ?_⟩
  cases hp : S.pend with
  | false => simp [Rw.same, raw, hp]
  | true =>
    have := (h1 hp).1
    simp [Rw.same, raw, hp, this]
theorem bad7 {S : Sc} (hS : RightS S) {n : Int} (hn : 1 ≤ n) : ({ raw S with svrow := -n } : Rw).right = false ∧ ({ raw S with svrow := -n } : Rw).same (raw S) = false := by
  have e1 : placeB S.g (-n) (S.sv.col : Int) = false := by
    unfold placeB
    rw [decide_eq_false (by omega)]
    rfl
  have e2 : (-n == (S.sv.row : Int)) = false := by simp; omega
  exact ⟨by simp [Rw.right, raw, e1], by simp [Rw.same, raw, e2]⟩
end Go.Proofs.YtdcdinlppjlmfaaDoor.SN
