/- A part of the proof: ScreenVal, TabsFun. -/
import Derived.Test.YtoaabebgmdbjeaaGreatDoorRp07
import Derived.Laws.ShiftsVar
import Derived.Shelf.Spec.TrailingZeros
set_option maxRecDepth 100000
set_option maxHeartbeats 16000000
set_option linter.unusedVariables false
namespace Go.Proofs.YtoaabebgmdbjeaaGreatDoor
open Go.RowKit
namespace SN.Sc
def u3 (s:SN.Sc) (v:Nat):SN.Sc:={s with row:=v}
def u4 (s:SN.Sc) (v:Nat):SN.Sc:={s with col:=v}
def u5 (s:SN.Sc) (v:Bool):SN.Sc:={s with pend:=v}
def u6 (s:SN.Sc) (v:Nat):SN.Sc:={s with top:=v}
def u7 (s:SN.Sc) (v:Nat):SN.Sc:={s with bot:=v}
def u8 (s:SN.Sc) (v:Int):SN.Sc:={s with pen:=(v,s.pen.2.1,s.pen.2.2)}
def u9 (s:SN.Sc) (v:Int):SN.Sc:={s with pen:=(s.pen.1,v,s.pen.2.2)}
def u10 (s:SN.Sc) (v:Int):SN.Sc:={s with pen:=(s.pen.1,s.pen.2.1,v)}
def u11 (s:SN.Sc) (v:Nat):SN.Sc:={s with tabs:=v}
def u12 (s:SN.Sc) (v:Int):SN.Sc:={s with s0:=v}
def u13 (s:SN.Sc) (v:Int):SN.Sc:={s with s1:=v}
def u14 (s:SN.Sc) (v:Int):SN.Sc:={s with sh:=v}
def u15 (s:SN.Sc) (v:Bool):SN.Sc:={s with wrap:=v}
def u16 (s:SN.Sc) (v:Bool):SN.Sc:={s with org:=v}
def u17 (s:SN.Sc) (v:Bool):SN.Sc:={s with shown:=v}
def u18 (s:SN.Sc) (v:Bool):SN.Sc:={s with keys:=v}
def u19 (s:SN.Sc) (v:Bool):SN.Sc:={s with pad:=v}
def u20 (s:SN.Sc) (v:Nat):SN.Sc:={s with sv:={s.sv with row:=v}}
def u21 (s:SN.Sc) (v:Nat):SN.Sc:={s with sv:={s.sv with col:=v}}
def u22 (s:SN.Sc) (v:Int):SN.Sc:={s with sv:={s.sv with pen:=(v,s.sv.pen.2.1,s.sv.pen.2.2)}}
def u23 (s:SN.Sc) (v:Int):SN.Sc:={s with sv:={s.sv with pen:=(s.sv.pen.1,v,s.sv.pen.2.2)}}
def u24 (s:SN.Sc) (v:Int):SN.Sc:={s with sv:={s.sv with pen:=(s.sv.pen.1,s.sv.pen.2.1,v)}}
def u25 (s:SN.Sc) (v:Int):SN.Sc:={s with sv:={s.sv with s0:=v}}
def u26 (s:SN.Sc) (v:Int):SN.Sc:={s with sv:={s.sv with s1:=v}}
def u27 (s:SN.Sc) (v:Int):SN.Sc:={s with sv:={s.sv with sh:=v}}
def u28 (s:SN.Sc) (v:Bool):SN.Sc:={s with sv:={s.sv with org:=v}}
def uG (s:SN.Sc) (v:PG.Gr):SN.Sc:={s with g:=v}
def uP (s:SN.Sc) (v:PG.Pn):SN.Sc:={s with pen:=v}
def uS (s:SN.Sc) (a b:Int):SN.Sc:={s with s0:=a,s1:=b}
def uV (s:SN.Sc) (v:SN.Sv):SN.Sc:={s with sv:=v}
end SN.Sc
def scA (x:Value) (s:SN.Sc):Array Value:= #[.int .i64 s.g.rows,.int .i64 s.g.AB,x,.int .i64 s.row,.int .i64 s.col,.bool s.pend,.int .i64 s.top,.int .i64 s.bot,.int .i64 s.pen.1,.int .i64 s.pen.2.1,.int .i64 s.pen.2.2,.int .u64 s.tabs,.int .u8 s.s0,.int .u8 s.s1,.int .i64 s.sh,.bool s.wrap,.bool s.org,.bool s.shown,.bool s.keys,.bool s.pad,.int .i64 s.sv.row,.int .i64 s.sv.col,.int .i64 s.sv.pen.1,.int .i64 s.sv.pen.2.1,.int .i64 s.sv.pen.2.2,.int .u8 s.sv.s0,.int .u8 s.sv.s1,.int .i64 s.sv.sh,.bool s.sv.org]
theorem Le (x:Value) (s:SN.Sc):(scA x s).size=29:=rfl
theorem aY {x:Value} (hx:x.oneCell'=true) (s:SN.Sc):(scA x s).all (·.oneCell')=true:=by
 cases x<;>first | (simp [scA,Value.oneCell'];done) | (simp [Value.oneCell'] at hx)
theorem U8 (x:Value) (s:SN.Sc) (v:Nat):(scA x s).setIfInBounds 20 (.int .i64 (v:Nat))=scA x (s.u20 v):=rfl
theorem U9 (x:Value) (s:SN.Sc) (v:Nat):(scA x s).setIfInBounds 21 (.int .i64 (v:Nat))=scA x (s.u21 v):=rfl
theorem VA (x:Value) (s:SN.Sc) (v:Int):(scA x s).setIfInBounds 22 (.int .i64 (v:Int))=scA x (s.u22 v):=rfl
theorem VB (x:Value) (s:SN.Sc) (v:Int):(scA x s).setIfInBounds 23 (.int .i64 (v:Int))=scA x (s.u23 v):=rfl
theorem VD (x:Value) (s:SN.Sc) (v:Int):(scA x s).setIfInBounds 24 (.int .i64 (v:Int))=scA x (s.u24 v):=rfl
theorem VE (x:Value) (s:SN.Sc) (v:Int):(scA x s).setIfInBounds 25 (.int .u8 (v:Int))=scA x (s.u25 v):=rfl
theorem VF (x:Value) (s:SN.Sc) (v:Int):(scA x s).setIfInBounds 26 (.int .u8 (v:Int))=scA x (s.u26 v):=rfl
theorem VG (x:Value) (s:SN.Sc) (v:Int):(scA x s).setIfInBounds 27 (.int .i64 (v:Int))=scA x (s.u27 v):=rfl
theorem VH (x:Value) (s:SN.Sc) (v:Bool):(scA x s).setIfInBounds 28 (.bool v)=scA x (s.u28 v):=rfl
theorem Xw (x y:Value) (s:SN.Sc) (g:PG.Gr):O6 (scA x s) 0 [.int .i64 g.rows,.int .i64 g.AB,y] =scA y (s.uG g):=rfl
theorem Xx (x:Value) (s:SN.Sc) (v:SN.Sv):O6 (scA x s) 20 [.int .i64 v.row,.int .i64 v.col,.int .i64 v.pen.1,.int .i64 v.pen.2.1,.int .i64 v.pen.2.2,.int .u8 v.s0,.int .u8 v.s1,.int .i64 v.sh,.bool v.org] =scA x (s.uV v):=by
 simp only [O6]
 rw [U8,U9,VA,VB,VD,VE,VF,VG,VH]
 simp only [SN.Sc.u20,SN.Sc.u21,SN.Sc.u22,SN.Sc.u23,SN.Sc.u24,SN.Sc.u25,SN.Sc.u26,SN.Sc.u27,SN.Sc.u28,SN.Sc.uV]
def Aj (w:World) (g:Nat) (x:Value) (s:SN.Sc):Prop:=Box w g 43 (scA x s)
section
variable {w:World} {g:Nat} {x:Value} {s:SN.Sc}
theorem Aj.c0 (h:Aj w g x s):w.cell? ⟨g,0,none⟩=some (.int .i64 s.g.rows):=Box.cell h 0
theorem Aj.c1 (h:Aj w g x s):w.cell? ⟨g,1,none⟩=some (.int .i64 s.g.AB):=Box.cell h 1
theorem Aj.c2 (h:Aj w g x s):w.cell? ⟨g,2,none⟩=some (x):=Box.cell h 2
theorem Aj.c3 (h:Aj w g x s):w.cell? ⟨g,3,none⟩=some (.int .i64 s.row):=Box.cell h 3
theorem Aj.c4 (h:Aj w g x s):w.cell? ⟨g,4,none⟩=some (.int .i64 s.col):=Box.cell h 4
theorem Aj.c5 (h:Aj w g x s):w.cell? ⟨g,5,none⟩=some (.bool s.pend):=Box.cell h 5
theorem Aj.c6 (h:Aj w g x s):w.cell? ⟨g,6,none⟩=some (.int .i64 s.top):=Box.cell h 6
theorem Aj.c7 (h:Aj w g x s):w.cell? ⟨g,7,none⟩=some (.int .i64 s.bot):=Box.cell h 7
theorem Aj.c8 (h:Aj w g x s):w.cell? ⟨g,8,none⟩=some (.int .i64 s.pen.1):=Box.cell h 8
theorem Aj.c9 (h:Aj w g x s):w.cell? ⟨g,9,none⟩=some (.int .i64 s.pen.2.1):=Box.cell h 9
theorem Aj.c10 (h:Aj w g x s):w.cell? ⟨g,10,none⟩=some (.int .i64 s.pen.2.2):=Box.cell h 10
theorem Aj.c11 (h:Aj w g x s):w.cell? ⟨g,11,none⟩=some (.int .u64 s.tabs):=Box.cell h 11
theorem Aj.c12 (h:Aj w g x s):w.cell? ⟨g,12,none⟩=some (.int .u8 s.s0):=Box.cell h 12
theorem Aj.c13 (h:Aj w g x s):w.cell? ⟨g,13,none⟩=some (.int .u8 s.s1):=Box.cell h 13
theorem Aj.c14 (h:Aj w g x s):w.cell? ⟨g,14,none⟩=some (.int .i64 s.sh):=Box.cell h 14
theorem Aj.c15 (h:Aj w g x s):w.cell? ⟨g,15,none⟩=some (.bool s.wrap):=Box.cell h 15
theorem Aj.c16 (h:Aj w g x s):w.cell? ⟨g,16,none⟩=some (.bool s.org):=Box.cell h 16
theorem Aj.c17 (h:Aj w g x s):w.cell? ⟨g,17,none⟩=some (.bool s.shown):=Box.cell h 17
theorem Aj.c18 (h:Aj w g x s):w.cell? ⟨g,18,none⟩=some (.bool s.keys):=Box.cell h 18
theorem Aj.c19 (h:Aj w g x s):w.cell? ⟨g,19,none⟩=some (.bool s.pad):=Box.cell h 19
theorem Aj.c20 (h:Aj w g x s):w.cell? ⟨g,20,none⟩=some (.int .i64 s.sv.row):=Box.cell h 20
theorem Aj.c21 (h:Aj w g x s):w.cell? ⟨g,21,none⟩=some (.int .i64 s.sv.col):=Box.cell h 21
theorem Aj.c22 (h:Aj w g x s):w.cell? ⟨g,22,none⟩=some (.int .i64 s.sv.pen.1):=Box.cell h 22
theorem Aj.c23 (h:Aj w g x s):w.cell? ⟨g,23,none⟩=some (.int .i64 s.sv.pen.2.1):=Box.cell h 23
theorem Aj.c24 (h:Aj w g x s):w.cell? ⟨g,24,none⟩=some (.int .i64 s.sv.pen.2.2):=Box.cell h 24
theorem Aj.c25 (h:Aj w g x s):w.cell? ⟨g,25,none⟩=some (.int .u8 s.sv.s0):=Box.cell h 25
theorem Aj.c26 (h:Aj w g x s):w.cell? ⟨g,26,none⟩=some (.int .u8 s.sv.s1):=Box.cell h 26
theorem Aj.c27 (h:Aj w g x s):w.cell? ⟨g,27,none⟩=some (.int .i64 s.sv.sh):=Box.cell h 27
theorem Aj.c28 (h:Aj w g x s):w.cell? ⟨g,28,none⟩=some (.bool s.sv.org):=Box.cell h 28
theorem Aj.fz (h:Aj w g x s) (i:Nat):w.frozen? ⟨g,i,none⟩=false:=Box.frozen h i
theorem Aj.lt (h:Aj w g x s):g<w.heap.size:=Box.lt h
theorem Aj.Cb (h:Aj w g x s) (v:Nat):Aj (w.setCell ⟨g,3,none⟩ (.int .i64 (v:Nat))) g x (s.u3 v):=Box.set h 3 _
theorem Aj.Rk (h:Aj w g x s) (v:Nat):Aj (w.setCell ⟨g,4,none⟩ (.int .i64 (v:Nat))) g x (s.u4 v):=Box.set h 4 _
theorem Aj.JD (h:Aj w g x s) (v:Bool):Aj (w.setCell ⟨g,5,none⟩ (.bool v)) g x (s.u5 v):=Box.set h 5 _
theorem Aj.aZ (h:Aj w g x s) (v:Nat):Aj (w.setCell ⟨g,6,none⟩ (.int .i64 (v:Nat))) g x (s.u6 v):=Box.set h 6 _
theorem Aj.Iy (h:Aj w g x s) (v:Nat):Aj (w.setCell ⟨g,7,none⟩ (.int .i64 (v:Nat))) g x (s.u7 v):=Box.set h 7 _
theorem Aj.set8 (h:Aj w g x s) (v:Int):Aj (w.setCell ⟨g,8,none⟩ (.int .i64 (v:Int))) g x (s.u8 v):=Box.set h 8 _
theorem Aj.set9 (h:Aj w g x s) (v:Int):Aj (w.setCell ⟨g,9,none⟩ (.int .i64 (v:Int))) g x (s.u9 v):=Box.set h 9 _
theorem Aj.kZ (h:Aj w g x s) (v:Int):Aj (w.setCell ⟨g,10,none⟩ (.int .i64 (v:Int))) g x (s.u10 v):=Box.set h 10 _
theorem Aj.Xy (h:Aj w g x s) (v:Nat):Aj (w.setCell ⟨g,11,none⟩ (.int .u64 (v:Nat))) g x (s.u11 v):=Box.set h 11 _
theorem Aj.UG (h:Aj w g x s) (v:Int):Aj (w.setCell ⟨g,12,none⟩ (.int .u8 (v:Int))) g x (s.u12 v):=Box.set h 12 _
theorem Aj.Xz (h:Aj w g x s) (v:Int):Aj (w.setCell ⟨g,13,none⟩ (.int .u8 (v:Int))) g x (s.u13 v):=Box.set h 13 _
theorem Aj.UH (h:Aj w g x s) (v:Int):Aj (w.setCell ⟨g,14,none⟩ (.int .i64 (v:Int))) g x (s.u14 v):=Box.set h 14 _
theorem Aj.X3 (h:Aj w g x s) (v:Bool):Aj (w.setCell ⟨g,15,none⟩ (.bool v)) g x (s.u15 v):=Box.set h 15 _
theorem Aj.Pq (h:Aj w g x s) (v:Bool):Aj (w.setCell ⟨g,16,none⟩ (.bool v)) g x (s.u16 v):=Box.set h 16 _
theorem Aj.fA (h:Aj w g x s) (v:Bool):Aj (w.setCell ⟨g,17,none⟩ (.bool v)) g x (s.u17 v):=Box.set h 17 _
theorem Aj.fB (h:Aj w g x s) (v:Bool):Aj (w.setCell ⟨g,18,none⟩ (.bool v)) g x (s.u18 v):=Box.set h 18 _
theorem Aj.X4 (h:Aj w g x s) (v:Bool):Aj (w.setCell ⟨g,19,none⟩ (.bool v)) g x (s.u19 v):=Box.set h 19 _
theorem Aj.setP (h:Aj w g x s) (p:PG.Pn):Aj (((w.setCell ⟨g,8,none⟩ (.int .i64 p.1)).setCell ⟨g,9,none⟩ (.int .i64 p.2.1)).setCell ⟨g,10,none⟩ (.int .i64 p.2.2)) g x (s.uP p):=((Box.set h 8 _).set 9 _).set 10 _
theorem IsG.put {G:PG.Gr} {v:Value} {T:TypeId} {cs:Array Value} (h:IsG w G v) (hb:Box w g T cs) (hT:T≠66) (i:Nat) (u:Value):IsG (w.setCell ⟨g,i,none⟩ u) G v:=h.kept hb hT ((Kept.refl [some g] w).setCell (p:=⟨g,i,none⟩) (From.mem (by simp)) u)
theorem IsG.puts {G:PG.Gr} {v:Value} (h:IsG w G v) (hb:Aj w g x s) (i:Nat) (u:Value):IsG (w.setCell ⟨g,i,none⟩ u) G v:=h.put hb (by decide) i u
theorem Aj.kept {L:List (Option Nat)} {w':World} (h:Aj w g x s) (k:Kept L w w') (hg:some g∉L):Aj w' g x s:=Box.kept h k hg
theorem Aj.below {B:Nat} {w':World} (h:Aj w g x s) (hb:Below B w w') (hg:g<B):Aj w' g x s:=Box.below h hb hg
theorem Aj.far (h:Aj w g x s) {p:Addr} (hp:g≠p.block) (u:Value):Aj (w.setCell p u) g x s:=Box.far h hp u
theorem Aj.alloc (h:Aj w g x s) (o:Obj):Aj (w.alloc o) g x s:=Box.alloc h o
theorem Aj.drewN (h:Aj w g x s) (k:Nat):Aj (w.drewN k) g x s:=h
theorem GU:(Tryz.prog.info? 43).map (·.size)=some 29:=by kernel_rfl
theorem JG: ∃d,Tryz.prog.underlying 43=some d/\d.isRow=true:=⟨_,Tryz.underlying43,rfl⟩
theorem AX {ops:Array Oper} {rest:List Oper} {op:Oper} {a:Act} {Q:Exit->Act->World->Prop} (h:Aj w g x s) (hgd:op.guard=none) (y:Operand) (ho:op.op=.load 43 y)
  (hx:a.eval y=.pointer (some ⟨g,0,none⟩)) (hk:wpList Tryz.prog ops Q rest (a.put op.dst (.agg (scA x s))) w):wpList Tryz.prog ops Q (op::rest) a w:=by
 obtain⟨d,hu,hd⟩:=JG
 exact G6 h hgd _ y ho hx d hu hd GU hk
theorem AV {ops:Array Oper} {rest:List Oper} {op:Oper} {a:Act} {Q:Exit->Act->World->Prop} {cs:Array Value} (h:Box w g 43 cs) (hs:cs.size=29) (hgd:op.guard=none) (y z:Operand) (ho:op.op=.store 43 y z)
  (hx:a.eval y=.pointer (some ⟨g,0,none⟩)) (hy:a.eval z=.agg (scA x s)) (h1:x.oneCell'=true)
  (hk: ∀w',Aj w' g x s->Kept [some g] w w'->w'.heap.size=w.heap.size->wpList Tryz.prog ops Q rest (a.put op.dst undef) w'):wpList Tryz.prog ops Q (op::rest) a w:=
 En h (hs.trans (Le x s).symm) hgd _ y z ho hx hy GU (aY h1 s) hk
theorem CR {fn:Func} {t:Tmp} (h:fn.results= #[.cell t 43]) {tmps:Array Value} (ht:tmps.getD t undef=.pointer (some ⟨g,0,none⟩)) (hb:Aj w g x s):(results fn tmps).run Tryz.prog w=.ok (.agg (scA x s)) w:=by
 obtain⟨d,hu,hd⟩:=JG
 have hl:=run_loadVar_mid (P:=Tryz.prog) w g 0 43 (scA x s).toList d (Box.rangeAt hb) hu hd GU
 have ht':tmps[t]?.getD undef=.pointer (some ⟨g,0,none⟩):=by simpa using ht
 simp [results,h,ht',asAddr,hl]
end
end Go.Proofs.YtoaabebgmdbjeaaGreatDoor
namespace Go.Proofs.YtoaabebgmdbjeaaGreatDoor
open Go Go.RowKit
section
variable {P:Program} {ops:Array Oper} {rest:List Oper} {o:Oper} {a:Act} {w:World} {Q:Exit->Act->World->Prop}
theorem Ak {x:Value} {s:SN.Sc} (hgd:o.guard=none) (y:Operand) (ho:o.op=.box 43 y) (hy:a.eval y=.agg (scA x s))
  (hk: ∀g w',Aj w' g x s->Below w.heap.size w w'->w.heap.size<=g->wpList P ops Q rest (a.put o.dst (.pointer (some ⟨g,0,none⟩))) w'):wpList P ops Q (o::rest) a w:=by
 refine wpList_plain hgd fun K hK=>?_
 unfold Oper.wp execOp
 simp only [ho,hy]
 have:=hk w.heap.size (w.alloc (.cells (scA x s) 43)) (Box.new w _ _) ((Below.refl _ _).alloc (Nat.le_refl _) _) (Nat.le_refl _)
 go_simp
 exact hK _ _ this
theorem BQ (hgd:o.guard=none) (ho:o.op=.alloc 43)
  (hk: ∀g w' cs,Box w' g 43 cs->cs.size=29->Below w.heap.size w w'->w.heap.size<=g->wpList Tryz.prog ops Q rest (a.put o.dst (.pointer (some ⟨g,0,none⟩))) w'):wpList Tryz.prog ops Q (o::rest) a w:=by
 refine wpList_plain hgd fun K hK=>?_
 unfold Oper.wp execOp
 simp only [ho]
 have:=fun cs hs=>hk w.heap.size (w.alloc (.cells cs 43)) cs (Box.new w _ _) hs ((Below.refl _ _).alloc (Nat.le_refl _) _) (Nat.le_refl _)
 go_simp
 exact hK _ _ (this _ rfl)
def ko (w:World) (g:Nat) (cs:Array Value):Prop:=Box w g 29 cs/\cs.size=13
theorem Mf {cs:Array Value} (hsz:cs.size=13) (hgd:o.guard=none) (y:Operand) (ho:o.op=.box 29 y) (hy:a.eval y=.agg cs)
  (hk: ∀g w',ko w' g cs->Below w.heap.size w w'->w.heap.size<=g->wpList P ops Q rest (a.put o.dst (.pointer (some ⟨g,0,none⟩))) w'):wpList P ops Q (o::rest) a w:=by
 refine wpList_plain hgd fun K hK=>?_
 unfold Oper.wp execOp
 simp only [ho,hy]
 have:=hk w.heap.size (w.alloc (.cells cs 29)) ⟨Box.new w _ _,hsz⟩ ((Below.refl _ _).alloc (Nat.le_refl _) _) (Nat.le_refl _)
 go_simp
 exact hK _ _ this
theorem ah:(Tryz.prog.info? 29).map (·.size)=some 13:=by kernel_rfl
theorem gy: ∃d,Tryz.prog.underlying 29=some d/\d.isRow=true:=⟨_,Tryz.underlying29,rfl⟩
theorem Lf {cs:Array Value} {g:Nat} (h:ko w g cs) (hgd:o.guard=none) (y:Operand) (ho:o.op=.load 29 y) (hx:a.eval y=.pointer (some ⟨g,0,none⟩))
  (hk:wpList Tryz.prog ops Q rest (a.put o.dst (.agg cs)) w):wpList Tryz.prog ops Q (o::rest) a w:=by
 obtain⟨d,hu,hd⟩:=gy
 exact G6 h.1 hgd _ y ho hx d hu hd (by rw [h.2];exact ah) hk
theorem Pt (hgd:o.guard=none) (v:Value) (h:(execOp a.eval o).run P w=.ok (.value v) w) (hk:wpList P ops Q rest (a.put o.dst v) w):wpList P ops Q (o::rest) a w:=by
 refine wpList_plain hgd fun K hK=>?_
 unfold Oper.wp
 rw [h]
 exact hK _ _ hk
theorem Rl:(Tryz.prog.info? 41).map (·.size)=some 9:=by kernel_rfl
theorem G9 {x:Value} {s:SN.Sc} {g:Nat} (h:Aj w g x s) (v:SN.Sv) (hgd:o.guard=none) (y z:Operand) (ho:o.op=.store 41 y z) (hx:a.eval y=.pointer (some ⟨g,20,none⟩))
  (hy:a.eval z=.agg #[.int .i64 v.row,.int .i64 v.col,.int .i64 v.pen.1,.int .i64 v.pen.2.1,.int .i64 v.pen.2.2,.int .u8 v.s0,.int .u8 v.s1,.int .i64 v.sh,.bool v.org])
  (hk: ∀w',Aj w' g x (s.uV v)->Kept [some g] w w'->w'.heap.size=w.heap.size->wpList Tryz.prog ops Q rest (a.put o.dst undef) w'):wpList Tryz.prog ops Q (o::rest) a w:=
 Fj 20 h (by show 20+9<=(scA x s).size;rw [Le];decide) hgd _ y z ho hx hy Rl (by simp [Value.oneCell']) (fun w' h1 h2 h3=>hk w' (by
  have e:=Xx x s v
  show Box w' g _ _
  rw [<- e]
  exact h1) h2 h3)
end
end Go.Proofs.YtoaabebgmdbjeaaGreatDoor
namespace Go.Proofs.YtoaabebgmdbjeaaGreatDoor
open Go.RowKit
def IsS (w:World) (S:SN.Sc) (v:Value):Prop:= ∃x,v=.agg (scA x S)/\IsG w S.g (gv S.g.rows S.g.AB x)
def Au (w:World) (S:SN.Sc) (e:Ending) (w':World):Prop:= ∃v,e=.returned v/\IsS w' S v/\Below w.heap.size w w'
theorem Ac {w:World} {G:PG.Gr} {x:Value} (h:IsG w G (gv G.rows G.AB x)): ∃A c,x=.slice A (G.rows*G.AB) c:=by
 obtain⟨A,c,e,_⟩:=h.open_
 simp only [gv,Value.agg.injEq] at e
 injection e with e
 simp only [List.cons.injEq] at e
 exact⟨A,c,e.2.2.1⟩
theorem Jh {w:World} {G:PG.Gr} {A:Option Addr} {n c:Nat} (h:IsG w G (gv G.rows G.AB (.slice A n c))):BD w w.heap.size A n (PG.cells G)/\n=G.rows*G.AB/\n<=c:=by
 obtain⟨A',c',e,hs,hc,_⟩:=h.open_
 simp only [gv,Value.agg.injEq] at e
 injection e with e
 simp only [List.cons.injEq] at e
 have e3:=e.2.2.1
 injection e3 with e4 e5 e6
 subst e4 e5 e6
 exact⟨hs,rfl,hc⟩
end Go.Proofs.YtoaabebgmdbjeaaGreatDoor
namespace Go.Proofs.YtoaabebgmdbjeaaGreatDoor
open Go.RowKit
def SN.pin (z:Int) (R:Nat):Nat:=(min (max z 0) ((R:Int)-1)).toNat
def SN.atS (s:SN.Sc) (r c:Int):SN.Sc:=((s.u3 (SN.pin r s.g.rows)).u4 (SN.pin c s.g.AB)).u5 false
end Go.Proofs.YtoaabebgmdbjeaaGreatDoor
namespace Go.Proofs.YtoaabebgmdbjeaaGreatDoor
open Go.RowKit
namespace SN
def cut (z:Int) (m:Nat):Nat:=(min (max z 1) (m:Int)).toNat
structure Rw where
 g:PG.Gr
 row:Int
 col:Int
 pend:Bool
 top:Int
 bot:Int
 pen:PG.Pn
 tabs:Nat
 s0:Int
 s1:Int
 sh:Int
 wrap:Bool
 org:Bool
 shown:Bool
 keys:Bool
 pad:Bool
 Pv:Int
 Pw:Int
 IK:PG.Pn
 t0:Int
 t1:Int
 th:Int
 so:Bool
def ku (x y h:Int):Bool:=(x==66||x==48)&&(y==66||y==48)&&(h==0||h==1)
def X5 (g:PG.Gr) (r c:Int):Bool:=decide (0<=r/\r<g.rows)&&decide (0<=c/\c<g.AB)
def Rw.right (q:Rw):Bool:=X5 q.g q.row q.col&&(decide (0<=q.top/\q.top<q.bot/\q.bot<q.g.rows)||decide (q.g.rows=1/\q.top=0/\q.bot=0))&&C.right q.pen.1 q.pen.2.1 q.pen.2.2&&ku q.s0 q.s1 q.sh&&(!q.pend||(q.wrap&&decide (q.col+1=q.g.AB)))&&X5 q.g q.Pv q.Pw&&C.right q.IK.1 q.IK.2.1 q.IK.2.2&&ku q.t0 q.t1 q.th
def Rw.same (a b:Rw):Bool:=a.row==b.row&&a.col==b.col&&a.pend==b.pend&&a.top==b.top&&a.bot==b.bot&&decide (a.pen=b.pen)&&a.tabs==b.tabs&&a.s0==b.s0&&a.s1==b.s1&&a.sh==b.sh&&a.wrap==b.wrap&&a.org==b.org&&a.shown==b.shown&&a.keys==b.keys&&a.pad==b.pad&&
 (a.Pv==b.Pv&&a.Pw==b.Pw&&decide (a.IK=b.IK)&&a.t0==b.t0&&a.t1==b.t1&&a.th==b.th&&a.so==b.so)
end SN
def rwA (x:Value) (q:SN.Rw):Array Value:= #[.int .i64 q.g.rows,.int .i64 q.g.AB,x,.int .i64 q.row,.int .i64 q.col,.bool q.pend,.int .i64 q.top,.int .i64 q.bot,.int .i64 q.pen.1,.int .i64 q.pen.2.1,.int .i64 q.pen.2.2,.int .u64 q.tabs,.int .u8 q.s0,.int .u8 q.s1,.int .i64 q.sh,.bool q.wrap,.bool q.org,.bool q.shown,.bool q.keys,.bool q.pad,
 .int .i64 q.Pv,.int .i64 q.Pw,.int .i64 q.IK.1,.int .i64 q.IK.2.1,.int .i64 q.IK.2.2,.int .u8 q.t0,.int .u8 q.t1,.int .i64 q.th,.bool q.so]
end Go.Proofs.YtoaabebgmdbjeaaGreatDoor
namespace Go.Proofs.YtoaabebgmdbjeaaGreatDoor
open Go Go.RowKit
def Bd (w:World) (g:Nat) (x:Value) (q:SN.Rw):Prop:=Box w g 43 (rwA x q)
section
variable {w:World} {g:Nat} {x:Value} {q:SN.Rw}
theorem Bd.c0 (h:Bd w g x q):w.cell? ⟨g,0,none⟩=some (.int .i64 q.g.rows):=Box.cell h 0
theorem Bd.c1 (h:Bd w g x q):w.cell? ⟨g,1,none⟩=some (.int .i64 q.g.AB):=Box.cell h 1
theorem Bd.c2 (h:Bd w g x q):w.cell? ⟨g,2,none⟩=some (x):=Box.cell h 2
theorem Bd.c3 (h:Bd w g x q):w.cell? ⟨g,3,none⟩=some (.int .i64 q.row):=Box.cell h 3
theorem Bd.c4 (h:Bd w g x q):w.cell? ⟨g,4,none⟩=some (.int .i64 q.col):=Box.cell h 4
theorem Bd.c5 (h:Bd w g x q):w.cell? ⟨g,5,none⟩=some (.bool q.pend):=Box.cell h 5
theorem Bd.c6 (h:Bd w g x q):w.cell? ⟨g,6,none⟩=some (.int .i64 q.top):=Box.cell h 6
theorem Bd.c7 (h:Bd w g x q):w.cell? ⟨g,7,none⟩=some (.int .i64 q.bot):=Box.cell h 7
theorem Bd.c8 (h:Bd w g x q):w.cell? ⟨g,8,none⟩=some (.int .i64 q.pen.1):=Box.cell h 8
theorem Bd.c9 (h:Bd w g x q):w.cell? ⟨g,9,none⟩=some (.int .i64 q.pen.2.1):=Box.cell h 9
theorem Bd.c10 (h:Bd w g x q):w.cell? ⟨g,10,none⟩=some (.int .i64 q.pen.2.2):=Box.cell h 10
theorem Bd.c11 (h:Bd w g x q):w.cell? ⟨g,11,none⟩=some (.int .u64 q.tabs):=Box.cell h 11
theorem Bd.c12 (h:Bd w g x q):w.cell? ⟨g,12,none⟩=some (.int .u8 q.s0):=Box.cell h 12
theorem Bd.c13 (h:Bd w g x q):w.cell? ⟨g,13,none⟩=some (.int .u8 q.s1):=Box.cell h 13
theorem Bd.c14 (h:Bd w g x q):w.cell? ⟨g,14,none⟩=some (.int .i64 q.sh):=Box.cell h 14
theorem Bd.c15 (h:Bd w g x q):w.cell? ⟨g,15,none⟩=some (.bool q.wrap):=Box.cell h 15
theorem Bd.c16 (h:Bd w g x q):w.cell? ⟨g,16,none⟩=some (.bool q.org):=Box.cell h 16
theorem Bd.c17 (h:Bd w g x q):w.cell? ⟨g,17,none⟩=some (.bool q.shown):=Box.cell h 17
theorem Bd.c18 (h:Bd w g x q):w.cell? ⟨g,18,none⟩=some (.bool q.keys):=Box.cell h 18
theorem Bd.c19 (h:Bd w g x q):w.cell? ⟨g,19,none⟩=some (.bool q.pad):=Box.cell h 19
theorem Bd.c20 (h:Bd w g x q):w.cell? ⟨g,20,none⟩=some (.int .i64 q.Pv):=Box.cell h 20
theorem Bd.c21 (h:Bd w g x q):w.cell? ⟨g,21,none⟩=some (.int .i64 q.Pw):=Box.cell h 21
theorem Bd.c22 (h:Bd w g x q):w.cell? ⟨g,22,none⟩=some (.int .i64 q.IK.1):=Box.cell h 22
theorem Bd.c23 (h:Bd w g x q):w.cell? ⟨g,23,none⟩=some (.int .i64 q.IK.2.1):=Box.cell h 23
theorem Bd.c24 (h:Bd w g x q):w.cell? ⟨g,24,none⟩=some (.int .i64 q.IK.2.2):=Box.cell h 24
theorem Bd.c25 (h:Bd w g x q):w.cell? ⟨g,25,none⟩=some (.int .u8 q.t0):=Box.cell h 25
theorem Bd.c26 (h:Bd w g x q):w.cell? ⟨g,26,none⟩=some (.int .u8 q.t1):=Box.cell h 26
theorem Bd.c27 (h:Bd w g x q):w.cell? ⟨g,27,none⟩=some (.int .i64 q.th):=Box.cell h 27
theorem Bd.c28 (h:Bd w g x q):w.cell? ⟨g,28,none⟩=some (.bool q.so):=Box.cell h 28
theorem Bd.fz (h:Bd w g x q) (i:Nat):w.frozen? ⟨g,i,none⟩=false:=Box.frozen h i
theorem Bd.lt (h:Bd w g x q):g<w.heap.size:=Box.lt h
theorem Bd.kept {L:List (Option Nat)} {w':World} (h:Bd w g x q) (k:Kept L w w') (hg:some g∉L):Bd w' g x q:=Box.kept h k hg
theorem Bd.below {B:Nat} {w':World} (h:Bd w g x q) (hb:Below B w w') (hg:g<B):Bd w' g x q:=Box.below h hb hg
theorem Bd.alloc (h:Bd w g x q) (o:Obj):Bd (w.alloc o) g x q:=Box.alloc h o
variable {P:Program} {ops:Array Oper} {rest:List Oper} {o:Oper} {a:Act} {Q:Exit->Act->World->Prop}
end
end Go.Proofs.YtoaabebgmdbjeaaGreatDoor
namespace Go.Proofs.YtoaabebgmdbjeaaGreatDoor.SN
end Go.Proofs.YtoaabebgmdbjeaaGreatDoor.SN
namespace Go.Proofs.YtoaabebgmdbjeaaGreatDoor
open Go.RowKit
theorem Px {c:Int} (hc:0<=c):IntKind.u64.wrap (2 ^ min c.toNat 64)=((TB.GD c:Nat):Int):=by
 unfold TB.GD
 by_cases h:TB.col c
 ·rw [if_pos h]
  unfold TB.col at h
  have hp:=TB.RH (c:=c.toNat) (by omega)
  have e:(2:Int) ^ min c.toNat 64=((2 ^ c.toNat:Nat):Int):=by
   rw [show min c.toNat 64=c.toNat by omega]
   simp
  rw [e,IntKind.wrap_u64]
  generalize 2 ^ c.toNat=q at hp
  omega
 ·rw [if_neg h]
  unfold TB.col at h
  rw [show min c.toNat 64=64 by omega]
  decide
theorem aj (c:Int) (w:World) (h0: -9223372036854775808<=c) (h1:c<=9223372036854775807):Calls Tryz.prog 162 #[.int .i64 c] w fun e w'=>e=.returned (.int .u64 (TB.GD c:Nat))/\w=w':=by
 by_cases hc:0<=c
 ·go_enter Tryz.func162,Tryz.ntmps162
  go_wp2
  go_ret
  exact⟨CX (Px hc),rfl⟩
 ·go_enter Tryz.func162,Tryz.ntmps162
  go_wp2
  go_ret
  refine⟨CX ?_,rfl⟩
  rw [Px (by rw [IntKind.wrap_u64];omega)]
  unfold TB.GD
  rw [if_neg (by unfold TB.col;rw [IntKind.wrap_u64];omega),if_neg (by unfold TB.col;omega)]
theorem Rm (c:Int) (n:Nat) (hn:TB.GD c=n) (w:World) (h0: -9223372036854775808<=c) (h1:c<=9223372036854775807):Calls Tryz.prog 162 #[.int .i64 c] w fun e w'=>e=.returned (.int .u64 n)/\w=w':=by
 subst hn
 exact aj c w h0 h1
theorem VI (c:Int) (w:World) (h0: -9223372036854775808<=c) (h1:c<=9223372036854775807):Calls Tryz.prog 131 #[.int .i64 c] w fun e w'=>e=.returned (.int .u64 (TB.Cc c:Nat))/\w=w':=by
 obtain⟨d,hd,hd0,hd1⟩: ∃d:Int,max c 0=d/\0<=d/\d<=9223372036854775807:=⟨_,rfl,by omega,by omega⟩
 have E:TB.Cc c=TB.Cc d:=by
  unfold TB.Cc
  rw [show d.toNat=c.toNat by omega]
 have W:IntKind.u64.wrap ((TB.GD d:Nat)-1:Int)=((TB.Cc d:Nat):Int):=by
  have h1:=TB.Gl d
  unfold TB.Ok at h1
  rw [IntKind.wrap_u64]
  rcases TB.Ut hd0 with h | ⟨h,h'⟩
  ·omega
  ·rw [h,h']
   decide
 rw [E]
 have HB:=hide fun w'=>Rm d _ rfl w' (by omega) hd1
 have HW:=hide W
 generalize TB.GD d=x at HB HW
 generalize TB.Cc d=y at HW
 clear E W
 by_cases hc:0<=c
 ·obtain rfl:d=c:=by omega
  clear hd
  go_enter Tryz.func131,Tryz.ntmps131
  go_wp2_with fail
  refine(HB.out _).mono ?_
  rintro e w1 ⟨rfl,rfl⟩
  go_wp2_with fail
  go_ret
  exact⟨CX HW.out,rfl⟩
 ·obtain rfl:d=0:=by omega
  clear hd
  go_enter Tryz.func131,Tryz.ntmps131
  go_wp2_with fail
  refine(HB.out _).mono ?_
  rintro e w1 ⟨rfl,rfl⟩
  go_wp2_with fail
  go_ret
  exact⟨CX HW.out,rfl⟩
theorem Lg (c:Int) (n:Nat) (hn:TB.Cc c=n) (w:World) (h0: -9223372036854775808<=c) (h1:c<=9223372036854775807):Calls Tryz.prog 131 #[.int .i64 c] w fun e w'=>e=.returned (.int .u64 n)/\w=w':=by
 subst hn
 exact VI c w h0 h1
theorem u64_and {a b:Nat} (ha:TB.Ok a) (hb:TB.Ok b):bits .and .u64 (a:Int) (b:Int)=((a&&& b:Nat):Int):=u64_and_nat a b ha hb
theorem u64_or {a b:Nat} (ha:TB.Ok a) (hb:TB.Ok b):bits .or .u64 (a:Int) (b:Int)=((a||| b:Nat):Int):=u64_or_nat a b ha hb
theorem u64_andNot {a b:Nat} (ha:TB.Ok a) (hb:TB.Ok b):bits .andNot .u64 (a:Int) (b:Int)=((a&&& (18446744073709551615-b):Nat):Int):=u64_andNot_nat a b ha hb
theorem X6 (n:Int) (w:World) (h0:0<=n) (h1:n<=9223372036854775807):Calls Tryz.prog 96 #[.int .i64 n] w fun e w'=>e=.returned (.int .u64 (TB.news n.toNat:Nat))/\w=w':=by
 have HB:=hide fun w'=>Lg n _ rfl w' (by omega) h1
 have E1:=u64_and (show TB.Ok 72340172838076672 by unfold TB.Ok;omega) (TB.Gl n)
 rw [TB.XQ h0] at E1
 have E2:=hide (show bits .and .u64 72340172838076672 ((TB.Cc n:Nat):Int)=((TB.news n.toNat:Nat):Int) from E1)
 generalize TB.Cc n=x at HB E2
 generalize TB.news n.toNat=y at E2
 clear E1
 go_enter Tryz.func96,Tryz.ntmps96
 go_wp2_with fail
 refine(HB.out _).mono ?_
 rintro e w1 ⟨rfl,rfl⟩
 go_wp2_with fail
 go_ret
 exact⟨CX E2.out,rfl⟩
theorem ak (n:Int) (t:Nat) (ht:TB.news n.toNat=t) (w:World) (h0:0<=n) (h1:n<=9223372036854775807):Calls Tryz.prog 96 #[.int .i64 n] w fun e w'=>e=.returned (.int .u64 t)/\w=w':=by
 subst ht
 exact X6 n w h0 h1
theorem au (A:Option Addr) (n c B:Nat) (l:List Int) (w:World) (hA:Seen w B A n (l.map (Value.int .i64))) (hn:n<=1099511627776) (hl: ∀x∈l, -9223372036854775808<=x/\x<=9223372036854775807):
  Calls Tryz.prog 191 #[.slice A n c] w fun e w'=>e=.returned (.int .u64 (TB.puts 0 l:Nat))/\w=w':=by
 have hlen:l.length=n:=by simpa using hA.1
 have HA:=hide hA
 have HL:=hide hlen
 have HX:=hide hl
 clear hA hlen hl
 go_enter Tryz.func191,Tryz.ntmps191
 go_wp2
 go_loopw [3,8] (fun t i wr=> ∃k:Nat,k<=n/\i=.int .i64 k/\t=.int .u64 (TB.puts 0 (l.take k):Nat)/\wr=w) (fun _ i _=>n-(intOf i).toNat)
 case atStart=>exact⟨0,Nat.zero_le _,rfl,rfl,rfl⟩
 case round=>
  obtain⟨k,hk,rfl,rfl,rfl⟩:=hrel
  by_cases hlt:k<n
  ·obtain⟨ad,u,rfl,_,hu,hc⟩:=HA.out.at_ hlt
   rw [List.getElem?_map] at hu
   obtain⟨x,hx,rfl⟩:=Option.map_eq_some_iff.1 hu
   obtain⟨x0,x1⟩:=HX.out x (List.mem_of_getElem? hx)
   have hs:=TB.Uv 0 (l.take k) x
   rw [show l.take k++ [x] =l.take (k+1) from by rw [List.take_add_one,hx];rfl] at hs
   have E1:=u64_or (TB.Gt (l:=l.take k) TB.ok0) (TB.N8 x)
   rw [<- hs] at E1
   have E:=hide E1
   generalize TB.puts 0 (l.take k)=z at E
   have HB:=hide fun w'=>Rm x _ rfl w' x0 x1
   generalize TB.GD x=y at HB E
   clear hu hx hs E1 x0 x1
   go_wp2_with fail
   refine(HB.out _).mono ?_
   rintro e w1 ⟨rfl,rfl⟩
   go_wp2_with fail
   go_roundw
   case rel=>exact⟨k+1,by omega,by go_num,by rw [E.out],by first | rfl | trivial⟩
   case measure=>simp [intOf];omega
  ·obtain rfl:k=n:=by omega
   have e:l.take k=l:=List.take_of_length_le (by rw [HL.out];omega)
   rw [e]
   generalize hz:TB.puts 0 l=z
   have HZ:=hide hz
   clear hz
   go_wp2
   go_ret
   exact⟨CX (by rw [HZ.out]),rfl⟩
theorem X7 (A:Option Addr) (n c B:Nat) (l:List Int) (z:Nat) (hz:TB.puts 0 l=z) (w:World) (hA:Seen w B A n (l.map (Value.int .i64))) (hn:n<=1099511627776) (hl: ∀x∈l, -9223372036854775808<=x/\x<=9223372036854775807):
  Calls Tryz.prog 191 #[.slice A n c] w fun e w'=>e=.returned (.int .u64 z)/\w=w':=by
 subst hz
 exact au A n c B l w hA hn hl
theorem iA (t:Nat) (A:Option Addr) (n c B:Nat) (l:List Int) (z:Nat) (hz:TB.puts t l=z) (w:World) (ht:TB.Ok t) (hA:Seen w B A n (l.map (Value.int .i64))) (hn:n<=1099511627776) (hl: ∀x∈l, -9223372036854775808<=x/\x<=9223372036854775807):
  Calls Tryz.prog 167 #[.int .u64 t,.slice A n c] w fun e w'=>e=.returned (.int .u64 z)/\w=w':=by
 subst hz
 have HB:=hide fun w' (h:Seen w' B A n (l.map (Value.int .i64)))=>X7 A n c B l _ rfl w' h hn hl
 have E1:=u64_or ht (TB.Gt (l:=l) TB.ok0)
 rw [TB.aO ht] at E1
 have E:=hide E1
 have HT:=hide ht
 have HA:=hide hA
 generalize TB.puts 0 l=x at HB E
 generalize TB.puts t l=y at E
 clear hA hl E1 ht
 go_enter Tryz.func167,Tryz.ntmps167
 go_wp2_with fail
 refine(HB.out _ HA.out).mono ?_
 rintro e w1 ⟨rfl,rfl⟩
 go_wp2_with fail
 go_ret
 exact⟨CX E.out,rfl⟩
theorem ay (t:Nat) (A:Option Addr) (n c B:Nat) (l:List Int) (z:Nat) (hz:TB.drops t l=z) (w:World) (ht:TB.Ok t) (hA:Seen w B A n (l.map (Value.int .i64))) (hn:n<=1099511627776) (hl: ∀x∈l, -9223372036854775808<=x/\x<=9223372036854775807):
  Calls Tryz.prog 219 #[.int .u64 t,.slice A n c] w fun e w'=>e=.returned (.int .u64 z)/\w=w':=by
 subst hz
 have HB:=hide fun w' (h:Seen w' B A n (l.map (Value.int .i64)))=>X7 A n c B l _ rfl w' h hn hl
 have E1:=u64_andNot ht (TB.Gt (l:=l) TB.ok0)
 rw [TB.Uw ht] at E1
 have E:=hide E1
 have HT:=hide ht
 have HA:=hide hA
 generalize TB.puts 0 l=x at HB E
 generalize TB.drops t l=y at E
 clear hA hl E1 ht
 go_enter Tryz.func219,Tryz.ntmps219
 go_wp2_with fail
 refine(HB.out _ HA.out).mono ?_
 rintro e w1 ⟨rfl,rfl⟩
 go_wp2_with fail
 go_ret
 exact⟨CX E.out,rfl⟩
def Ji (w:World):Prop:=TabAt 4 Lib.deBruijn64tab w
theorem Ji.keep {w w':World} (h:Ji w) (hb:Below w.heap.size w w'):Ji w':=fun j hj=>by
 have hc:=h j hj
 rw [<- hc]
 exact World.cell?_of_block (hb.block _ (World.block_lt_of_cell? w _ hc))
theorem Ji.drewN {w:World} (h:Ji w) (k:Nat):Ji (w.drewN k):=h
theorem bA (x k idx:Nat) (w:World) (hx0:((x:Int)==0)=false)
  (key:IntKind.u64.wrap (bits BinOp.and IntKind.u64 (x:Int) (IntKind.u64.wrap (-(x:Int)))*285870213051353865) / 288230376151711744=(idx:Int))
  (hi:idx<64) (hk:k<64) (hcell:w.cell? ⟨4,idx,none⟩=some (.int .u8 k)):
  Calls Tryz.prog 163 #[.int .u64 x] w fun e w'=>e=.returned (.int .i64 k)/\w=w':=by
 go_enter Tryz.func163,Tryz.ntmps163
 go_wp2_with (simp only [key])
 go_ret
 exact⟨rfl,rfl⟩
theorem iB (x:Nat) (hx:TB.Ok x) (h0:x≠0) (w:World) (hT:Ji w):Calls Tryz.prog 163 #[.int .u64 x] w fun e w'=>e=.returned (.int .i64 (Lib.ctz 64 x:Nat))/\w=w':=by
 obtain⟨hlow,hk⟩:=Lib.lowest_bit 64 x h0 hx
 obtain⟨hi,htab⟩:=Lib.deBruijn64_at _ hk
 have hcell:=hT _ hi
 rw [htab] at hcell
 exact bA x _ _ w (by simp;omega) (tz64_key x _ hx h0 hlow) hi hk hcell
theorem X8 (t:Nat) (c k:Nat) (z:Nat) (hz:TB.next t c k=z) (w:World) (ht:TB.Ok t) (hT:Ji w) (hc:c<=1000) (h1:1<=k) (h2:k<=64):
  Calls Tryz.prog 133 #[.int .u64 t,.int .i64 c,.int .i64 k] w fun e w'=>e=.returned (.int .i64 z)/\w=w':=by
 have HK:=hide fun w'=>Lg k _ rfl w' (by omega) (by omega)
 have HC:=hide fun w'=>Lg c _ rfl w' (by omega) (by omega)
 have HB:=hide fun w'=>Rm c _ rfl w' (by omega) (by omega)
 have E1:=hide (u64_and ht (TB.Gl k))
 have E2:=hide (u64_andNot (TB.IB ht (b:=TB.Cc k)) (TB.Gl c))
 have E3:=hide (u64_andNot (TB.IB (TB.IB ht (b:=TB.Cc k)) (b:=18446744073709551615-TB.Cc c)) (TB.N8 c))
 have E4:=hide (show((t&&& TB.Cc k)&&& (18446744073709551615-TB.Cc c))&&& (18446744073709551615-TB.GD c)=TB.behind t c k from rfl)
 have B0:TB.behind t c k=0->z=k-1:=fun h=>by rw [<- hz];exact TB.PY h2 h
 have B1:TB.behind t c k≠0->Lib.ctz 64 (TB.behind t c k)=z:=fun h=>by rw [<- hz];exact TB.PZ ht h
 have hbo:=TB.NH ht c k
 generalize TB.behind t c k=b at E4 B0 B1 hbo
 generalize TB.Cc k=xk at HK E1 E2 E3 E4
 generalize TB.Cc c=xc at HC E2 E3 E4
 generalize TB.GD c=xb at HB E3 E4
 generalize t&&& xk=y1 at E1 E2 E3 E4
 generalize y1&&& (18446744073709551615-xc)=y2 at E2 E3 E4
 generalize y2&&& (18446744073709551615-xb)=y3 at E3 E4
 obtain rfl:y3=b:=E4.out
 have TZ:y3≠0-> ∀w',Ji w'->Calls Tryz.prog 163 #[.int .u64 y3] w' fun e w1=>e=.returned (.int .i64 z)/\w'=w1:=fun h w' hw=>by
  rw [<- B1 h]
  exact iB y3 hbo h w' hw
 have HT:=hide hT
 clear ht hT hbo hz B1
 rcases Nat.eq_zero_or_pos y3 with h | h
 ·subst h
  have hz:=B0 rfl
  have hz':(k:Int)-1=(z:Int):=by omega
  have HZ:=hide hz'
  have E3':=hide (show bits .andNot .u64 (y2:Int) (xb:Int)=0 from E3.out)
  clear B0 TZ hz hz' E3 E4
  go_enter Tryz.func133,Tryz.ntmps133
  go_wp2_with fail
  refine(HK.out _).mono ?_
  rintro e w1 ⟨rfl,rfl⟩
  go_wp2_with fail
  refine(HC.out _).mono ?_
  rintro e w1 ⟨rfl,rfl⟩
  go_wp2_with fail
  refine(HB.out _).mono ?_
  rintro e w1 ⟨rfl,rfl⟩
  rw [E1.out,E2.out]
  go_wp2_with (simp only [E3'.out])
  go_ret
  exact⟨CX HZ.out,rfl⟩
 ·have TZ':=hide (TZ (by omega))
  have h':((y3:Int)==0)=false:=by simp;omega
  clear TZ B0 E4
  go_enter Tryz.func133,Tryz.ntmps133
  go_wp2_with fail
  refine(HK.out _).mono ?_
  rintro e w1 ⟨rfl,rfl⟩
  go_wp2_with fail
  refine(HC.out _).mono ?_
  rintro e w1 ⟨rfl,rfl⟩
  go_wp2_with fail
  refine(HB.out _).mono ?_
  rintro e w1 ⟨rfl,rfl⟩
  rw [E1.out,E2.out]
  go_wp2_with (first | simp only [E3.out] | (refine(TZ'.out _ HT.out).mono ?_;rintro e w1 ⟨rfl,rfl⟩))
  go_ret
  exact⟨rfl,rfl⟩
end Go.Proofs.YtoaabebgmdbjeaaGreatDoor
namespace Go.Proofs.YtoaabebgmdbjeaaGreatDoor
open Go.RowKit
end Go.Proofs.YtoaabebgmdbjeaaGreatDoor
