/- A part of the proof: ScreenVal, TabsFun. -/
import Derived.Test.YtoaabebgmdbjeaaGreatDoorRq07
import Derived.Laws.ShiftsVar
import Derived.Shelf.Spec.TrailingZeros
set_option maxRecDepth 100000
set_option maxHeartbeats 16000000
set_option linter.unusedVariables false
namespace Go.Proofs.YtoaabebgmdbjeaaGreatDoor
open Go.RowKit
namespace SN.Sc
def u3 (s:SN.Sc) (v:Nat):SN.Sc:={s with row:=v}
def u4 (s:SN.Sc) (v:Nat):SN.Sc:={s with col:=v}
def u5 (s:SN.Sc) (v:Bool):SN.Sc:={s with pend:=v}
def u6 (s:SN.Sc) (v:Nat):SN.Sc:={s with top:=v}
def u7 (s:SN.Sc) (v:Nat):SN.Sc:={s with bot:=v}
def u8 (s:SN.Sc) (v:Int):SN.Sc:={s with pen:=(v,s.pen.2.1,s.pen.2.2)}
def u9 (s:SN.Sc) (v:Int):SN.Sc:={s with pen:=(s.pen.1,v,s.pen.2.2)}
def u10 (s:SN.Sc) (v:Int):SN.Sc:={s with pen:=(s.pen.1,s.pen.2.1,v)}
def u11 (s:SN.Sc) (v:Nat):SN.Sc:={s with tabs:=v}
def u12 (s:SN.Sc) (v:Int):SN.Sc:={s with s0:=v}
def u13 (s:SN.Sc) (v:Int):SN.Sc:={s with s1:=v}
def u14 (s:SN.Sc) (v:Int):SN.Sc:={s with sh:=v}
def u15 (s:SN.Sc) (v:Bool):SN.Sc:={s with wrap:=v}
def u16 (s:SN.Sc) (v:Bool):SN.Sc:={s with org:=v}
def u17 (s:SN.Sc) (v:Bool):SN.Sc:={s with shown:=v}
def u18 (s:SN.Sc) (v:Bool):SN.Sc:={s with keys:=v}
def u19 (s:SN.Sc) (v:Bool):SN.Sc:={s with pad:=v}
def u20 (s:SN.Sc) (v:Nat):SN.Sc:={s with sv:={s.sv with row:=v}}
def u21 (s:SN.Sc) (v:Nat):SN.Sc:={s with sv:={s.sv with col:=v}}
def u22 (s:SN.Sc) (v:Int):SN.Sc:={s with sv:={s.sv with pen:=(v,s.sv.pen.2.1,s.sv.pen.2.2)}}
def u23 (s:SN.Sc) (v:Int):SN.Sc:={s with sv:={s.sv with pen:=(s.sv.pen.1,v,s.sv.pen.2.2)}}
def u24 (s:SN.Sc) (v:Int):SN.Sc:={s with sv:={s.sv with pen:=(s.sv.pen.1,s.sv.pen.2.1,v)}}
def u25 (s:SN.Sc) (v:Int):SN.Sc:={s with sv:={s.sv with s0:=v}}
def u26 (s:SN.Sc) (v:Int):SN.Sc:={s with sv:={s.sv with s1:=v}}
def u27 (s:SN.Sc) (v:Int):SN.Sc:={s with sv:={s.sv with sh:=v}}
def u28 (s:SN.Sc) (v:Bool):SN.Sc:={s with sv:={s.sv with org:=v}}
def uG (s:SN.Sc) (v:PG.Gr):SN.Sc:={s with g:=v}
def uP (s:SN.Sc) (v:PG.Pn):SN.Sc:={s with pen:=v}
def uS (s:SN.Sc) (a b:Int):SN.Sc:={s with s0:=a,s1:=b}
def uV (s:SN.Sc) (v:SN.Sv):SN.Sc:={s with sv:=v}
end SN.Sc
def scA (x:Value) (s:SN.Sc):Array Value:= #[.int .i64 s.g.rows,.int .i64 s.g.AB,x,.int .i64 s.row,.int .i64 s.col,.bool s.pend,.int .i64 s.top,.int .i64 s.bot,.int .i64 s.pen.1,.int .i64 s.pen.2.1,.int .i64 s.pen.2.2,.int .u64 s.tabs,.int .u8 s.s0,.int .u8 s.s1,.int .i64 s.sh,.bool s.wrap,.bool s.org,.bool s.shown,.bool s.keys,.bool s.pad,.int .i64 s.sv.row,.int .i64 s.sv.col,.int .i64 s.sv.pen.1,.int .i64 s.sv.pen.2.1,.int .i64 s.sv.pen.2.2,.int .u8 s.sv.s0,.int .u8 s.sv.s1,.int .i64 s.sv.sh,.bool s.sv.org]
theorem KD (x:Value) (s:SN.Sc):(scA x s).size=29:=rfl
theorem U9 {x:Value} (hx:x.oneCell'=true) (s:SN.Sc):(scA x s).all (·.oneCell')=true:=by
 cases x<;>first | (simp [scA,Value.oneCell'];done) | (simp [Value.oneCell'] at hx)
theorem V3 (x:Value) (s:SN.Sc) (v:Nat):(scA x s).setIfInBounds 20 (.int .i64 (v:Nat))=scA x (s.u20 v):=rfl
theorem V4 (x:Value) (s:SN.Sc) (v:Nat):(scA x s).setIfInBounds 21 (.int .i64 (v:Nat))=scA x (s.u21 v):=rfl
theorem V5 (x:Value) (s:SN.Sc) (v:Int):(scA x s).setIfInBounds 22 (.int .i64 (v:Int))=scA x (s.u22 v):=rfl
theorem V6 (x:Value) (s:SN.Sc) (v:Int):(scA x s).setIfInBounds 23 (.int .i64 (v:Int))=scA x (s.u23 v):=rfl
theorem V7 (x:Value) (s:SN.Sc) (v:Int):(scA x s).setIfInBounds 24 (.int .i64 (v:Int))=scA x (s.u24 v):=rfl
theorem V8 (x:Value) (s:SN.Sc) (v:Int):(scA x s).setIfInBounds 25 (.int .u8 (v:Int))=scA x (s.u25 v):=rfl
theorem V9 (x:Value) (s:SN.Sc) (v:Int):(scA x s).setIfInBounds 26 (.int .u8 (v:Int))=scA x (s.u26 v):=rfl
theorem WA (x:Value) (s:SN.Sc) (v:Int):(scA x s).setIfInBounds 27 (.int .i64 (v:Int))=scA x (s.u27 v):=rfl
theorem WE (x:Value) (s:SN.Sc) (v:Bool):(scA x s).setIfInBounds 28 (.bool v)=scA x (s.u28 v):=rfl
theorem Yq (x y:Value) (s:SN.Sc) (g:PG.Gr):QJ (scA x s) 0 [.int .i64 g.rows,.int .i64 g.AB,y] =scA y (s.uG g):=rfl
theorem Yr (x:Value) (s:SN.Sc) (v:SN.Sv):QJ (scA x s) 20 [.int .i64 v.row,.int .i64 v.col,.int .i64 v.pen.1,.int .i64 v.pen.2.1,.int .i64 v.pen.2.2,.int .u8 v.s0,.int .u8 v.s1,.int .i64 v.sh,.bool v.org] =scA x (s.uV v):=by
 simp only [QJ]
 rw [V3,V4,V5,V6,V7,V8,V9,WA,WE]
 simp only [SN.Sc.u20,SN.Sc.u21,SN.Sc.u22,SN.Sc.u23,SN.Sc.u24,SN.Sc.u25,SN.Sc.u26,SN.Sc.u27,SN.Sc.u28,SN.Sc.uV]
def Am (w:World) (g:Nat) (x:Value) (s:SN.Sc):Prop:=Box w g 43 (scA x s)
section
variable {w:World} {g:Nat} {x:Value} {s:SN.Sc}
theorem Am.c0 (h:Am w g x s):w.cell? ⟨g,0,none⟩=some (.int .i64 s.g.rows):=Box.cell h 0
theorem Am.c1 (h:Am w g x s):w.cell? ⟨g,1,none⟩=some (.int .i64 s.g.AB):=Box.cell h 1
theorem Am.c2 (h:Am w g x s):w.cell? ⟨g,2,none⟩=some (x):=Box.cell h 2
theorem Am.c3 (h:Am w g x s):w.cell? ⟨g,3,none⟩=some (.int .i64 s.row):=Box.cell h 3
theorem Am.c4 (h:Am w g x s):w.cell? ⟨g,4,none⟩=some (.int .i64 s.col):=Box.cell h 4
theorem Am.c5 (h:Am w g x s):w.cell? ⟨g,5,none⟩=some (.bool s.pend):=Box.cell h 5
theorem Am.c6 (h:Am w g x s):w.cell? ⟨g,6,none⟩=some (.int .i64 s.top):=Box.cell h 6
theorem Am.c7 (h:Am w g x s):w.cell? ⟨g,7,none⟩=some (.int .i64 s.bot):=Box.cell h 7
theorem Am.c8 (h:Am w g x s):w.cell? ⟨g,8,none⟩=some (.int .i64 s.pen.1):=Box.cell h 8
theorem Am.c9 (h:Am w g x s):w.cell? ⟨g,9,none⟩=some (.int .i64 s.pen.2.1):=Box.cell h 9
theorem Am.c10 (h:Am w g x s):w.cell? ⟨g,10,none⟩=some (.int .i64 s.pen.2.2):=Box.cell h 10
theorem Am.c11 (h:Am w g x s):w.cell? ⟨g,11,none⟩=some (.int .u64 s.tabs):=Box.cell h 11
theorem Am.c12 (h:Am w g x s):w.cell? ⟨g,12,none⟩=some (.int .u8 s.s0):=Box.cell h 12
theorem Am.c13 (h:Am w g x s):w.cell? ⟨g,13,none⟩=some (.int .u8 s.s1):=Box.cell h 13
theorem Am.c14 (h:Am w g x s):w.cell? ⟨g,14,none⟩=some (.int .i64 s.sh):=Box.cell h 14
theorem Am.c15 (h:Am w g x s):w.cell? ⟨g,15,none⟩=some (.bool s.wrap):=Box.cell h 15
theorem Am.c16 (h:Am w g x s):w.cell? ⟨g,16,none⟩=some (.bool s.org):=Box.cell h 16
theorem Am.c17 (h:Am w g x s):w.cell? ⟨g,17,none⟩=some (.bool s.shown):=Box.cell h 17
theorem Am.c18 (h:Am w g x s):w.cell? ⟨g,18,none⟩=some (.bool s.keys):=Box.cell h 18
theorem Am.c19 (h:Am w g x s):w.cell? ⟨g,19,none⟩=some (.bool s.pad):=Box.cell h 19
theorem Am.c20 (h:Am w g x s):w.cell? ⟨g,20,none⟩=some (.int .i64 s.sv.row):=Box.cell h 20
theorem Am.c21 (h:Am w g x s):w.cell? ⟨g,21,none⟩=some (.int .i64 s.sv.col):=Box.cell h 21
theorem Am.c22 (h:Am w g x s):w.cell? ⟨g,22,none⟩=some (.int .i64 s.sv.pen.1):=Box.cell h 22
theorem Am.c23 (h:Am w g x s):w.cell? ⟨g,23,none⟩=some (.int .i64 s.sv.pen.2.1):=Box.cell h 23
theorem Am.c24 (h:Am w g x s):w.cell? ⟨g,24,none⟩=some (.int .i64 s.sv.pen.2.2):=Box.cell h 24
theorem Am.c25 (h:Am w g x s):w.cell? ⟨g,25,none⟩=some (.int .u8 s.sv.s0):=Box.cell h 25
theorem Am.c26 (h:Am w g x s):w.cell? ⟨g,26,none⟩=some (.int .u8 s.sv.s1):=Box.cell h 26
theorem Am.c27 (h:Am w g x s):w.cell? ⟨g,27,none⟩=some (.int .i64 s.sv.sh):=Box.cell h 27
theorem Am.c28 (h:Am w g x s):w.cell? ⟨g,28,none⟩=some (.bool s.sv.org):=Box.cell h 28
theorem Am.fz (h:Am w g x s) (i:Nat):w.frozen? ⟨g,i,none⟩=false:=Box.frozen h i
theorem Am.lt (h:Am w g x s):g<w.heap.size:=Box.lt h
theorem Am.Cq (h:Am w g x s) (v:Nat):Am (w.setCell ⟨g,3,none⟩ (.int .i64 (v:Nat))) g x (s.u3 v):=Box.set h 3 _
theorem Am.WG (h:Am w g x s) (v:Nat):Am (w.setCell ⟨g,4,none⟩ (.int .i64 (v:Nat))) g x (s.u4 v):=Box.set h 4 _
theorem Am.Jy (h:Am w g x s) (v:Bool):Am (w.setCell ⟨g,5,none⟩ (.bool v)) g x (s.u5 v):=Box.set h 5 _
theorem Am.dA (h:Am w g x s) (v:Nat):Am (w.setCell ⟨g,6,none⟩ (.int .i64 (v:Nat))) g x (s.u6 v):=Box.set h 6 _
theorem Am.Gv (h:Am w g x s) (v:Nat):Am (w.setCell ⟨g,7,none⟩ (.int .i64 (v:Nat))) g x (s.u7 v):=Box.set h 7 _
theorem Am.set8 (h:Am w g x s) (v:Int):Am (w.setCell ⟨g,8,none⟩ (.int .i64 (v:Int))) g x (s.u8 v):=Box.set h 8 _
theorem Am.set9 (h:Am w g x s) (v:Int):Am (w.setCell ⟨g,9,none⟩ (.int .i64 (v:Int))) g x (s.u9 v):=Box.set h 9 _
theorem Am.lq (h:Am w g x s) (v:Int):Am (w.setCell ⟨g,10,none⟩ (.int .i64 (v:Int))) g x (s.u10 v):=Box.set h 10 _
theorem Am.Yt (h:Am w g x s) (v:Nat):Am (w.setCell ⟨g,11,none⟩ (.int .u64 (v:Nat))) g x (s.u11 v):=Box.set h 11 _
theorem Am.VA (h:Am w g x s) (v:Int):Am (w.setCell ⟨g,12,none⟩ (.int .u8 (v:Int))) g x (s.u12 v):=Box.set h 12 _
theorem Am.Yu (h:Am w g x s) (v:Int):Am (w.setCell ⟨g,13,none⟩ (.int .u8 (v:Int))) g x (s.u13 v):=Box.set h 13 _
theorem Am.VB (h:Am w g x s) (v:Int):Am (w.setCell ⟨g,14,none⟩ (.int .i64 (v:Int))) g x (s.u14 v):=Box.set h 14 _
theorem Am.Yv (h:Am w g x s) (v:Bool):Am (w.setCell ⟨g,15,none⟩ (.bool v)) g x (s.u15 v):=Box.set h 15 _
theorem Am.Yw (h:Am w g x s) (v:Bool):Am (w.setCell ⟨g,16,none⟩ (.bool v)) g x (s.u16 v):=Box.set h 16 _
theorem Am.iH (h:Am w g x s) (v:Bool):Am (w.setCell ⟨g,17,none⟩ (.bool v)) g x (s.u17 v):=Box.set h 17 _
theorem Am.iI (h:Am w g x s) (v:Bool):Am (w.setCell ⟨g,18,none⟩ (.bool v)) g x (s.u18 v):=Box.set h 18 _
theorem Am.Yx (h:Am w g x s) (v:Bool):Am (w.setCell ⟨g,19,none⟩ (.bool v)) g x (s.u19 v):=Box.set h 19 _
theorem Am.setP (h:Am w g x s) (p:PG.Pn):Am (((w.setCell ⟨g,8,none⟩ (.int .i64 p.1)).setCell ⟨g,9,none⟩ (.int .i64 p.2.1)).setCell ⟨g,10,none⟩ (.int .i64 p.2.2)) g x (s.uP p):=((Box.set h 8 _).set 9 _).set 10 _
theorem IsG.put {G:PG.Gr} {v:Value} {T:TypeId} {cs:Array Value} (h:IsG w G v) (hb:Box w g T cs) (hT:T≠66) (i:Nat) (u:Value):IsG (w.setCell ⟨g,i,none⟩ u) G v:=h.kept hb hT ((Kept.refl [some g] w).setCell (p:=⟨g,i,none⟩) (From.mem (by simp)) u)
theorem IsG.puts {G:PG.Gr} {v:Value} (h:IsG w G v) (hb:Am w g x s) (i:Nat) (u:Value):IsG (w.setCell ⟨g,i,none⟩ u) G v:=h.put hb (by decide) i u
theorem Am.kept {L:List (Option Nat)} {w':World} (h:Am w g x s) (k:Kept L w w') (hg:some g∉L):Am w' g x s:=Box.kept h k hg
theorem Am.below {B:Nat} {w':World} (h:Am w g x s) (hb:Below B w w') (hg:g<B):Am w' g x s:=Box.below h hb hg
theorem Am.far (h:Am w g x s) {p:Addr} (hp:g≠p.block) (u:Value):Am (w.setCell p u) g x s:=Box.far h hp u
theorem Am.alloc (h:Am w g x s) (o:Obj):Am (w.alloc o) g x s:=Box.alloc h o
theorem Am.drewN (h:Am w g x s) (k:Nat):Am (w.drewN k) g x s:=h
theorem En:(Tryz.prog.info? 43).map (·.size)=some 29:=by kernel_rfl
theorem Hy: ∃d,Tryz.prog.underlying 43=some d/\d.isRow=true:=⟨_,Tryz.underlying43,rfl⟩
theorem AU {ops:Array Oper} {rest:List Oper} {op:Oper} {a:Act} {Q:Exit->Act->World->Prop} (h:Am w g x s) (hgd:op.guard=none) (y:Operand) (ho:op.op=.load 43 y)
  (hx:a.eval y=.pointer (some ⟨g,0,none⟩)) (hk:wpList Tryz.prog ops Q rest (a.put op.dst (.agg (scA x s))) w):wpList Tryz.prog ops Q (op::rest) a w:=by
 obtain⟨d,hu,hd⟩:=Hy
 exact IJ h hgd _ y ho hx d hu hd En hk
theorem AQ {ops:Array Oper} {rest:List Oper} {op:Oper} {a:Act} {Q:Exit->Act->World->Prop} {cs:Array Value} (h:Box w g 43 cs) (hs:cs.size=29) (hgd:op.guard=none) (y z:Operand) (ho:op.op=.store 43 y z)
  (hx:a.eval y=.pointer (some ⟨g,0,none⟩)) (hy:a.eval z=.agg (scA x s)) (h1:x.oneCell'=true)
  (hk: ∀w',Am w' g x s->Kept [some g] w w'->w'.heap.size=w.heap.size->wpList Tryz.prog ops Q rest (a.put op.dst undef) w'):wpList Tryz.prog ops Q (op::rest) a w:=
 Kj h (hs.trans (KD x s).symm) hgd _ y z ho hx hy En (U9 h1 s) hk
theorem Cg {fn:Func} {t:Tmp} (h:fn.results= #[.cell t 43]) {tmps:Array Value} (ht:tmps.getD t undef=.pointer (some ⟨g,0,none⟩)) (hb:Am w g x s):(results fn tmps).run Tryz.prog w=.ok (.agg (scA x s)) w:=by
 obtain⟨d,hu,hd⟩:=Hy
 have hl:=run_loadVar_mid (P:=Tryz.prog) w g 0 43 (scA x s).toList d (Box.rangeAt hb) hu hd En
 have ht':tmps[t]?.getD undef=.pointer (some ⟨g,0,none⟩):=by simpa using ht
 simp [results,h,ht',asAddr,hl]
end
end Go.Proofs.YtoaabebgmdbjeaaGreatDoor
namespace Go.Proofs.YtoaabebgmdbjeaaGreatDoor
open Go Go.RowKit
section
variable {P:Program} {ops:Array Oper} {rest:List Oper} {o:Oper} {a:Act} {w:World} {Q:Exit->Act->World->Prop}
theorem Aq {x:Value} {s:SN.Sc} (hgd:o.guard=none) (y:Operand) (ho:o.op=.box 43 y) (hy:a.eval y=.agg (scA x s))
  (hk: ∀g w',Am w' g x s->Below w.heap.size w w'->w.heap.size<=g->wpList P ops Q rest (a.put o.dst (.pointer (some ⟨g,0,none⟩))) w'):wpList P ops Q (o::rest) a w:=by
 refine wpList_plain hgd fun K hK=>?_
 unfold Oper.wp execOp
 simp only [ho,hy]
 have:=hk w.heap.size (w.alloc (.cells (scA x s) 43)) (Box.new w _ _) ((Below.refl _ _).alloc (Nat.le_refl _) _) (Nat.le_refl _)
 go_simp
 exact hK _ _ this
theorem Bb (hgd:o.guard=none) (ho:o.op=.alloc 43)
  (hk: ∀g w' cs,Box w' g 43 cs->cs.size=29->Below w.heap.size w w'->w.heap.size<=g->wpList Tryz.prog ops Q rest (a.put o.dst (.pointer (some ⟨g,0,none⟩))) w'):wpList Tryz.prog ops Q (o::rest) a w:=by
 refine wpList_plain hgd fun K hK=>?_
 unfold Oper.wp execOp
 simp only [ho]
 have:=fun cs hs=>hk w.heap.size (w.alloc (.cells cs 43)) cs (Box.new w _ _) hs ((Below.refl _ _).alloc (Nat.le_refl _) _) (Nat.le_refl _)
 go_simp
 exact hK _ _ (this _ rfl)
def lu (w:World) (g:Nat) (cs:Array Value):Prop:=Box w g 29 cs/\cs.size=13
theorem Ng {cs:Array Value} (hsz:cs.size=13) (hgd:o.guard=none) (y:Operand) (ho:o.op=.box 29 y) (hy:a.eval y=.agg cs)
  (hk: ∀g w',lu w' g cs->Below w.heap.size w w'->w.heap.size<=g->wpList P ops Q rest (a.put o.dst (.pointer (some ⟨g,0,none⟩))) w'):wpList P ops Q (o::rest) a w:=by
 refine wpList_plain hgd fun K hK=>?_
 unfold Oper.wp execOp
 simp only [ho,hy]
 have:=hk w.heap.size (w.alloc (.cells cs 29)) ⟨Box.new w _ _,hsz⟩ ((Below.refl _ _).alloc (Nat.le_refl _) _) (Nat.le_refl _)
 go_simp
 exact hK _ _ this
theorem dB:(Tryz.prog.info? 29).map (·.size)=some 13:=by kernel_rfl
theorem jE: ∃d,Tryz.prog.underlying 29=some d/\d.isRow=true:=⟨_,Tryz.underlying29,rfl⟩
theorem Mc {cs:Array Value} {g:Nat} (h:lu w g cs) (hgd:o.guard=none) (y:Operand) (ho:o.op=.load 29 y) (hx:a.eval y=.pointer (some ⟨g,0,none⟩))
  (hk:wpList Tryz.prog ops Q rest (a.put o.dst (.agg cs)) w):wpList Tryz.prog ops Q (o::rest) a w:=by
 obtain⟨d,hu,hd⟩:=jE
 exact IJ h.1 hgd _ y ho hx d hu hd (by rw [h.2];exact dB) hk
theorem LD (hgd:o.guard=none) (v:Value) (h:(execOp a.eval o).run P w=.ok (.value v) w) (hk:wpList P ops Q rest (a.put o.dst v) w):wpList P ops Q (o::rest) a w:=by
 refine wpList_plain hgd fun K hK=>?_
 unfold Oper.wp
 rw [h]
 exact hK _ _ hk
theorem TG:(Tryz.prog.info? 41).map (·.size)=some 9:=by kernel_rfl
theorem IQ {x:Value} {s:SN.Sc} {g:Nat} (h:Am w g x s) (v:SN.Sv) (hgd:o.guard=none) (y z:Operand) (ho:o.op=.store 41 y z) (hx:a.eval y=.pointer (some ⟨g,20,none⟩))
  (hy:a.eval z=.agg #[.int .i64 v.row,.int .i64 v.col,.int .i64 v.pen.1,.int .i64 v.pen.2.1,.int .i64 v.pen.2.2,.int .u8 v.s0,.int .u8 v.s1,.int .i64 v.sh,.bool v.org])
  (hk: ∀w',Am w' g x (s.uV v)->Kept [some g] w w'->w'.heap.size=w.heap.size->wpList Tryz.prog ops Q rest (a.put o.dst undef) w'):wpList Tryz.prog ops Q (o::rest) a w:=
 F7 20 h (by show 20+9<=(scA x s).size;rw [KD];decide) hgd _ y z ho hx hy TG (by simp [Value.oneCell']) (fun w' h1 h2 h3=>hk w' (by
  have e:=Yr x s v
  show Box w' g _ _
  rw [<- e]
  exact h1) h2 h3)
end
end Go.Proofs.YtoaabebgmdbjeaaGreatDoor
namespace Go.Proofs.YtoaabebgmdbjeaaGreatDoor
open Go.RowKit
def IsS (w:World) (S:SN.Sc) (v:Value):Prop:= ∃x,v=.agg (scA x S)/\IsG w S.g (gv S.g.rows S.g.AB x)
def Az (w:World) (S:SN.Sc) (e:Ending) (w':World):Prop:= ∃v,e=.returned v/\IsS w' S v/\Below w.heap.size w w'
theorem Af {w:World} {G:PG.Gr} {x:Value} (h:IsG w G (gv G.rows G.AB x)): ∃A c,x=.slice A (G.rows*G.AB) c:=by
 obtain⟨A,c,e,_⟩:=h.open_
 simp only [gv,Value.agg.injEq] at e
 injection e with e
 simp only [List.cons.injEq] at e
 exact⟨A,c,e.2.2.1⟩
theorem KF {w:World} {G:PG.Gr} {A:Option Addr} {n c:Nat} (h:IsG w G (gv G.rows G.AB (.slice A n c))):BJ w w.heap.size A n (PG.cells G)/\n=G.rows*G.AB/\n<=c:=by
 obtain⟨A',c',e,hs,hc,_⟩:=h.open_
 simp only [gv,Value.agg.injEq] at e
 injection e with e
 simp only [List.cons.injEq] at e
 have e3:=e.2.2.1
 injection e3 with e4 e5 e6
 subst e4 e5 e6
 exact⟨hs,rfl,hc⟩
end Go.Proofs.YtoaabebgmdbjeaaGreatDoor
namespace Go.Proofs.YtoaabebgmdbjeaaGreatDoor
open Go.RowKit
def SN.pin (z:Int) (R:Nat):Nat:=(min (max z 0) ((R:Int)-1)).toNat
def SN.atS (s:SN.Sc) (r c:Int):SN.Sc:=((s.u3 (SN.pin r s.g.rows)).u4 (SN.pin c s.g.AB)).u5 false
end Go.Proofs.YtoaabebgmdbjeaaGreatDoor
namespace Go.Proofs.YtoaabebgmdbjeaaGreatDoor
open Go.RowKit
namespace SN
def cut (z:Int) (m:Nat):Nat:=(min (max z 1) (m:Int)).toNat
structure Rw where
 g:PG.Gr
 row:Int
 col:Int
 pend:Bool
 top:Int
 bot:Int
 pen:PG.Pn
 tabs:Nat
 s0:Int
 s1:Int
 sh:Int
 wrap:Bool
 org:Bool
 shown:Bool
 keys:Bool
 pad:Bool
 Qk:Int
 Ql:Int
 Ip:PG.Pn
 t0:Int
 t1:Int
 th:Int
 so:Bool
def l5 (x y h:Int):Bool:=(x==66||x==48)&&(y==66||y==48)&&(h==0||h==1)
def Yy (g:PG.Gr) (r c:Int):Bool:=decide (0<=r/\r<g.rows)&&decide (0<=c/\c<g.AB)
def Rw.right (q:Rw):Bool:=Yy q.g q.row q.col&&(decide (0<=q.top/\q.top<q.bot/\q.bot<q.g.rows)||decide (q.g.rows=1/\q.top=0/\q.bot=0))&&C.right q.pen.1 q.pen.2.1 q.pen.2.2&&l5 q.s0 q.s1 q.sh&&(!q.pend||(q.wrap&&decide (q.col+1=q.g.AB)))&&Yy q.g q.Qk q.Ql&&C.right q.Ip.1 q.Ip.2.1 q.Ip.2.2&&l5 q.t0 q.t1 q.th
def Rw.same (a b:Rw):Bool:=a.row==b.row&&a.col==b.col&&a.pend==b.pend&&a.top==b.top&&a.bot==b.bot&&decide (a.pen=b.pen)&&a.tabs==b.tabs&&a.s0==b.s0&&a.s1==b.s1&&a.sh==b.sh&&a.wrap==b.wrap&&a.org==b.org&&a.shown==b.shown&&a.keys==b.keys&&a.pad==b.pad&&
 (a.Qk==b.Qk&&a.Ql==b.Ql&&decide (a.Ip=b.Ip)&&a.t0==b.t0&&a.t1==b.t1&&a.th==b.th&&a.so==b.so)
end SN
def rwA (x:Value) (q:SN.Rw):Array Value:= #[.int .i64 q.g.rows,.int .i64 q.g.AB,x,.int .i64 q.row,.int .i64 q.col,.bool q.pend,.int .i64 q.top,.int .i64 q.bot,.int .i64 q.pen.1,.int .i64 q.pen.2.1,.int .i64 q.pen.2.2,.int .u64 q.tabs,.int .u8 q.s0,.int .u8 q.s1,.int .i64 q.sh,.bool q.wrap,.bool q.org,.bool q.shown,.bool q.keys,.bool q.pad,
 .int .i64 q.Qk,.int .i64 q.Ql,.int .i64 q.Ip.1,.int .i64 q.Ip.2.1,.int .i64 q.Ip.2.2,.int .u8 q.t0,.int .u8 q.t1,.int .i64 q.th,.bool q.so]
end Go.Proofs.YtoaabebgmdbjeaaGreatDoor
namespace Go.Proofs.YtoaabebgmdbjeaaGreatDoor
open Go Go.RowKit
def Bp (w:World) (g:Nat) (x:Value) (q:SN.Rw):Prop:=Box w g 43 (rwA x q)
section
variable {w:World} {g:Nat} {x:Value} {q:SN.Rw}
theorem Bp.c0 (h:Bp w g x q):w.cell? ⟨g,0,none⟩=some (.int .i64 q.g.rows):=Box.cell h 0
theorem Bp.c1 (h:Bp w g x q):w.cell? ⟨g,1,none⟩=some (.int .i64 q.g.AB):=Box.cell h 1
theorem Bp.c2 (h:Bp w g x q):w.cell? ⟨g,2,none⟩=some (x):=Box.cell h 2
theorem Bp.c3 (h:Bp w g x q):w.cell? ⟨g,3,none⟩=some (.int .i64 q.row):=Box.cell h 3
theorem Bp.c4 (h:Bp w g x q):w.cell? ⟨g,4,none⟩=some (.int .i64 q.col):=Box.cell h 4
theorem Bp.c5 (h:Bp w g x q):w.cell? ⟨g,5,none⟩=some (.bool q.pend):=Box.cell h 5
theorem Bp.c6 (h:Bp w g x q):w.cell? ⟨g,6,none⟩=some (.int .i64 q.top):=Box.cell h 6
theorem Bp.c7 (h:Bp w g x q):w.cell? ⟨g,7,none⟩=some (.int .i64 q.bot):=Box.cell h 7
theorem Bp.c8 (h:Bp w g x q):w.cell? ⟨g,8,none⟩=some (.int .i64 q.pen.1):=Box.cell h 8
theorem Bp.c9 (h:Bp w g x q):w.cell? ⟨g,9,none⟩=some (.int .i64 q.pen.2.1):=Box.cell h 9
theorem Bp.c10 (h:Bp w g x q):w.cell? ⟨g,10,none⟩=some (.int .i64 q.pen.2.2):=Box.cell h 10
theorem Bp.c11 (h:Bp w g x q):w.cell? ⟨g,11,none⟩=some (.int .u64 q.tabs):=Box.cell h 11
theorem Bp.c12 (h:Bp w g x q):w.cell? ⟨g,12,none⟩=some (.int .u8 q.s0):=Box.cell h 12
theorem Bp.c13 (h:Bp w g x q):w.cell? ⟨g,13,none⟩=some (.int .u8 q.s1):=Box.cell h 13
theorem Bp.c14 (h:Bp w g x q):w.cell? ⟨g,14,none⟩=some (.int .i64 q.sh):=Box.cell h 14
theorem Bp.c15 (h:Bp w g x q):w.cell? ⟨g,15,none⟩=some (.bool q.wrap):=Box.cell h 15
theorem Bp.c16 (h:Bp w g x q):w.cell? ⟨g,16,none⟩=some (.bool q.org):=Box.cell h 16
theorem Bp.c17 (h:Bp w g x q):w.cell? ⟨g,17,none⟩=some (.bool q.shown):=Box.cell h 17
theorem Bp.c18 (h:Bp w g x q):w.cell? ⟨g,18,none⟩=some (.bool q.keys):=Box.cell h 18
theorem Bp.c19 (h:Bp w g x q):w.cell? ⟨g,19,none⟩=some (.bool q.pad):=Box.cell h 19
theorem Bp.c20 (h:Bp w g x q):w.cell? ⟨g,20,none⟩=some (.int .i64 q.Qk):=Box.cell h 20
theorem Bp.c21 (h:Bp w g x q):w.cell? ⟨g,21,none⟩=some (.int .i64 q.Ql):=Box.cell h 21
theorem Bp.c22 (h:Bp w g x q):w.cell? ⟨g,22,none⟩=some (.int .i64 q.Ip.1):=Box.cell h 22
theorem Bp.c23 (h:Bp w g x q):w.cell? ⟨g,23,none⟩=some (.int .i64 q.Ip.2.1):=Box.cell h 23
theorem Bp.c24 (h:Bp w g x q):w.cell? ⟨g,24,none⟩=some (.int .i64 q.Ip.2.2):=Box.cell h 24
theorem Bp.c25 (h:Bp w g x q):w.cell? ⟨g,25,none⟩=some (.int .u8 q.t0):=Box.cell h 25
theorem Bp.c26 (h:Bp w g x q):w.cell? ⟨g,26,none⟩=some (.int .u8 q.t1):=Box.cell h 26
theorem Bp.c27 (h:Bp w g x q):w.cell? ⟨g,27,none⟩=some (.int .i64 q.th):=Box.cell h 27
theorem Bp.c28 (h:Bp w g x q):w.cell? ⟨g,28,none⟩=some (.bool q.so):=Box.cell h 28
theorem Bp.fz (h:Bp w g x q) (i:Nat):w.frozen? ⟨g,i,none⟩=false:=Box.frozen h i
theorem Bp.lt (h:Bp w g x q):g<w.heap.size:=Box.lt h
theorem Bp.kept {L:List (Option Nat)} {w':World} (h:Bp w g x q) (k:Kept L w w') (hg:some g∉L):Bp w' g x q:=Box.kept h k hg
theorem Bp.below {B:Nat} {w':World} (h:Bp w g x q) (hb:Below B w w') (hg:g<B):Bp w' g x q:=Box.below h hb hg
theorem Bp.alloc (h:Bp w g x q) (o:Obj):Bp (w.alloc o) g x q:=Box.alloc h o
variable {P:Program} {ops:Array Oper} {rest:List Oper} {o:Oper} {a:Act} {Q:Exit->Act->World->Prop}
end
end Go.Proofs.YtoaabebgmdbjeaaGreatDoor
namespace Go.Proofs.YtoaabebgmdbjeaaGreatDoor.SN
end Go.Proofs.YtoaabebgmdbjeaaGreatDoor.SN
namespace Go.Proofs.YtoaabebgmdbjeaaGreatDoor
open Go.RowKit
theorem Qm {c:Int} (hc:0<=c):IntKind.u64.wrap (2 ^ min c.toNat 64)=((TB.Gd c:Nat):Int):=by
 unfold TB.Gd
 by_cases h:TB.col c
 ·rw [if_pos h]
  unfold TB.col at h
  have hp:=TB.Sd (c:=c.toNat) (by omega)
  have e:(2:Int) ^ min c.toNat 64=((2 ^ c.toNat:Nat):Int):=by
   rw [show min c.toNat 64=c.toNat by omega]
   simp
  rw [e,IntKind.wrap_u64]
  generalize 2 ^ c.toNat=q at hp
  omega
 ·rw [if_neg h]
  unfold TB.col at h
  rw [show min c.toNat 64=64 by omega]
  decide
theorem dD (c:Int) (w:World) (h0: -9223372036854775808<=c) (h1:c<=9223372036854775807):Calls Tryz.prog 162 #[.int .i64 c] w fun e w'=>e=.returned (.int .u64 (TB.Gd c:Nat))/\w=w':=by
 by_cases hc:0<=c
 ·go_enter Tryz.func162,Tryz.ntmps162
  go_wp2
  go_ret
  exact⟨Ck (Qm hc),rfl⟩
 ·go_enter Tryz.func162,Tryz.ntmps162
  go_wp2
  go_ret
  refine⟨Ck ?_,rfl⟩
  rw [Qm (by rw [IntKind.wrap_u64];omega)]
  unfold TB.Gd
  rw [if_neg (by unfold TB.col;rw [IntKind.wrap_u64];omega),if_neg (by unfold TB.col;omega)]
theorem TH (c:Int) (n:Nat) (hn:TB.Gd c=n) (w:World) (h0: -9223372036854775808<=c) (h1:c<=9223372036854775807):Calls Tryz.prog 162 #[.int .i64 c] w fun e w'=>e=.returned (.int .u64 n)/\w=w':=by
 subst hn
 exact dD c w h0 h1
theorem WJ (c:Int) (w:World) (h0: -9223372036854775808<=c) (h1:c<=9223372036854775807):Calls Tryz.prog 131 #[.int .i64 c] w fun e w'=>e=.returned (.int .u64 (TB.Co c:Nat))/\w=w':=by
 obtain⟨d,hd,hd0,hd1⟩: ∃d:Int,max c 0=d/\0<=d/\d<=9223372036854775807:=⟨_,rfl,by omega,by omega⟩
 have E:TB.Co c=TB.Co d:=by
  unfold TB.Co
  rw [show d.toNat=c.toNat by omega]
 have W:IntKind.u64.wrap ((TB.Gd d:Nat)-1:Int)=((TB.Co d:Nat):Int):=by
  have h1:=TB.He d
  unfold TB.Ok at h1
  rw [IntKind.wrap_u64]
  rcases TB.Vm hd0 with h | ⟨h,h'⟩
  ·omega
  ·rw [h,h']
   decide
 rw [E]
 have HB:=hide fun w'=>TH d _ rfl w' (by omega) hd1
 have HW:=hide W
 generalize TB.Gd d=x at HB HW
 generalize TB.Co d=y at HW
 clear E W
 by_cases hc:0<=c
 ·obtain rfl:d=c:=by omega
  clear hd
  go_enter Tryz.func131,Tryz.ntmps131
  go_wp2_with fail
  refine(HB.out _).mono ?_
  rintro e w1 ⟨rfl,rfl⟩
  go_wp2_with fail
  go_ret
  exact⟨Ck HW.out,rfl⟩
 ·obtain rfl:d=0:=by omega
  clear hd
  go_enter Tryz.func131,Tryz.ntmps131
  go_wp2_with fail
  refine(HB.out _).mono ?_
  rintro e w1 ⟨rfl,rfl⟩
  go_wp2_with fail
  go_ret
  exact⟨Ck HW.out,rfl⟩
theorem Md (c:Int) (n:Nat) (hn:TB.Co c=n) (w:World) (h0: -9223372036854775808<=c) (h1:c<=9223372036854775807):Calls Tryz.prog 131 #[.int .i64 c] w fun e w'=>e=.returned (.int .u64 n)/\w=w':=by
 subst hn
 exact WJ c w h0 h1
theorem u64_and {a b:Nat} (ha:TB.Ok a) (hb:TB.Ok b):bits .and .u64 (a:Int) (b:Int)=((a&&& b:Nat):Int):=u64_and_nat a b ha hb
theorem u64_or {a b:Nat} (ha:TB.Ok a) (hb:TB.Ok b):bits .or .u64 (a:Int) (b:Int)=((a||| b:Nat):Int):=u64_or_nat a b ha hb
theorem u64_andNot {a b:Nat} (ha:TB.Ok a) (hb:TB.Ok b):bits .andNot .u64 (a:Int) (b:Int)=((a&&& (18446744073709551615-b):Nat):Int):=u64_andNot_nat a b ha hb
theorem Yz (n:Int) (w:World) (h0:0<=n) (h1:n<=9223372036854775807):Calls Tryz.prog 96 #[.int .i64 n] w fun e w'=>e=.returned (.int .u64 (TB.news n.toNat:Nat))/\w=w':=by
 have HB:=hide fun w'=>Md n _ rfl w' (by omega) h1
 have E1:=u64_and (show TB.Ok 72340172838076672 by unfold TB.Ok;omega) (TB.He n)
 rw [TB.YM h0] at E1
 have E2:=hide (show bits .and .u64 72340172838076672 ((TB.Co n:Nat):Int)=((TB.news n.toNat:Nat):Int) from E1)
 generalize TB.Co n=x at HB E2
 generalize TB.news n.toNat=y at E2
 clear E1
 go_enter Tryz.func96,Tryz.ntmps96
 go_wp2_with fail
 refine(HB.out _).mono ?_
 rintro e w1 ⟨rfl,rfl⟩
 go_wp2_with fail
 go_ret
 exact⟨Ck E2.out,rfl⟩
theorem dF (n:Int) (t:Nat) (ht:TB.news n.toNat=t) (w:World) (h0:0<=n) (h1:n<=9223372036854775807):Calls Tryz.prog 96 #[.int .i64 n] w fun e w'=>e=.returned (.int .u64 t)/\w=w':=by
 subst ht
 exact Yz n w h0 h1
theorem dG (A:Option Addr) (n c B:Nat) (l:List Int) (w:World) (hA:Seen w B A n (l.map (Value.int .i64))) (hn:n<=1099511627776) (hl: ∀x∈l, -9223372036854775808<=x/\x<=9223372036854775807):
  Calls Tryz.prog 191 #[.slice A n c] w fun e w'=>e=.returned (.int .u64 (TB.puts 0 l:Nat))/\w=w':=by
 have hlen:l.length=n:=by simpa using hA.1
 have HA:=hide hA
 have HL:=hide hlen
 have HX:=hide hl
 clear hA hlen hl
 go_enter Tryz.func191,Tryz.ntmps191
 go_wp2
 go_loopw [3,8] (fun t i wr=> ∃k:Nat,k<=n/\i=.int .i64 k/\t=.int .u64 (TB.puts 0 (l.take k):Nat)/\wr=w) (fun _ i _=>n-(intOf i).toNat)
 case atStart=>exact⟨0,Nat.zero_le _,rfl,rfl,rfl⟩
 case round=>
  obtain⟨k,hk,rfl,rfl,rfl⟩:=hrel
  by_cases hlt:k<n
  ·obtain⟨ad,u,rfl,_,hu,hc⟩:=HA.out.at_ hlt
   rw [List.getElem?_map] at hu
   obtain⟨x,hx,rfl⟩:=Option.map_eq_some_iff.1 hu
   obtain⟨x0,x1⟩:=HX.out x (List.mem_of_getElem? hx)
   have hs:=TB.Vo 0 (l.take k) x
   rw [show l.take k++ [x] =l.take (k+1) from by rw [List.take_add_one,hx];rfl] at hs
   have E1:=u64_or (TB.Hu (l:=l.take k) TB.ok0) (TB.O5 x)
   rw [<- hs] at E1
   have E:=hide E1
   generalize TB.puts 0 (l.take k)=z at E
   have HB:=hide fun w'=>TH x _ rfl w' x0 x1
   generalize TB.Gd x=y at HB E
   clear hu hx hs E1 x0 x1
   go_wp2_with fail
   refine(HB.out _).mono ?_
   rintro e w1 ⟨rfl,rfl⟩
   go_wp2_with fail
   go_roundw
   case rel=>exact⟨k+1,by omega,by go_num,by rw [E.out],by first | rfl | trivial⟩
   case measure=>simp [intOf];omega
  ·obtain rfl:k=n:=by omega
   have e:l.take k=l:=List.take_of_length_le (by rw [HL.out];omega)
   rw [e]
   generalize hz:TB.puts 0 l=z
   have HZ:=hide hz
   clear hz
   go_wp2
   go_ret
   exact⟨Ck (by rw [HZ.out]),rfl⟩
theorem Y0 (A:Option Addr) (n c B:Nat) (l:List Int) (z:Nat) (hz:TB.puts 0 l=z) (w:World) (hA:Seen w B A n (l.map (Value.int .i64))) (hn:n<=1099511627776) (hl: ∀x∈l, -9223372036854775808<=x/\x<=9223372036854775807):
  Calls Tryz.prog 191 #[.slice A n c] w fun e w'=>e=.returned (.int .u64 z)/\w=w':=by
 subst hz
 exact dG A n c B l w hA hn hl
theorem jF (t:Nat) (A:Option Addr) (n c B:Nat) (l:List Int) (z:Nat) (hz:TB.puts t l=z) (w:World) (ht:TB.Ok t) (hA:Seen w B A n (l.map (Value.int .i64))) (hn:n<=1099511627776) (hl: ∀x∈l, -9223372036854775808<=x/\x<=9223372036854775807):
  Calls Tryz.prog 167 #[.int .u64 t,.slice A n c] w fun e w'=>e=.returned (.int .u64 z)/\w=w':=by
 subst hz
 have HB:=hide fun w' (h:Seen w' B A n (l.map (Value.int .i64)))=>Y0 A n c B l _ rfl w' h hn hl
 have E1:=u64_or ht (TB.Hu (l:=l) TB.ok0)
 rw [TB.bX ht] at E1
 have E:=hide E1
 have HT:=hide ht
 have HA:=hide hA
 generalize TB.puts 0 l=x at HB E
 generalize TB.puts t l=y at E
 clear hA hl E1 ht
 go_enter Tryz.func167,Tryz.ntmps167
 go_wp2_with fail
 refine(HB.out _ HA.out).mono ?_
 rintro e w1 ⟨rfl,rfl⟩
 go_wp2_with fail
 go_ret
 exact⟨Ck E.out,rfl⟩
theorem dH (t:Nat) (A:Option Addr) (n c B:Nat) (l:List Int) (z:Nat) (hz:TB.drops t l=z) (w:World) (ht:TB.Ok t) (hA:Seen w B A n (l.map (Value.int .i64))) (hn:n<=1099511627776) (hl: ∀x∈l, -9223372036854775808<=x/\x<=9223372036854775807):
  Calls Tryz.prog 219 #[.int .u64 t,.slice A n c] w fun e w'=>e=.returned (.int .u64 z)/\w=w':=by
 subst hz
 have HB:=hide fun w' (h:Seen w' B A n (l.map (Value.int .i64)))=>Y0 A n c B l _ rfl w' h hn hl
 have E1:=u64_andNot ht (TB.Hu (l:=l) TB.ok0)
 rw [TB.Vp ht] at E1
 have E:=hide E1
 have HT:=hide ht
 have HA:=hide hA
 generalize TB.puts 0 l=x at HB E
 generalize TB.drops t l=y at E
 clear hA hl E1 ht
 go_enter Tryz.func219,Tryz.ntmps219
 go_wp2_with fail
 refine(HB.out _ HA.out).mono ?_
 rintro e w1 ⟨rfl,rfl⟩
 go_wp2_with fail
 go_ret
 exact⟨Ck E.out,rfl⟩
def KH (w:World):Prop:=TabAt 4 Lib.deBruijn64tab w
theorem KH.keep {w w':World} (h:KH w) (hb:Below w.heap.size w w'):KH w':=fun j hj=>by
 have hc:=h j hj
 rw [<- hc]
 exact World.cell?_of_block (hb.block _ (World.block_lt_of_cell? w _ hc))
theorem KH.drewN {w:World} (h:KH w) (k:Nat):KH (w.drewN k):=h
theorem dI (x k idx:Nat) (w:World) (hx0:((x:Int)==0)=false)
  (key:IntKind.u64.wrap (bits BinOp.and IntKind.u64 (x:Int) (IntKind.u64.wrap (-(x:Int)))*285870213051353865) / 288230376151711744=(idx:Int))
  (hi:idx<64) (hk:k<64) (hcell:w.cell? ⟨4,idx,none⟩=some (.int .u8 k)):
  Calls Tryz.prog 163 #[.int .u64 x] w fun e w'=>e=.returned (.int .i64 k)/\w=w':=by
 go_enter Tryz.func163,Tryz.ntmps163
 go_wp2_with (simp only [key])
 go_ret
 exact⟨rfl,rfl⟩
theorem jG (x:Nat) (hx:TB.Ok x) (h0:x≠0) (w:World) (hT:KH w):Calls Tryz.prog 163 #[.int .u64 x] w fun e w'=>e=.returned (.int .i64 (Lib.ctz 64 x:Nat))/\w=w':=by
 obtain⟨hlow,hk⟩:=Lib.lowest_bit 64 x h0 hx
 obtain⟨hi,htab⟩:=Lib.deBruijn64_at _ hk
 have hcell:=hT _ hi
 rw [htab] at hcell
 exact dI x _ _ w (by simp;omega) (tz64_key x _ hx h0 hlow) hi hk hcell
theorem Y1 (t:Nat) (c k:Nat) (z:Nat) (hz:TB.next t c k=z) (w:World) (ht:TB.Ok t) (hT:KH w) (hc:c<=1000) (h1:1<=k) (h2:k<=64):
  Calls Tryz.prog 133 #[.int .u64 t,.int .i64 c,.int .i64 k] w fun e w'=>e=.returned (.int .i64 z)/\w=w':=by
 have HK:=hide fun w'=>Md k _ rfl w' (by omega) (by omega)
 have HC:=hide fun w'=>Md c _ rfl w' (by omega) (by omega)
 have HB:=hide fun w'=>TH c _ rfl w' (by omega) (by omega)
 have E1:=hide (u64_and ht (TB.He k))
 have E2:=hide (u64_andNot (TB.Ii ht (b:=TB.Co k)) (TB.He c))
 have E3:=hide (u64_andNot (TB.Ii (TB.Ii ht (b:=TB.Co k)) (b:=18446744073709551615-TB.Co c)) (TB.O5 c))
 have E4:=hide (show((t&&& TB.Co k)&&& (18446744073709551615-TB.Co c))&&& (18446744073709551615-TB.Gd c)=TB.behind t c k from rfl)
 have B0:TB.behind t c k=0->z=k-1:=fun h=>by rw [<- hz];exact TB.Qa h2 h
 have B1:TB.behind t c k≠0->Lib.ctz 64 (TB.behind t c k)=z:=fun h=>by rw [<- hz];exact TB.Qb ht h
 have hbo:=TB.OG ht c k
 generalize TB.behind t c k=b at E4 B0 B1 hbo
 generalize TB.Co k=xk at HK E1 E2 E3 E4
 generalize TB.Co c=xc at HC E2 E3 E4
 generalize TB.Gd c=xb at HB E3 E4
 generalize t&&& xk=y1 at E1 E2 E3 E4
 generalize y1&&& (18446744073709551615-xc)=y2 at E2 E3 E4
 generalize y2&&& (18446744073709551615-xb)=y3 at E3 E4
 obtain rfl:y3=b:=E4.out
 have TZ:y3≠0-> ∀w',KH w'->Calls Tryz.prog 163 #[.int .u64 y3] w' fun e w1=>e=.returned (.int .i64 z)/\w'=w1:=fun h w' hw=>by
  rw [<- B1 h]
  exact jG y3 hbo h w' hw
 have HT:=hide hT
 clear ht hT hbo hz B1
 rcases Nat.eq_zero_or_pos y3 with h | h
 ·subst h
  have hz:=B0 rfl
  have hz':(k:Int)-1=(z:Int):=by omega
  have HZ:=hide hz'
  have E3':=hide (show bits .andNot .u64 (y2:Int) (xb:Int)=0 from E3.out)
  clear B0 TZ hz hz' E3 E4
  go_enter Tryz.func133,Tryz.ntmps133
  go_wp2_with fail
  refine(HK.out _).mono ?_
  rintro e w1 ⟨rfl,rfl⟩
  go_wp2_with fail
  refine(HC.out _).mono ?_
  rintro e w1 ⟨rfl,rfl⟩
  go_wp2_with fail
  refine(HB.out _).mono ?_
  rintro e w1 ⟨rfl,rfl⟩
  rw [E1.out,E2.out]
  go_wp2_with (simp only [E3'.out])
  go_ret
  exact⟨Ck HZ.out,rfl⟩
 ·have TZ':=hide (TZ (by omega))
  have h':((y3:Int)==0)=false:=by simp;omega
  clear TZ B0 E4
  go_enter Tryz.func133,Tryz.ntmps133
  go_wp2_with fail
  refine(HK.out _).mono ?_
  rintro e w1 ⟨rfl,rfl⟩
  go_wp2_with fail
  refine(HC.out _).mono ?_
  rintro e w1 ⟨rfl,rfl⟩
  go_wp2_with fail
  refine(HB.out _).mono ?_
  rintro e w1 ⟨rfl,rfl⟩
  rw [E1.out,E2.out]
  go_wp2_with (first | simp only [E3.out] | (refine(TZ'.out _ HT.out).mono ?_;rintro e w1 ⟨rfl,rfl⟩))
  go_ret
  exact⟨rfl,rfl⟩
end Go.Proofs.YtoaabebgmdbjeaaGreatDoor
namespace Go.Proofs.YtoaabebgmdbjeaaGreatDoor
open Go.RowKit
end Go.Proofs.YtoaabebgmdbjeaaGreatDoor
