/- A part of the proof: ScreenVal, ScrBrief, GridShift, CursorSpec, ModesSpec, PenSpec, CharsetSpec. -/
import Derived.Test.YtoaabebgmdbjeaaGreatDoorSb07
set_option maxRecDepth 100000
set_option maxHeartbeats 16000000
set_option linter.unusedVariables false
namespace Go.Proofs.YtoaabebgmdbjeaaGreatDoor
open Go.RowKit
namespace SN.Sc
def u3 (s:SN.Sc) (v:Nat):SN.Sc:={s with row:=v}
def u4 (s:SN.Sc) (v:Nat):SN.Sc:={s with col:=v}
def u5 (s:SN.Sc) (v:Bool):SN.Sc:={s with pend:=v}
def u6 (s:SN.Sc) (v:Nat):SN.Sc:={s with top:=v}
def u7 (s:SN.Sc) (v:Nat):SN.Sc:={s with bot:=v}
def u8 (s:SN.Sc) (v:Int):SN.Sc:={s with pen:=(v,s.pen.2.1,s.pen.2.2)}
def u9 (s:SN.Sc) (v:Int):SN.Sc:={s with pen:=(s.pen.1,v,s.pen.2.2)}
def u10 (s:SN.Sc) (v:Int):SN.Sc:={s with pen:=(s.pen.1,s.pen.2.1,v)}
def u11 (s:SN.Sc) (v:Nat):SN.Sc:={s with tabs:=v}
def u12 (s:SN.Sc) (v:Int):SN.Sc:={s with s0:=v}
def u13 (s:SN.Sc) (v:Int):SN.Sc:={s with s1:=v}
def u14 (s:SN.Sc) (v:Int):SN.Sc:={s with sh:=v}
def u15 (s:SN.Sc) (v:Bool):SN.Sc:={s with wrap:=v}
def u16 (s:SN.Sc) (v:Bool):SN.Sc:={s with org:=v}
def u17 (s:SN.Sc) (v:Bool):SN.Sc:={s with shown:=v}
def u18 (s:SN.Sc) (v:Bool):SN.Sc:={s with keys:=v}
def u19 (s:SN.Sc) (v:Bool):SN.Sc:={s with pad:=v}
def u20 (s:SN.Sc) (v:Nat):SN.Sc:={s with sv:={s.sv with row:=v}}
def u21 (s:SN.Sc) (v:Nat):SN.Sc:={s with sv:={s.sv with col:=v}}
def u22 (s:SN.Sc) (v:Int):SN.Sc:={s with sv:={s.sv with pen:=(v,s.sv.pen.2.1,s.sv.pen.2.2)}}
def u23 (s:SN.Sc) (v:Int):SN.Sc:={s with sv:={s.sv with pen:=(s.sv.pen.1,v,s.sv.pen.2.2)}}
def u24 (s:SN.Sc) (v:Int):SN.Sc:={s with sv:={s.sv with pen:=(s.sv.pen.1,s.sv.pen.2.1,v)}}
def u25 (s:SN.Sc) (v:Int):SN.Sc:={s with sv:={s.sv with s0:=v}}
def u26 (s:SN.Sc) (v:Int):SN.Sc:={s with sv:={s.sv with s1:=v}}
def u27 (s:SN.Sc) (v:Int):SN.Sc:={s with sv:={s.sv with sh:=v}}
def u28 (s:SN.Sc) (v:Bool):SN.Sc:={s with sv:={s.sv with org:=v}}
def uG (s:SN.Sc) (v:PG.Gr):SN.Sc:={s with g:=v}
def uP (s:SN.Sc) (v:PG.Pn):SN.Sc:={s with pen:=v}
def uS (s:SN.Sc) (a b:Int):SN.Sc:={s with s0:=a,s1:=b}
def uV (s:SN.Sc) (v:SN.Sv):SN.Sc:={s with sv:=v}
end SN.Sc
def scA (x:Value) (s:SN.Sc):Array Value:= #[.int .i64 s.g.rows,.int .i64 s.g.AB,x,.int .i64 s.row,.int .i64 s.col,.bool s.pend,.int .i64 s.top,.int .i64 s.bot,.int .i64 s.pen.1,.int .i64 s.pen.2.1,.int .i64 s.pen.2.2,.int .u64 s.tabs,.int .u8 s.s0,.int .u8 s.s1,.int .i64 s.sh,.bool s.wrap,.bool s.org,.bool s.shown,.bool s.keys,.bool s.pad,.int .i64 s.sv.row,.int .i64 s.sv.col,.int .i64 s.sv.pen.1,.int .i64 s.sv.pen.2.1,.int .i64 s.sv.pen.2.2,.int .u8 s.sv.s0,.int .u8 s.sv.s1,.int .i64 s.sv.sh,.bool s.sv.org]
theorem Lu (x:Value) (s:SN.Sc):(scA x s).size=29:=rfl
theorem gJ {x:Value} (hx:x.oneCell'=true) (s:SN.Sc):(scA x s).all (·.oneCell')=true:=by
 cases x<;>first | (simp [scA,Value.oneCell'];done) | (simp [Value.oneCell'] at hx)
theorem Vj (x:Value) (s:SN.Sc) (v:Nat):(scA x s).setIfInBounds 20 (.int .i64 (v:Nat))=scA x (s.u20 v):=rfl
theorem Vk (x:Value) (s:SN.Sc) (v:Nat):(scA x s).setIfInBounds 21 (.int .i64 (v:Nat))=scA x (s.u21 v):=rfl
theorem Vl (x:Value) (s:SN.Sc) (v:Int):(scA x s).setIfInBounds 22 (.int .i64 (v:Int))=scA x (s.u22 v):=rfl
theorem Vm (x:Value) (s:SN.Sc) (v:Int):(scA x s).setIfInBounds 23 (.int .i64 (v:Int))=scA x (s.u23 v):=rfl
theorem Vn (x:Value) (s:SN.Sc) (v:Int):(scA x s).setIfInBounds 24 (.int .i64 (v:Int))=scA x (s.u24 v):=rfl
theorem Vo (x:Value) (s:SN.Sc) (v:Int):(scA x s).setIfInBounds 25 (.int .u8 (v:Int))=scA x (s.u25 v):=rfl
theorem Vp (x:Value) (s:SN.Sc) (v:Int):(scA x s).setIfInBounds 26 (.int .u8 (v:Int))=scA x (s.u26 v):=rfl
theorem Vq (x:Value) (s:SN.Sc) (v:Int):(scA x s).setIfInBounds 27 (.int .i64 (v:Int))=scA x (s.u27 v):=rfl
theorem Vr (x:Value) (s:SN.Sc) (v:Bool):(scA x s).setIfInBounds 28 (.bool v)=scA x (s.u28 v):=rfl
theorem Yn (x y:Value) (s:SN.Sc) (g:PG.Gr):Px (scA x s) 0 [.int .i64 g.rows,.int .i64 g.AB,y] =scA y (s.uG g):=rfl
theorem Yo (x:Value) (s:SN.Sc) (v:SN.Sv):Px (scA x s) 20 [.int .i64 v.row,.int .i64 v.col,.int .i64 v.pen.1,.int .i64 v.pen.2.1,.int .i64 v.pen.2.2,.int .u8 v.s0,.int .u8 v.s1,.int .i64 v.sh,.bool v.org] =scA x (s.uV v):=by
 simp only [Px]
 rw [Vj,Vk,Vl,Vm,Vn,Vo,Vp,Vq,Vr]
 simp only [SN.Sc.u20,SN.Sc.u21,SN.Sc.u22,SN.Sc.u23,SN.Sc.u24,SN.Sc.u25,SN.Sc.u26,SN.Sc.u27,SN.Sc.u28,SN.Sc.uV]
def Ak (w:World) (g:Nat) (x:Value) (s:SN.Sc):Prop:=Box w g 43 (scA x s)
section
variable {w:World} {g:Nat} {x:Value} {s:SN.Sc}
theorem Ak.c0 (h:Ak w g x s):w.cell? ⟨g,0,none⟩=some (.int .i64 s.g.rows):=Box.cell h 0
theorem Ak.c1 (h:Ak w g x s):w.cell? ⟨g,1,none⟩=some (.int .i64 s.g.AB):=Box.cell h 1
theorem Ak.c2 (h:Ak w g x s):w.cell? ⟨g,2,none⟩=some (x):=Box.cell h 2
theorem Ak.c3 (h:Ak w g x s):w.cell? ⟨g,3,none⟩=some (.int .i64 s.row):=Box.cell h 3
theorem Ak.c4 (h:Ak w g x s):w.cell? ⟨g,4,none⟩=some (.int .i64 s.col):=Box.cell h 4
theorem Ak.c5 (h:Ak w g x s):w.cell? ⟨g,5,none⟩=some (.bool s.pend):=Box.cell h 5
theorem Ak.c6 (h:Ak w g x s):w.cell? ⟨g,6,none⟩=some (.int .i64 s.top):=Box.cell h 6
theorem Ak.c7 (h:Ak w g x s):w.cell? ⟨g,7,none⟩=some (.int .i64 s.bot):=Box.cell h 7
theorem Ak.c8 (h:Ak w g x s):w.cell? ⟨g,8,none⟩=some (.int .i64 s.pen.1):=Box.cell h 8
theorem Ak.c9 (h:Ak w g x s):w.cell? ⟨g,9,none⟩=some (.int .i64 s.pen.2.1):=Box.cell h 9
theorem Ak.c10 (h:Ak w g x s):w.cell? ⟨g,10,none⟩=some (.int .i64 s.pen.2.2):=Box.cell h 10
theorem Ak.c11 (h:Ak w g x s):w.cell? ⟨g,11,none⟩=some (.int .u64 s.tabs):=Box.cell h 11
theorem Ak.c12 (h:Ak w g x s):w.cell? ⟨g,12,none⟩=some (.int .u8 s.s0):=Box.cell h 12
theorem Ak.c13 (h:Ak w g x s):w.cell? ⟨g,13,none⟩=some (.int .u8 s.s1):=Box.cell h 13
theorem Ak.c14 (h:Ak w g x s):w.cell? ⟨g,14,none⟩=some (.int .i64 s.sh):=Box.cell h 14
theorem Ak.c15 (h:Ak w g x s):w.cell? ⟨g,15,none⟩=some (.bool s.wrap):=Box.cell h 15
theorem Ak.c16 (h:Ak w g x s):w.cell? ⟨g,16,none⟩=some (.bool s.org):=Box.cell h 16
theorem Ak.c17 (h:Ak w g x s):w.cell? ⟨g,17,none⟩=some (.bool s.shown):=Box.cell h 17
theorem Ak.c18 (h:Ak w g x s):w.cell? ⟨g,18,none⟩=some (.bool s.keys):=Box.cell h 18
theorem Ak.c19 (h:Ak w g x s):w.cell? ⟨g,19,none⟩=some (.bool s.pad):=Box.cell h 19
theorem Ak.c20 (h:Ak w g x s):w.cell? ⟨g,20,none⟩=some (.int .i64 s.sv.row):=Box.cell h 20
theorem Ak.c21 (h:Ak w g x s):w.cell? ⟨g,21,none⟩=some (.int .i64 s.sv.col):=Box.cell h 21
theorem Ak.c22 (h:Ak w g x s):w.cell? ⟨g,22,none⟩=some (.int .i64 s.sv.pen.1):=Box.cell h 22
theorem Ak.c23 (h:Ak w g x s):w.cell? ⟨g,23,none⟩=some (.int .i64 s.sv.pen.2.1):=Box.cell h 23
theorem Ak.c24 (h:Ak w g x s):w.cell? ⟨g,24,none⟩=some (.int .i64 s.sv.pen.2.2):=Box.cell h 24
theorem Ak.c25 (h:Ak w g x s):w.cell? ⟨g,25,none⟩=some (.int .u8 s.sv.s0):=Box.cell h 25
theorem Ak.c26 (h:Ak w g x s):w.cell? ⟨g,26,none⟩=some (.int .u8 s.sv.s1):=Box.cell h 26
theorem Ak.c27 (h:Ak w g x s):w.cell? ⟨g,27,none⟩=some (.int .i64 s.sv.sh):=Box.cell h 27
theorem Ak.c28 (h:Ak w g x s):w.cell? ⟨g,28,none⟩=some (.bool s.sv.org):=Box.cell h 28
theorem Ak.fz (h:Ak w g x s) (i:Nat):w.frozen? ⟨g,i,none⟩=false:=Box.frozen h i
theorem Ak.lt (h:Ak w g x s):g<w.heap.size:=Box.lt h
theorem Ak.Cu (h:Ak w g x s) (v:Nat):Ak (w.setCell ⟨g,3,none⟩ (.int .i64 (v:Nat))) g x (s.u3 v):=Box.set h 3 _
theorem Ak.Yp (h:Ak w g x s) (v:Nat):Ak (w.setCell ⟨g,4,none⟩ (.int .i64 (v:Nat))) g x (s.u4 v):=Box.set h 4 _
theorem Ak.KE (h:Ak w g x s) (v:Bool):Ak (w.setCell ⟨g,5,none⟩ (.bool v)) g x (s.u5 v):=Box.set h 5 _
theorem Ak.lN (h:Ak w g x s) (v:Nat):Ak (w.setCell ⟨g,6,none⟩ (.int .i64 (v:Nat))) g x (s.u6 v):=Box.set h 6 _
theorem Ak.lQ (h:Ak w g x s) (v:Nat):Ak (w.setCell ⟨g,7,none⟩ (.int .i64 (v:Nat))) g x (s.u7 v):=Box.set h 7 _
theorem Ak.set8 (h:Ak w g x s) (v:Int):Ak (w.setCell ⟨g,8,none⟩ (.int .i64 (v:Int))) g x (s.u8 v):=Box.set h 8 _
theorem Ak.set9 (h:Ak w g x s) (v:Int):Ak (w.setCell ⟨g,9,none⟩ (.int .i64 (v:Int))) g x (s.u9 v):=Box.set h 9 _
theorem Ak.pO (h:Ak w g x s) (v:Int):Ak (w.setCell ⟨g,10,none⟩ (.int .i64 (v:Int))) g x (s.u10 v):=Box.set h 10 _
theorem Ak.Yq (h:Ak w g x s) (v:Nat):Ak (w.setCell ⟨g,11,none⟩ (.int .u64 (v:Nat))) g x (s.u11 v):=Box.set h 11 _
theorem Ak.Yr (h:Ak w g x s) (v:Int):Ak (w.setCell ⟨g,12,none⟩ (.int .u8 (v:Int))) g x (s.u12 v):=Box.set h 12 _
theorem Ak.Yt (h:Ak w g x s) (v:Int):Ak (w.setCell ⟨g,13,none⟩ (.int .u8 (v:Int))) g x (s.u13 v):=Box.set h 13 _
theorem Ak.Yu (h:Ak w g x s) (v:Int):Ak (w.setCell ⟨g,14,none⟩ (.int .i64 (v:Int))) g x (s.u14 v):=Box.set h 14 _
theorem Ak.kD (h:Ak w g x s) (v:Bool):Ak (w.setCell ⟨g,15,none⟩ (.bool v)) g x (s.u15 v):=Box.set h 15 _
theorem Ak.kE (h:Ak w g x s) (v:Bool):Ak (w.setCell ⟨g,16,none⟩ (.bool v)) g x (s.u16 v):=Box.set h 16 _
theorem Ak.pQ (h:Ak w g x s) (v:Bool):Ak (w.setCell ⟨g,17,none⟩ (.bool v)) g x (s.u17 v):=Box.set h 17 _
theorem Ak.pR (h:Ak w g x s) (v:Bool):Ak (w.setCell ⟨g,18,none⟩ (.bool v)) g x (s.u18 v):=Box.set h 18 _
theorem Ak.kF (h:Ak w g x s) (v:Bool):Ak (w.setCell ⟨g,19,none⟩ (.bool v)) g x (s.u19 v):=Box.set h 19 _
theorem Ak.setP (h:Ak w g x s) (p:PG.Pn):Ak (((w.setCell ⟨g,8,none⟩ (.int .i64 p.1)).setCell ⟨g,9,none⟩ (.int .i64 p.2.1)).setCell ⟨g,10,none⟩ (.int .i64 p.2.2)) g x (s.uP p):=((Box.set h 8 _).set 9 _).set 10 _
theorem IsG.put {G:PG.Gr} {v:Value} {T:TypeId} {cs:Array Value} (h:IsG w G v) (hb:Box w g T cs) (hT:T≠66) (i:Nat) (u:Value):IsG (w.setCell ⟨g,i,none⟩ u) G v:=h.kept hb hT ((Kept.refl [some g] w).setCell (p:=⟨g,i,none⟩) (From.mem (by simp)) u)
theorem IsG.puts {G:PG.Gr} {v:Value} (h:IsG w G v) (hb:Ak w g x s) (i:Nat) (u:Value):IsG (w.setCell ⟨g,i,none⟩ u) G v:=h.put hb (by decide) i u
theorem Ak.kept {L:List (Option Nat)} {w':World} (h:Ak w g x s) (k:Kept L w w') (hg:some g∉L):Ak w' g x s:=Box.kept h k hg
theorem Ak.below {B:Nat} {w':World} (h:Ak w g x s) (hb:Below B w w') (hg:g<B):Ak w' g x s:=Box.below h hb hg
theorem Ak.far (h:Ak w g x s) {p:Addr} (hp:g≠p.block) (u:Value):Ak (w.setCell p u) g x s:=Box.far h hp u
theorem Ak.alloc (h:Ak w g x s) (o:Obj):Ak (w.alloc o) g x s:=Box.alloc h o
theorem Ak.drewN (h:Ak w g x s) (k:Nat):Ak (w.drewN k) g x s:=h
theorem GU:(Tryz.prog.info? 43).map (·.size)=some 29:=by kernel_rfl
theorem JG: ∃d,Tryz.prog.underlying 43=some d/\d.isRow=true:=⟨_,Tryz.underlying43,rfl⟩
theorem AX {ops:Array Oper} {rest:List Oper} {op:Oper} {a:Act} {Q:Exit->Act->World->Prop} (h:Ak w g x s) (hgd:op.guard=none) (y:Operand) (ho:op.op=.load 43 y)
  (hx:a.eval y=.pointer (some ⟨g,0,none⟩)) (hk:wpList Tryz.prog ops Q rest (a.put op.dst (.agg (scA x s))) w):wpList Tryz.prog ops Q (op::rest) a w:=by
 obtain⟨d,hu,hd⟩:=JG
 exact Kw h hgd _ y ho hx d hu hd GU hk
theorem AQ {ops:Array Oper} {rest:List Oper} {op:Oper} {a:Act} {Q:Exit->Act->World->Prop} {cs:Array Value} (h:Box w g 43 cs) (hs:cs.size=29) (hgd:op.guard=none) (y z:Operand) (ho:op.op=.store 43 y z)
  (hx:a.eval y=.pointer (some ⟨g,0,none⟩)) (hy:a.eval z=.agg (scA x s)) (h1:x.oneCell'=true)
  (hk: ∀w',Ak w' g x s->Kept [some g] w w'->w'.heap.size=w.heap.size->wpList Tryz.prog ops Q rest (a.put op.dst undef) w'):wpList Tryz.prog ops Q (op::rest) a w:=
 KD h (hs.trans (Lu x s).symm) hgd _ y z ho hx hy GU (gJ h1 s) hk
theorem Cb {fn:Func} {t:Tmp} (h:fn.results= #[.cell t 43]) {tmps:Array Value} (ht:tmps.getD t undef=.pointer (some ⟨g,0,none⟩)) (hb:Ak w g x s):(results fn tmps).run Tryz.prog w=.ok (.agg (scA x s)) w:=by
 obtain⟨d,hu,hd⟩:=JG
 have hl:=run_loadVar_mid (P:=Tryz.prog) w g 0 43 (scA x s).toList d (Box.rangeAt hb) hu hd GU
 have ht':tmps[t]?.getD undef=.pointer (some ⟨g,0,none⟩):=by simpa using ht
 simp [results,h,ht',asAddr,hl]
end
end Go.Proofs.YtoaabebgmdbjeaaGreatDoor
namespace Go.Proofs.YtoaabebgmdbjeaaGreatDoor
open Go Go.RowKit
section
variable {P:Program} {ops:Array Oper} {rest:List Oper} {o:Oper} {a:Act} {w:World} {Q:Exit->Act->World->Prop}
theorem BO {x:Value} {s:SN.Sc} (hgd:o.guard=none) (y:Operand) (ho:o.op=.box 43 y) (hy:a.eval y=.agg (scA x s))
  (hk: ∀g w',Ak w' g x s->Below w.heap.size w w'->w.heap.size<=g->wpList P ops Q rest (a.put o.dst (.pointer (some ⟨g,0,none⟩))) w'):wpList P ops Q (o::rest) a w:=by
 refine wpList_plain hgd fun K hK=>?_
 unfold Oper.wp execOp
 simp only [ho,hy]
 have:=hk w.heap.size (w.alloc (.cells (scA x s) 43)) (Box.new w _ _) ((Below.refl _ _).alloc (Nat.le_refl _) _) (Nat.le_refl _)
 go_simp
 exact hK _ _ this
theorem Bf (hgd:o.guard=none) (ho:o.op=.alloc 43)
  (hk: ∀g w' cs,Box w' g 43 cs->cs.size=29->Below w.heap.size w w'->w.heap.size<=g->wpList Tryz.prog ops Q rest (a.put o.dst (.pointer (some ⟨g,0,none⟩))) w'):wpList Tryz.prog ops Q (o::rest) a w:=by
 refine wpList_plain hgd fun K hK=>?_
 unfold Oper.wp execOp
 simp only [ho]
 have:=fun cs hs=>hk w.heap.size (w.alloc (.cells cs 43)) cs (Box.new w _ _) hs ((Below.refl _ _).alloc (Nat.le_refl _) _) (Nat.le_refl _)
 go_simp
 exact hK _ _ (this _ rfl)
theorem R7:(Tryz.prog.info? 41).map (·.size)=some 9:=by kernel_rfl
theorem Ky {x:Value} {s:SN.Sc} {g:Nat} (h:Ak w g x s) (v:SN.Sv) (hgd:o.guard=none) (y z:Operand) (ho:o.op=.store 41 y z) (hx:a.eval y=.pointer (some ⟨g,20,none⟩))
  (hy:a.eval z=.agg #[.int .i64 v.row,.int .i64 v.col,.int .i64 v.pen.1,.int .i64 v.pen.2.1,.int .i64 v.pen.2.2,.int .u8 v.s0,.int .u8 v.s1,.int .i64 v.sh,.bool v.org])
  (hk: ∀w',Ak w' g x (s.uV v)->Kept [some g] w w'->w'.heap.size=w.heap.size->wpList Tryz.prog ops Q rest (a.put o.dst undef) w'):wpList Tryz.prog ops Q (o::rest) a w:=
 Fb 20 h (by show 20+9<=(scA x s).size;rw [Lu];decide) hgd _ y z ho hx hy R7 (by simp [Value.oneCell']) (fun w' h1 h2 h3=>hk w' (by
  have e:=Yo x s v
  show Box w' g _ _
  rw [<- e]
  exact h1) h2 h3)
end
end Go.Proofs.YtoaabebgmdbjeaaGreatDoor
namespace Go.Proofs.YtoaabebgmdbjeaaGreatDoor
open Go.RowKit
def IsS (w:World) (S:SN.Sc) (v:Value):Prop:= ∃x,v=.agg (scA x S)/\IsG w S.g (gv S.g.rows S.g.AB x)
def BD (w:World) (S:SN.Sc) (e:Ending) (w':World):Prop:= ∃v,e=.returned v/\IsS w' S v/\Below w.heap.size w w'
theorem Ad {w:World} {G:PG.Gr} {x:Value} (h:IsG w G (gv G.rows G.AB x)): ∃A c,x=.slice A (G.rows*G.AB) c:=by
 obtain⟨A,c,e,_⟩:=h.open_
 simp only [gv,Value.agg.injEq] at e
 injection e with e
 simp only [List.cons.injEq] at e
 exact⟨A,c,e.2.2.1⟩
theorem Jm {w:World} {G:PG.Gr} {A:Option Addr} {n c:Nat} (h:IsG w G (gv G.rows G.AB (.slice A n c))):Au w w.heap.size A n (PG.cells G)/\n=G.rows*G.AB/\n<=c:=by
 obtain⟨A',c',e,hs,hc,_⟩:=h.open_
 simp only [gv,Value.agg.injEq] at e
 injection e with e
 simp only [List.cons.injEq] at e
 have e3:=e.2.2.1
 injection e3 with e4 e5 e6
 subst e4 e5 e6
 exact⟨hs,rfl,hc⟩
end Go.Proofs.YtoaabebgmdbjeaaGreatDoor
namespace Go.Proofs.YtoaabebgmdbjeaaGreatDoor
open Go.RowKit
def SN.pin (z:Int) (R:Nat):Nat:=(min (max z 0) ((R:Int)-1)).toNat
def SN.atS (s:SN.Sc) (r c:Int):SN.Sc:=((s.u3 (SN.pin r s.g.rows)).u4 (SN.pin c s.g.AB)).u5 false
end Go.Proofs.YtoaabebgmdbjeaaGreatDoor
namespace Go.Proofs.YtoaabebgmdbjeaaGreatDoor
open Go.RowKit
namespace SN
def cut (z:Int) (m:Nat):Nat:=(min (max z 1) (m:Int)).toNat
structure Rw where
 g:PG.Gr
 row:Int
 col:Int
 pend:Bool
 top:Int
 bot:Int
 pen:PG.Pn
 tabs:Nat
 s0:Int
 s1:Int
 sh:Int
 wrap:Bool
 org:Bool
 shown:Bool
 keys:Bool
 pad:Bool
 Du:Int
 Dv:Int
 Ba:PG.Pn
 t0:Int
 t1:Int
 th:Int
 so:Bool
def raw (s:Sc):Rw:=⟨s.g,s.row,s.col,s.pend,s.top,s.bot,s.pen,s.tabs,s.s0,s.s1,s.sh,s.wrap,s.org,s.shown,s.keys,s.pad,s.sv.row,s.sv.col,s.sv.pen,s.sv.s0,s.sv.s1,s.sv.sh,s.sv.org⟩
def R8 (x y h:Int):Bool:=(x==66||x==48)&&(y==66||y==48)&&(h==0||h==1)
def Gg (g:PG.Gr) (r c:Int):Bool:=decide (0<=r/\r<g.rows)&&decide (0<=c/\c<g.AB)
def Rw.right (q:Rw):Bool:=Gg q.g q.row q.col&&(decide (0<=q.top/\q.top<q.bot/\q.bot<q.g.rows)||decide (q.g.rows=1/\q.top=0/\q.bot=0))&&C.right q.pen.1 q.pen.2.1 q.pen.2.2&&R8 q.s0 q.s1 q.sh&&(!q.pend||(q.wrap&&decide (q.col+1=q.g.AB)))&&Gg q.g q.Du q.Dv&&C.right q.Ba.1 q.Ba.2.1 q.Ba.2.2&&R8 q.t0 q.t1 q.th
def Rw.same (a b:Rw):Bool:=a.row==b.row&&a.col==b.col&&a.pend==b.pend&&a.top==b.top&&a.bot==b.bot&&decide (a.pen=b.pen)&&a.tabs==b.tabs&&a.s0==b.s0&&a.s1==b.s1&&a.sh==b.sh&&a.wrap==b.wrap&&a.org==b.org&&a.shown==b.shown&&a.keys==b.keys&&a.pad==b.pad&&
 (a.Du==b.Du&&a.Dv==b.Dv&&decide (a.Ba=b.Ba)&&a.t0==b.t0&&a.t1==b.t1&&a.th==b.th&&a.so==b.so)
end SN
def rwA (x:Value) (q:SN.Rw):Array Value:= #[.int .i64 q.g.rows,.int .i64 q.g.AB,x,.int .i64 q.row,.int .i64 q.col,.bool q.pend,.int .i64 q.top,.int .i64 q.bot,.int .i64 q.pen.1,.int .i64 q.pen.2.1,.int .i64 q.pen.2.2,.int .u64 q.tabs,.int .u8 q.s0,.int .u8 q.s1,.int .i64 q.sh,.bool q.wrap,.bool q.org,.bool q.shown,.bool q.keys,.bool q.pad,
 .int .i64 q.Du,.int .i64 q.Dv,.int .i64 q.Ba.1,.int .i64 q.Ba.2.1,.int .i64 q.Ba.2.2,.int .u8 q.t0,.int .u8 q.t1,.int .i64 q.th,.bool q.so]
theorem gK (x:Value) (s:SN.Sc):scA x s=rwA x (SN.raw s):=rfl
theorem Vs {s:SN.Sc} (h:SN.Ac s):(SN.raw s).right=true:=by
 obtain⟨hg,h1,h2,h3,h4,h5,_,⟨a1,a2,a3⟩,h7,⟨b1,b2,b3,⟨d1,d2,d3⟩⟩⟩:=h
 unfold SN.Rw.right SN.raw SN.Gg SN.R8
 have hp:C.right s.pen.1 s.pen.2.1 s.pen.2.2=true:=h5
 have hq:C.right s.sv.pen.1 s.sv.pen.2.1 s.sv.pen.2.2=true:=b3
 simp only [Bool.and_eq_true,Bool.or_eq_true,decide_eq_true_eq,beq_iff_eq,Bool.not_eq_true']
 refine⟨⟨⟨⟨⟨⟨⟨⟨by omega,by omega⟩,?_⟩,hp⟩,⟨⟨a1,a2⟩,a3⟩⟩,?_⟩,⟨by omega,by omega⟩⟩,hq⟩,⟨⟨d1,d2⟩,d3⟩⟩
 ·rcases h4 with h | ⟨e1,e2,e3⟩
  ·exact .inl (by omega)
  ·exact .inr (by omega)
 ·cases hpn:s.pend with
  | false=>exact .inl rfl
  | true=>
   obtain⟨e1,e2⟩:=h7 hpn
   exact .inr ⟨e1,by omega⟩
end Go.Proofs.YtoaabebgmdbjeaaGreatDoor
namespace Go.Proofs.YtoaabebgmdbjeaaGreatDoor
open Go Go.RowKit
def Bj (w:World) (g:Nat) (x:Value) (q:SN.Rw):Prop:=Box w g 43 (rwA x q)
section
variable {w:World} {g:Nat} {x:Value} {q:SN.Rw}
theorem Bj.c0 (h:Bj w g x q):w.cell? ⟨g,0,none⟩=some (.int .i64 q.g.rows):=Box.cell h 0
theorem Bj.c1 (h:Bj w g x q):w.cell? ⟨g,1,none⟩=some (.int .i64 q.g.AB):=Box.cell h 1
theorem Bj.c2 (h:Bj w g x q):w.cell? ⟨g,2,none⟩=some (x):=Box.cell h 2
theorem Bj.c3 (h:Bj w g x q):w.cell? ⟨g,3,none⟩=some (.int .i64 q.row):=Box.cell h 3
theorem Bj.c4 (h:Bj w g x q):w.cell? ⟨g,4,none⟩=some (.int .i64 q.col):=Box.cell h 4
theorem Bj.c5 (h:Bj w g x q):w.cell? ⟨g,5,none⟩=some (.bool q.pend):=Box.cell h 5
theorem Bj.c6 (h:Bj w g x q):w.cell? ⟨g,6,none⟩=some (.int .i64 q.top):=Box.cell h 6
theorem Bj.c7 (h:Bj w g x q):w.cell? ⟨g,7,none⟩=some (.int .i64 q.bot):=Box.cell h 7
theorem Bj.c8 (h:Bj w g x q):w.cell? ⟨g,8,none⟩=some (.int .i64 q.pen.1):=Box.cell h 8
theorem Bj.c9 (h:Bj w g x q):w.cell? ⟨g,9,none⟩=some (.int .i64 q.pen.2.1):=Box.cell h 9
theorem Bj.c10 (h:Bj w g x q):w.cell? ⟨g,10,none⟩=some (.int .i64 q.pen.2.2):=Box.cell h 10
theorem Bj.c11 (h:Bj w g x q):w.cell? ⟨g,11,none⟩=some (.int .u64 q.tabs):=Box.cell h 11
theorem Bj.c12 (h:Bj w g x q):w.cell? ⟨g,12,none⟩=some (.int .u8 q.s0):=Box.cell h 12
theorem Bj.c13 (h:Bj w g x q):w.cell? ⟨g,13,none⟩=some (.int .u8 q.s1):=Box.cell h 13
theorem Bj.c14 (h:Bj w g x q):w.cell? ⟨g,14,none⟩=some (.int .i64 q.sh):=Box.cell h 14
theorem Bj.c15 (h:Bj w g x q):w.cell? ⟨g,15,none⟩=some (.bool q.wrap):=Box.cell h 15
theorem Bj.c16 (h:Bj w g x q):w.cell? ⟨g,16,none⟩=some (.bool q.org):=Box.cell h 16
theorem Bj.c17 (h:Bj w g x q):w.cell? ⟨g,17,none⟩=some (.bool q.shown):=Box.cell h 17
theorem Bj.c18 (h:Bj w g x q):w.cell? ⟨g,18,none⟩=some (.bool q.keys):=Box.cell h 18
theorem Bj.c19 (h:Bj w g x q):w.cell? ⟨g,19,none⟩=some (.bool q.pad):=Box.cell h 19
theorem Bj.c20 (h:Bj w g x q):w.cell? ⟨g,20,none⟩=some (.int .i64 q.Du):=Box.cell h 20
theorem Bj.c21 (h:Bj w g x q):w.cell? ⟨g,21,none⟩=some (.int .i64 q.Dv):=Box.cell h 21
theorem Bj.c22 (h:Bj w g x q):w.cell? ⟨g,22,none⟩=some (.int .i64 q.Ba.1):=Box.cell h 22
theorem Bj.c23 (h:Bj w g x q):w.cell? ⟨g,23,none⟩=some (.int .i64 q.Ba.2.1):=Box.cell h 23
theorem Bj.c24 (h:Bj w g x q):w.cell? ⟨g,24,none⟩=some (.int .i64 q.Ba.2.2):=Box.cell h 24
theorem Bj.c25 (h:Bj w g x q):w.cell? ⟨g,25,none⟩=some (.int .u8 q.t0):=Box.cell h 25
theorem Bj.c26 (h:Bj w g x q):w.cell? ⟨g,26,none⟩=some (.int .u8 q.t1):=Box.cell h 26
theorem Bj.c27 (h:Bj w g x q):w.cell? ⟨g,27,none⟩=some (.int .i64 q.th):=Box.cell h 27
theorem Bj.c28 (h:Bj w g x q):w.cell? ⟨g,28,none⟩=some (.bool q.so):=Box.cell h 28
theorem Bj.fz (h:Bj w g x q) (i:Nat):w.frozen? ⟨g,i,none⟩=false:=Box.frozen h i
theorem Bj.lt (h:Bj w g x q):g<w.heap.size:=Box.lt h
theorem Bj.kept {L:List (Option Nat)} {w':World} (h:Bj w g x q) (k:Kept L w w') (hg:some g∉L):Bj w' g x q:=Box.kept h k hg
theorem Bj.below {B:Nat} {w':World} (h:Bj w g x q) (hb:Below B w w') (hg:g<B):Bj w' g x q:=Box.below h hb hg
theorem Bj.alloc (h:Bj w g x q) (o:Obj):Bj (w.alloc o) g x q:=Box.alloc h o
variable {P:Program} {ops:Array Oper} {rest:List Oper} {o:Oper} {a:Act} {Q:Exit->Act->World->Prop}
theorem BU (hgd:o.guard=none) (y:Operand) (ho:o.op=.box 43 y) (hy:a.eval y=.agg (rwA x q))
  (hk: ∀g w',Bj w' g x q->Below w.heap.size w w'->w.heap.size<=g->wpList P ops Q rest (a.put o.dst (.pointer (some ⟨g,0,none⟩))) w'):wpList P ops Q (o::rest) a w:=by
 refine wpList_plain hgd fun K hK=>?_
 unfold Oper.wp execOp
 simp only [ho,hy]
 have:=hk w.heap.size (w.alloc (.cells (rwA x q) 43)) (Box.new w _ _) ((Below.refl _ _).alloc (Nat.le_refl _) _) (Nat.le_refl _)
 go_simp
 exact hK _ _ this
end
end Go.Proofs.YtoaabebgmdbjeaaGreatDoor
namespace Go.Proofs.YtoaabebgmdbjeaaGreatDoor.SN
end Go.Proofs.YtoaabebgmdbjeaaGreatDoor.SN
namespace Go.Proofs.YtoaabebgmdbjeaaGreatDoor
open Go Go.RowKit
section
variable {P:Program} {ops:Array Oper} {rest:List Oper} {o o2 o3:Oper} {a:Act} {w:World} {Q:Exit->Act->World->Prop} {x:Value} {s T:SN.Sc}
theorem Bc (hG:Hid (IsG w s.g (gv s.g.rows s.g.AB x))) (y:Operand) (h1:o.guard=none) (h2:o.op=.box 43 y) (h3:a.eval y=.agg (scA x s)) (h4:o2.guard=none) (h5:o2.op=.alloc 43)
  (hk: ∀g gR w2 csR,csR.size=29->Hid (Ak w2 g x s)->Hid (Below w.heap.size w w2)->Hid (Box w2 gR 43 csR)->Hid (IsG w2 s.g (gv s.g.rows s.g.AB x))->gR≠g->w.heap.size<=g->w.heap.size<=gR->
   wpList Tryz.prog ops Q rest ((a.put o.dst (.pointer (some ⟨g,0,none⟩))).put o2.dst (.pointer (some ⟨gR,0,none⟩))) w2):wpList Tryz.prog ops Q (o::o2::rest) a w:=by
 refine BO h1 y h2 h3 fun g w1 hB hb1 hg1=>?_
 refine Bf h4 h5 fun gR w2 csR hR hsR hb2 hgR=>?_
 have hl:=hB.lt
 have hz:=hb1.size
 have hW:=hb1.trans (hb2.mono hb1.size)
 exact hk g gR w2 csR hsR (hide (hB.below hb2 hB.lt)) (hide hW) (hide hR) (hide (hG.out.low hW)) (by omega) hg1 (by omega)
theorem Dw {E:TypeId} {cs:Array Value} (hG:Hid (IsG w s.g (gv s.g.rows s.g.AB x))) (y:Operand) (h1:o.guard=none) (h2:o.op=.box 43 y) (h3:a.eval y=.agg (scA x s)) (z:Operand) (h6:o3.guard=none) (h7:o3.op=.box E z) (h8: ∀g,(a.put o.dst (.pointer (some ⟨g,0,none⟩))).eval z=.agg cs)
  (h4:o2.guard=none) (h5:o2.op=.alloc 43)
  (hk: ∀g gE gR w2 csR,csR.size=29->Hid (Ak w2 g x s)->Hid (Box w2 gE E cs)->Hid (Below w.heap.size w w2)->Hid (Box w2 gR 43 csR)->Hid (IsG w2 s.g (gv s.g.rows s.g.AB x))->gR≠g->g≠gE->gR≠gE->w.heap.size<=g->w.heap.size<=gR->
   wpList Tryz.prog ops Q rest (((a.put o.dst (.pointer (some ⟨g,0,none⟩))).put o3.dst (.pointer (some ⟨gE,0,none⟩))).put o2.dst (.pointer (some ⟨gR,0,none⟩))) w2):wpList Tryz.prog ops Q (o::o3::o2::rest) a w:=by
 refine BO h1 y h2 h3 fun g w1 hB hb1 hg1=>?_
 refine wpList_plain h6 fun K hK=>?_
 unfold Oper.wp execOp
 simp only [h7,h8 g]
 have hE:=Box.new w1 E cs
 have hbE:=(Below.refl w1.heap.size w1).alloc (Nat.le_refl _) (.cells cs E)
 have hl:=hB.lt
 have hz:=hb1.size
 have hsz:(w1.alloc (.cells cs E)).heap.size=w1.heap.size+1:=by simp
 have hbW:=hb1.trans (hbE.mono hb1.size)
 have:=hK _ _ (Bf (ops:=ops) (rest:=rest) (Q:=Q) (o:=o2) (a:=(a.put o.dst (.pointer (some ⟨g,0,none⟩))).put o3.dst (.pointer (some ⟨w1.heap.size,0,none⟩))) (w:=w1.alloc (.cells cs E)) h4 h5 fun gR w2 csR hR hsR hb2 hgR=>
  hk g w1.heap.size gR w2 csR hsR (hide ((hB.below hbE hl).below hb2 (by omega))) (hide (hE.below hb2 hE.lt)) (hide (hbW.trans (hb2.mono hbW.size))) (hide hR) (hide (hG.out.low (hbW.trans (hb2.mono hbW.size)))) (by omega) (by omega) (by omega) hg1 (by omega))
 go_simp
 exact this
end
section
variable {w0 w w1 w8:World} {s T:SN.Sc} {x:Value} {g gR gE:Nat} {cs csR:Array Value} {t:Tmp}
theorem Al {K:Ending->World->Prop} (HR:Hid (Box w gR 43 csR)) (HW:Hid (Below w0.heap.size w0 w))
  (hk: ∀A c w',Hid (Box w' gR 43 csR)->Hid (Below w0.heap.size w0 w')->Hid (IsG w' T.g (gv T.g.rows T.g.AB (.slice A (T.g.rows*T.g.AB) c)))->K (.returned (.agg (scA (.slice A (T.g.rows*T.g.AB) c) T))) w'): ∀e w',BD w T e w'->K e w':=by
 rintro e w' ⟨v,rfl,⟨y,rfl,hg⟩,hb⟩
 obtain⟨A,c,rfl⟩:=Ad hg
 exact hk A c w' (hide (HR.out.below hb HR.out.lt)) (hide (HW.out.trans (hb.mono HW.out.size))) (hide hg)
theorem BX {fn:Func} {a:Act} (h:fn.results= #[.cell t 43]) (ht:a.tmps.getD t undef=.pointer (some ⟨gR,0,none⟩)) (hd:a.defers= []) (hB:Ak w8 gR x T) (hG:Hid (IsG w T.g (gv T.g.rows T.g.AB x))) (HR:Hid (Box w gR 43 csR)) (HW:Hid (Below w0.heap.size w0 w)) (hk:Kept [some gR] w w8) (hgR:w0.heap.size<=gR):bodyPost Tryz.prog fn (BD w0 T) .ret a w8:=
 bodyPost_ret (Cb h ht hB) hd ⟨_,rfl,⟨_,rfl,hG.out.kept HR.out (by decide) hk⟩,HW.out.trans (hk.toBelow HW.out.size (fun k hh=>by simp at hh;omega))⟩
theorem EJ (i:Nat) (u:Value) {G:PG.Gr} {y:Value} (HB:Hid (Ak w g x s)) (HR:Hid (Box w gR 43 csR)) (HW:Hid (Below w0.heap.size w0 w)) (HG:Hid (IsG w G y)) (hne:gR≠g) (hg:w0.heap.size<=g):
  Hid (Box (w.setCell ⟨g,i,none⟩ u) gR 43 csR)/\Hid (Below w0.heap.size w0 (w.setCell ⟨g,i,none⟩ u))/\Hid (IsG (w.setCell ⟨g,i,none⟩ u) G y):=
 ⟨hide (HR.out.far (p:=⟨g,i,none⟩) hne u),hide (HW.out.setCell (p:=⟨g,i,none⟩) hg u),hide (IsG.puts HG.out HB.out i u)⟩
theorem Jo {G:PG.Gr} {y:Value} (hb:Below w.heap.size w w1) (HB:Hid (Ak w g x s)) (HR:Hid (Box w gR 43 csR)) (HW:Hid (Below w0.heap.size w0 w)) (HG:Hid (IsG w G y)):
  Hid (Ak w1 g x s)/\Hid (Box w1 gR 43 csR)/\Hid (Below w0.heap.size w0 w1)/\Hid (IsG w1 G y):=
 ⟨hide (HB.out.below hb HB.out.lt),hide (HR.out.below hb HR.out.lt),hide (HW.out.trans (hb.mono HW.out.size)),hide (HG.out.low hb)⟩
theorem Box.Bo {t:TypeId} {a b c d e f h:Value} (x:Box w g t #[a,b,c,d,e,f,h]):
  w.cell? ⟨g,0,none⟩=some a/\w.cell? ⟨g,1,none⟩=some b/\w.cell? ⟨g,2,none⟩=some c/\w.cell? ⟨g,3,none⟩=some d/\w.cell? ⟨g,4,none⟩=some e/\w.cell? ⟨g,5,none⟩=some f/\w.cell? ⟨g,6,none⟩=some h:=
 ⟨x.cell 0,x.cell 1,x.cell 2,x.cell 3,x.cell 4,x.cell 5,x.cell 6⟩
end
end Go.Proofs.YtoaabebgmdbjeaaGreatDoor
namespace Go.Proofs.YtoaabebgmdbjeaaGreatDoor.PG
def Loose (h:Nat->Cl) (m:Nat):Prop:= ∀j,j<m->Cv (pn (h j))/\
 ((kd (h j)=0/\C.width (rn (h j))=1)\/(kd (h j)=1/\C.width (rn (h j))=2/\(j+1<m->kd (h (j+1))=2->pn (h (j+1))=pn (h j)))\/(kd (h j)=2/\rn (h j)=0))
theorem QI {h:Nat->Cl} {m:Nat} (hl:Loose h m):Bg (mend h m) m:=by
 intro j hj
 have hkind: ∀i,kd (mend h m i)=(if (kd (h i)=1/\ ¬(i+1<m/\kd (h (i+1))=2))\/(kd (h i)=2/\ ¬(0<i/\kd (h (i-1))=1)) then 0 else kd (h i)):=fun i=>by
  unfold mend
  split<;>rfl
 have hpn: ∀i,pn (mend h m i)=pn (h i):=fun i=>by
  unfold mend
  split<;>rfl
 refine⟨by rw [hpn];exact(hl j hj).1,?_⟩
 by_cases hb:(kd (h j)=1/\ ¬(j+1<m/\kd (h (j+1))=2))\/(kd (h j)=2/\ ¬(0<j/\kd (h (j-1))=1))
 ·left
  refine⟨by rw [hkind,if_pos hb],?_⟩
  unfold mend
  rw [if_pos hb]
  exact Dm
 ·have hm:mend h m j=h j:=by unfold mend;rw [if_neg hb]
  rw [hm]
  rcases(hl j hj).2 with ⟨h0,h1⟩ | ⟨h1,h2,h3⟩ | ⟨h1,h2⟩
  ·exact .inl ⟨h0,h1⟩
  ·right;left
   have hn:j+1<m/\kd (h (j+1))=2:=by
    by_cases hx:j+1<m/\kd (h (j+1))=2
    ·exact hx
    ·exact absurd (.inl ⟨h1,hx⟩) hb
   refine⟨h1,h2,hn.1,?_,by rw [hpn];exact h3 hn.1 hn.2⟩
   rw [hkind,if_neg,hn.2]
   rintro (⟨a,_⟩ | ⟨_,b⟩)
   ·omega
   ·exact b ⟨by omega,by rw [Nat.add_sub_cancel];exact h1⟩
  ·right;right
   have hn:0<j/\kd (h (j-1))=1:=by
    by_cases hx:0<j/\kd (h (j-1))=1
    ·exact hx
    ·exact absurd (.inr ⟨h1,hx⟩) hb
   refine⟨h1,h2,hn.1,?_⟩
   rw [hkind,if_neg,hn.2]
   rintro (⟨_,b⟩ | ⟨a,_⟩)
   ·exact b ⟨by omega,by rw [show j-1+1=j from by omega];exact h1⟩
   ·omega
def parted (f:Nat->Cl) (c:Nat) (j:Nat):Cl:=if kd (f c)=2/\0<c/\(j=c\/j+1=c) then blank (pn (f j)) else f j
def shifted (f:Nat->Cl) (K c:Nat) (n:Int) (p:Pn) (j:Nat):Cl:=if j<c then parted f c j else if (c:Int)<=j-n/\(j:Int)-n<K then parted f c ((j:Int)-n).toNat else blank p
def CK (g:Gr) (r c:Nat) (n:Int) (p:Pn):Gr:=if r<g.rows/\c<g.AB then ⟨g.rows,g.AB,fun i j=>if i=r then mend (shifted (g.f r) g.AB c n p) g.AB j else g.f i j⟩ else g
def Am (g:Gr) (t b:Nat) (n:Int) (p:Pn):Gr:=if b<g.rows/\t<=b then ⟨g.rows,g.AB,fun i j=>if t<=i/\i<=b then (if (t:Int)<=i+n/\(i:Int)+n<=b then g.f ((i:Int)+n).toNat j else blank p) else g.f i j⟩ else g
theorem Og {f:Nat->Cl} {K c:Nat} (hf:Bg f K) (hc:c<K):Loose (parted f c) K/\ ∀j,j+1=c->kd (parted f c j)≠1:=by
 constructor
 ·intro j hj
  have hr:=hf j hj
  unfold parted
  by_cases h:kd (f c)=2/\0<c/\(j=c\/j+1=c)
  ·rw [if_pos h]
   exact⟨hr.1,.inl ⟨rfl,Dm⟩⟩
  ·rw [if_neg h]
   refine⟨hr.1,?_⟩
   rcases hr.2 with k | ⟨k1,k2,k3,k4,k5⟩ | ⟨k1,k2,k3,k4⟩
   ·exact .inl k
   ·refine .inr (.inl ⟨k1,k2,fun _=>?_⟩)
    split
    ·intro h0;rw [H8] at h0;omega
    ·exact fun _=>k5
   ·exact .inr (.inr ⟨k1,k2⟩)
 ·intro j hj hk
  unfold parted at hk
  by_cases h:kd (f c)=2/\0<c/\(j=c\/j+1=c)
  ·rw [if_pos h,H8] at hk
   omega
  ·rw [if_neg h] at hk
   have:=hf.left (j:=j) (by omega) hk
   rw [hj] at this
   exact h ⟨this.2.2.1,by omega,.inr hj⟩
theorem ND {f:Nat->Cl} {K c:Nat} (n:Int) {p:Pn} (hf:Bg f K) (hc:c<K) (hp:Cv p):Loose (shifted f K c n p) K:=by
 obtain⟨hl,hn⟩:=Og hf hc
 intro j hj
 by_cases h1:j<c
 ·have e:shifted f K c n p j=parted f c j:=if_pos h1
  rw [e]
  have hr:=hl j hj
  refine⟨hr.1,?_⟩
  rcases hr.2 with k | ⟨k1,k2,k3⟩ | k
  ·exact .inl k
  ·refine .inr (.inl ⟨k1,k2,fun hj1=>?_⟩)
   by_cases h2:j+1<c
   ·have e2:shifted f K c n p (j+1)=parted f c (j+1):=if_pos h2
    rw [e2]
    exact k3 hj1
   ·exact absurd k1 (hn j (by omega))
  ·exact .inr (.inr k)
 ·by_cases h2:(c:Int)<=j-n/\(j:Int)-n<K
  ·have e:shifted f K c n p j=parted f c ((j:Int)-n).toNat:=by unfold shifted;rw [if_neg h1,if_pos h2]
   rw [e]
   have hr:=hl ((j:Int)-n).toNat (by omega)
   refine⟨hr.1,?_⟩
   rcases hr.2 with k | ⟨k1,k2,k3⟩ | k
   ·exact .inl k
   ·refine .inr (.inl ⟨k1,k2,fun hj1=>?_⟩)
    by_cases h3:(c:Int)<=(j+1:Nat)-n/\((j+1:Nat):Int)-n<K
    ·have e2:shifted f K c n p (j+1)=parted f c (((j:Int)-n).toNat+1):=by
      unfold shifted
      rw [if_neg (by omega),if_pos h3,show(((j+1:Nat):Int)-n).toNat=((j:Int)-n).toNat+1 from by omega]
     rw [e2]
     exact k3 (by omega)
    ·have e2:shifted f K c n p (j+1)=blank p:=by unfold shifted;rw [if_neg (by omega),if_neg h3]
     rw [e2,H8]
     intro h0
     omega
   ·exact .inr (.inr k)
  ·have e:shifted f K c n p j=blank p:=by unfold shifted;rw [if_neg h1,if_neg h2]
   rw [e]
   exact⟨hp,.inl ⟨rfl,Dm⟩⟩
theorem Oh {g:Gr} (h:BL g) {p:Pn} (hp:Cv p) (r c:Nat) (n:Int):BL (CK g r c n p):=by
 unfold CK
 by_cases hc:r<g.rows/\c<g.AB
 ·rw [if_pos hc]
  refine⟨h.1,h.2.1,h.2.2.1,h.2.2.2.1,fun i hi=>?_⟩
  by_cases hir:i=r
  ·subst hir
   simp only [if_true]
   exact QI (ND n (h.2.2.2.2 i hi) hc.2 hp)
  ·simp only [if_neg hir]
   exact h.2.2.2.2 i hi
 ·rw [if_neg hc];exact h
theorem Ey {g:Gr} (h:BL g) {p:Pn} (hp:Cv p) (t b:Nat) (n:Int):BL (Am g t b n p):=by
 unfold Am
 by_cases hc:b<g.rows/\t<=b
 ·rw [if_pos hc]
  refine⟨h.1,h.2.1,h.2.2.1,h.2.2.2.1,fun i hi=>?_⟩
  by_cases hir:t<=i/\i<=b
  ·simp only [if_pos hir]
   by_cases hn:(t:Int)<=i+n/\(i:Int)+n<=b
   ·simp only [if_pos hn]
    exact h.2.2.2.2 _ (by omega)
   ·simp only [if_neg hn]
    exact H9 p hp g.AB
  ·simp only [if_neg hir]
   exact h.2.2.2.2 i hi
 ·rw [if_neg hc];exact h
theorem Hf (g:Gr) (r c:Nat) (n:Int) (p:Pn):(CK g r c n p).rows=g.rows/\(CK g r c n p).AB=g.AB:=by
 unfold CK
 split<;>exact⟨rfl,rfl⟩
theorem Dq (g:Gr) (t b:Nat) (n:Int) (p:Pn):(Am g t b n p).rows=g.rows/\(Am g t b n p).AB=g.AB:=by
 unfold Am
 split<;>exact⟨rfl,rfl⟩
theorem Vt {g:Gr} {r c:Nat} {n:Int} {p:Pn} (h: ¬(r<g.rows/\c<g.AB)):CK g r c n p=g:=if_neg h
theorem R9 {g:Gr} {t b:Nat} {n:Int} {p:Pn} (h: ¬(b<g.rows/\t<=b)):Am g t b n p=g:=if_neg h
def Ei (g:Gr) (r c n:Int) (p:Pn):Gr:=if 0<=r/\0<=c then CK g r.toNat c.toNat n p else g
def DI (g:Gr) (t b n:Int) (p:Pn):Gr:=if 0<=t/\0<=b then Am g t.toNat b.toNat n p else g
theorem Lv {g:Gr} {r c n:Int} {p:Pn} (h: ¬(0<=r/\r<g.rows/\0<=c/\c<g.AB)):Ei g r c n p=g:=by
 unfold Ei
 split
 ·exact Vt (by omega)
 ·rfl
theorem Kl {g:Gr} {t b n:Int} {p:Pn} (h: ¬(0<=t/\t<=b/\b<g.rows)):DI g t b n p=g:=by
 unfold DI
 split
 ·exact R9 (by omega)
 ·rfl
def Bw (g:Gr) (r c what:Nat) (p:Pn):Gr:=⟨g.rows,g.AB,fun i j=>
 if what=2\/(what=0/\r<i)\/(what=1/\i<r) then blank p
 else if i=r then mend (E5 (g.f r) (if what=0 then c else 0) (if what=1 then c+1 else g.AB) p) g.AB j else g.f i j⟩
theorem Oi {g:Gr} (h:BL g) {p:Pn} (hp:Cv p) (r c what:Nat):BL (Bw g r c what p):=by
 refine⟨h.1,h.2.1,h.2.2.1,h.2.2.2.1,fun i hi=>?_⟩
 show Bg (fun j=>if what=2\/(what=0/\r<i)\/(what=1/\i<r) then blank p else if i=r then _ else g.f i j) g.AB
 by_cases h1:what=2\/(what=0/\r<i)\/(what=1/\i<r)
 ·simp only [if_pos h1]
  exact H9 p hp _
 ·simp only [if_neg h1]
  by_cases h2:i=r
  ·subst h2
   simp only [if_true]
   exact LV (h.2.2.2.2 i hi) _ _ hp
  ·simp only [if_neg h2]
   exact h.2.2.2.2 i hi
theorem Vu (g:Gr) (r c:Nat) (p:Pn):Alike (Bw g r c 2 p) (newG g.rows g.AB p):=by
 refine⟨rfl,rfl,fun i j _ _=>?_⟩
 unfold Bw newG
 simp
def Ui (f:Nat->Cl) (n:Nat):Prop:= ∀j,j<n->kd (f j)=0
def Bl (g:Gr) (r c what:Int) (p:Pn):Gr:=if (0<=r/\r<g.rows/\0<=c/\c<g.AB)/\0<=what/\what<=2 then DW g r.toNat (if what=0 then c.toNat else 0) (if what=1 then c.toNat+1 else g.AB) p else g
def Fh (g:Gr) (r c what:Int) (p:Pn):Gr:=if (0<=r/\r<g.rows/\0<=c/\c<g.AB)/\0<=what/\what<=2 then Bw g r.toNat c.toNat what.toNat p else g
theorem QJ {g:Gr} (h:BL g) {p:Pn} (hp:Cv p) (r c what:Int):BL (Bl g r c what p):=by
 unfold Bl
 split
 ·exact Kg h hp _ _ _
 ·exact h
theorem Oj {g:Gr} (h:BL g) {p:Pn} (hp:Cv p) (r c what:Int):BL (Fh g r c what p):=by
 unfold Fh
 split
 ·exact Oi h hp _ _ _
 ·exact h
theorem JH (g:Gr) (r c what:Int) (p:Pn):(Bl g r c what p).rows=g.rows/\(Bl g r c what p).AB=g.AB:=by
 unfold Bl
 split
 ·exact DL ..
 ·exact⟨rfl,rfl⟩
theorem Km (g:Gr) (r c what:Int) (p:Pn):(Fh g r c what p).rows=g.rows/\(Fh g r c what p).AB=g.AB:=by
 unfold Fh
 split<;>exact⟨rfl,rfl⟩
end Go.Proofs.YtoaabebgmdbjeaaGreatDoor.PG
namespace Go.Proofs.YtoaabebgmdbjeaaGreatDoor.PG
theorem NG {f:Nat->Cl} {n:Nat} (h:Ui f n):runes f n=(List.range n).map fun j=>rn (f j):=by
 unfold runes
 rw [List.filter_eq_self.2 fun j hj=>by
  have:=h j (List.mem_range.1 hj)
  simp [this]]
def Uj (f:Nat->Cl) (s:List Int):Prop:= ∀j x,s[j]? =some x->f j=(x,0,plain)
theorem Uj.gL {f:Nat->Cl} {s:List Int} (h:Uj f s):Ui f s.length:=fun j hj=>by
 rw [h j _ (List.getElem?_eq_getElem hj)]
 rfl
theorem Uj.runes {f:Nat->Cl} {s:List Int} (h:Uj f s):runes f s.length=s:=by
 rw [NG h.gL]
 refine List.ext_getElem? fun j=>?_
 by_cases hj:j<s.length
 ·rw [List.getElem?_map,List.getElem?_range hj,List.getElem?_eq_getElem hj]
  simp only [Option.map_some]
  rw [h j _ (List.getElem?_eq_getElem hj)]
  rfl
 ·rw [List.getElem?_eq_none (by simp;omega),List.getElem?_eq_none (by omega)]
end Go.Proofs.YtoaabebgmdbjeaaGreatDoor.PG
namespace Go.Proofs.YtoaabebgmdbjeaaGreatDoor
open Go.RowKit
namespace SN
def BI (s:Sc):PG.Pn:=(-1,s.pen.2.1,0)
def Dx (s:Sc):Sc:=if s.row=s.bot then (s.uG (PG.Am s.g s.top s.bot 1 (BI s))).u5 false else atS s ((s.row:Int)+1) s.col
def Jp (s:Sc):Sc:=if s.row=s.top then (s.uG (PG.Am s.g s.top s.bot (-1) (BI s))).u5 false else atS s ((s.row:Int)-1) s.col
def upR (s:Sc) (n:Nat):Int:=if s.top<=s.row then max ((s.row:Int)-n) s.top else (s.row:Int)-n
def Uk (s:Sc) (n:Nat):Int:=if s.row<=s.bot then min ((s.row:Int)+n) s.bot else (s.row:Int)+n
def upS (s:Sc) (n:Nat):Sc:=atS s (upR s n) s.col
def Iz (s:Sc) (n:Nat):Sc:=atS s (Uk s n) s.col
def goR (s:Sc) (r:Int):Int:=if s.org=true then min ((s.top:Int)+r) s.bot else r
def goS (s:Sc) (r c:Int):Sc:=atS s (goR s r) c
def I4 (s:Sc):Sc:=goS s 0 0
def lS (s:Sc):Sv:=⟨s.row,s.col,s.pen,s.s0,s.s1,s.sh,s.org⟩
def Kn (s:Sc):Sc:=s.uV (lS s)
def Lx (s:Sc):Sc:=atS ((((s.uP s.sv.pen).uS s.sv.s0 s.sv.s1).u14 s.sv.sh).u16 s.sv.org) s.sv.row s.sv.col
theorem L6 (z:Int) {R:Nat} (h:1<=R):pin z R<R:=by
 unfold pin
 omega
theorem Ol {r R:Nat} (h:r<R):pin r R=r:=by
 unfold pin
 omega
theorem Di {s:Sc} (h:Ac s) (r c:Int):Ac (atS s r c) where
 g:=h.g
 row:=L6 r h.g.1
 col:=L6 c h.g.2.2.1
 bot:=h.bot
 top:=h.top
 pen:=h.pen
 tabs:=h.tabs
 set:=h.set
 pend:=fun h=>nomatch h
 sv:=h.sv
theorem Bz {s:Sc} (h:Ac s):PG.Cv (BI s):=by
 have:=C.Gl.1 h.pen
 exact C.Gl.2 ⟨(by decide:C.col (-1)=true),this.2.1,by show(0:Int)<=0;omega,by show(0:Int)<=255;omega⟩
theorem IV {s:Sc} (h:Ac s) (n:Int):Ac ((s.uG (PG.Am s.g s.top s.bot n (BI s))).u5 false):=by
 obtain⟨e1,e2⟩:=PG.Dq s.g s.top s.bot n (BI s)
 generalize hG:PG.Am s.g s.top s.bot n (BI s)=G at e1 e2
 have hg:PG.BL G:=hG▸PG.Ey h.g (Bz h) _ _ _
 refine⟨hg,?_,?_,?_,?_,h.pen,h.tabs,h.set,(fun h=>nomatch h),?_⟩
 ·show s.row<G.rows
  rw [e1]
  exact h.row
 ·show s.col<G.AB
  rw [e2]
  exact h.col
 ·show s.bot<G.rows
  rw [e1]
  exact h.bot
 ·show s.top<s.bot\/(G.rows=1/\s.top=0/\s.bot=0)
  rw [e1]
  exact h.top
 ·show JY G.rows G.AB s.sv
  rw [e1,e2]
  exact h.sv
theorem JI {s:Sc} (h:Ac s):Ac (Dx s):=by
 unfold Dx
 split
 ·exact IV h 1
 ·exact Di h _ _
theorem SA {s:Sc} (h:Ac s):Ac (Jp s):=by
 unfold Jp
 split
 ·exact IV h (-1)
 ·exact Di h _ _
theorem L8 {s:Sc} (h:Ac s):Ac (Kn s):={h with sv:=⟨h.row,h.col,h.pen,h.set⟩}
theorem L9 {s:Sc} (h:Ac s):Ac (Lx s) where
 g:=h.g
 row:=L6 _ h.g.1
 col:=L6 _ h.g.2.2.1
 bot:=h.bot
 top:=h.top
 pen:=h.sv.pen
 tabs:=h.tabs
 set:=h.sv.set
 pend:=fun h=>nomatch h
 sv:=h.sv
theorem DZ {s:Sc} (h:Ac s):s.top<=s.bot:=by
 rcases h.top with h | ⟨_,h1,h2⟩<;>omega
end SN
end Go.Proofs.YtoaabebgmdbjeaaGreatDoor
namespace Go.Proofs.YtoaabebgmdbjeaaGreatDoor
open Go.RowKit
namespace SN
def GV (s:Sc) (n:Int) (on:Bool):Sc:=if n=1 then s.u18 on else if n=6 then I4 (s.u16 on) else if n=7 then (s.u15 on).u5 (s.pend&&on) else if n=25 then s.u17 on else s
def JJ (n:Int):Prop:=n=1\/n=6\/n=7\/n=25
instance (n:Int):Decidable (JJ n):=inferInstanceAs (Decidable (n=1\/n=6\/n=7\/n=25))
theorem Om (s:Sc) (on:Bool):GV s 7 on=(s.u15 on).u5 (s.pend&&on):=rfl
theorem gM (s:Sc) {n:Int} (on:Bool) (h: ¬JJ n):GV s n on=s:=by
 unfold JJ at h
 unfold GV
 rw [if_neg (by omega),if_neg (by omega),if_neg (by omega),if_neg (by omega)]
theorem Nh {s:Sc} (h:Ac s) (b:Bool):Ac (s.u16 b):=⟨h.g,h.row,h.col,h.bot,h.top,h.pen,h.tabs,h.set,h.pend,h.sv⟩
theorem Fj {s:Sc} (h:Ac s) (n:Int) (on:Bool):Ac (GV s n on):=by
 unfold GV
 split
 ·exact⟨h.g,h.row,h.col,h.bot,h.top,h.pen,h.tabs,h.set,h.pend,h.sv⟩
 ·split
  ·exact Di (Nh h on) _ _
  ·split
   ·refine⟨h.g,h.row,h.col,h.bot,h.top,h.pen,h.tabs,h.set,fun e=>?_,h.sv⟩
    have e':(s.pend&&on)=true:=e
    rw [Bool.and_eq_true] at e'
    exact⟨e'.2,(h.pend e'.1).2⟩
   ·split
    ·exact⟨h.g,h.row,h.col,h.bot,h.top,h.pen,h.tabs,h.set,h.pend,h.sv⟩
    ·exact h
end SN
end Go.Proofs.YtoaabebgmdbjeaaGreatDoor
namespace Go.Proofs.YtoaabebgmdbjeaaGreatDoor.PS
structure Pn where
 fo:Int
 ba:Int
 fl:Nat
def plain:Pn:=⟨-1, -1,0⟩
def Gh (n:Nat):Nat:= [0,1,2,4,8,16,0,32,64,128].getD n 0
theorem Oo (n:Nat):Gh n<256:=by
 unfold Gh
 rcases Nat.lt_or_ge n 10 with h | h
 ·have: ∀m,m<10-> [0,1,2,4,8,16,0,32,64,128].getD m 0<256:=by decide
  exact this n h
 ·rw [List.getD_eq_getElem?_getD,List.getElem?_eq_none (by simpa using h)]
  decide
def pos (x:Int):Nat:=(max x 0).toNat
def one (p:Pn) (n:Nat):Pn:=
 if n=0 then plain
 else if n<=9 then ⟨p.fo,p.ba,p.fl||| Gh n⟩
 else if n=22 then ⟨p.fo,p.ba,p.fl&&& 252⟩
 else if 23<=n/\n<=29 then ⟨p.fo,p.ba,p.fl&&& (255-Gh (n-20))⟩
 else if 30<=n/\n<=37 then ⟨(n:Int)-30,p.ba,p.fl⟩
 else if 40<=n/\n<=47 then ⟨p.fo,(n:Int)-40,p.fl⟩
 else if 90<=n/\n<=97 then ⟨(n:Int)-82,p.ba,p.fl⟩
 else if 100<=n/\n<=107 then ⟨p.fo,(n:Int)-92,p.fl⟩
 else if n=39 then ⟨-1,p.ba,p.fl⟩
 else if n=49 then ⟨p.fo, -1,p.fl⟩
 else p
def Ok (p:Pn):Prop:=p.fl<256
theorem pU {a b:Nat} (ha:a<256) (hb:b<256):a||| b<256:=Nat.or_lt_two_pow (n:=8) ha hb
theorem Yv {a b:Nat} (ha:a<256):a&&& b<256:=Nat.lt_of_le_of_lt Nat.and_le_left ha
theorem Gm:Ok plain:=by unfold Ok plain;decide
theorem Yw {p:Pn} (h:Ok p) (n:Nat):Ok (one p n):=by
 unfold one
 repeat' split
 all_goals first | exact Gm | exact pU h (Oo _) | exact Yv h | exact h
def wide:List Int->Option Int × Nat
 | [] =>(none,0)
 | [_] =>(none,1)
 | [a,b] =>(if a=5/\pos b<=255 then some (pos b:Nat) else none,2)
 | [a,b,c] =>if a=5 then (if pos b<=255 then some (pos b:Nat) else none,2) else (none,3)
 | a::b::c::d::r=>if a=5 then (if pos b<=255 then some (pos b:Nat) else none,2)
  else if a=2 then (if pos b<=255/\pos c<=255/\pos d<=255 then some (16777216+(pos b:Nat)*65536+(pos c:Nat)*256+(pos d:Nat)) else none,4)
  else (none,r.length+4)
theorem Im (a b c d:Int) (r:List Int):wide (a::b::c::d::r)=(if a=5 then (if pos b<=255 then some ((pos b:Nat):Int) else none,2) else if a=2 then (if pos b<=255/\pos c<=255/\pos d<=255 then some (16777216+((pos b:Nat):Int)*65536+((pos c:Nat):Int)*256+((pos d:Nat):Int)) else none,4) else (none,r.length+4):Option Int × Nat):=rfl
theorem Vv (b:Int) (hb:pos b<=255): ∀r:List Int,wide (5::b::r)=(some ((pos b:Nat):Int),2)
 | [] =>by
  show(if (5:Int)=5/\pos b<=255 then some ((pos b:Nat):Int) else none,2)=_
  rw [if_pos ⟨rfl,hb⟩]
 | [_] =>by
  show(if (5:Int)=5 then (if pos b<=255 then some ((pos b:Nat):Int) else none,2) else (none,3))=_
  rw [if_pos rfl,if_pos hb]
 | c::d::r=>by rw [Im,if_pos rfl,if_pos hb]
def SE (p:Pn):Option Int->Pn
 | none=>p
 | some c=>⟨c,p.ba,p.fl⟩
def back (p:Pn):Option Int->Pn
 | none=>p
 | some c=>⟨p.fo,c,p.fl⟩
theorem gN {p:Pn} (h:Ok p): ∀o,Ok (SE p o)
 | none=>h
 | some _=>h
theorem gQ {p:Pn} (h:Ok p): ∀o,Ok (back p o)
 | none=>h
 | some _=>h
def app:Nat->Pn->List Int->Pn
 | _,p, [] =>p
 | 0,p,_::_=>p
 | k+1,p,x::l=>if pos x=38 then app k (SE p (wide l).1) (l.drop (wide l).2)
  else if pos x=48 then app k (back p (wide l).1) (l.drop (wide l).2)
  else app k (one p (pos x)) l
theorem Fp (k:Nat) (p:Pn) (x:Int) (l:List Int):app (k+1) p (x::l)=if pos x=38 then app k (SE p (wide l).1) (l.drop (wide l).2) else if pos x=48 then app k (back p (wide l).1) (l.drop (wide l).2) else app k (one p (pos x)) l:=rfl
theorem LA (k:Nat) (p:Pn):app k p [] =p:=by cases k<;>rfl
theorem Oq: ∀(k:Nat) {p:Pn} (l:List Int),Ok p->Ok (app k p l)
 | _,p, [],h=>by rw [LA];exact h
 | 0,p,_::_,h=>h
 | k+1,p,x::l,h=>by
  rw [Fp]
  split
  ·exact Oq k _ (gN h _)
  ·split
   ·exact Oq k _ (gQ h _)
   ·exact Oq k _ (Yw h _)
theorem IW: ∀(k j:Nat) (p:Pn) (l:List Int),l.length<=k->l.length<=j->app k p l=app j p l
 | k,j,p, [],_,_=>by rw [LA,LA]
 | 0,j,p,x::l,h,_=>by simp at h
 | k+1,0,p,x::l,_,h=>by simp at h
 | k+1,j+1,p,x::l,h1,h2=>by
  simp only [List.length_cons] at h1 h2
  rw [Fp,Fp]
  split
  ·exact IW k j _ _ (by rw [List.length_drop];omega) (by rw [List.length_drop];omega)
  ·split
   ·exact IW k j _ _ (by rw [List.length_drop];omega) (by rw [List.length_drop];omega)
   ·exact IW k j _ _ (by omega) (by omega)
def sgr (p:Pn) (l:List Int):Pn:=app l.length p l
def apply (p:Pn) (l:List Int):Pn:=if l= [] then plain else sgr p l
theorem lT {p:Pn} (h:Ok p) (l:List Int):Ok (sgr p l):=Oq _ _ h
theorem Yx {p:Pn} (h:Ok p) (l:List Int):Ok (apply p l):=by
 unfold apply
 split
 ·exact Gm
 ·exact lT h l
theorem gT {x:Int} (h1:pos x≠38) (h2:pos x≠48) (p:Pn) (l:List Int):sgr p (x::l)=sgr (one p (pos x)) l:=by
 unfold sgr
 show app (l.length+1) p (x::l)=_
 rw [Fp]
 rw [if_neg h1,if_neg h2]
theorem Yy {x:Int} (h1:pos x=38) (p:Pn) (l:List Int):sgr p (x::l)=sgr (SE p (wide l).1) (l.drop (wide l).2):=by
 unfold sgr
 show app (l.length+1) p (x::l)=_
 rw [Fp]
 rw [if_pos h1]
 exact IW _ _ _ _ (by rw [List.length_drop];exact Nat.sub_le _ _) (Nat.le_refl _)
theorem Yz {x:Int} (h1:pos x=48) (p:Pn) (l:List Int):sgr p (x::l)=sgr (back p (wide l).1) (l.drop (wide l).2):=by
 unfold sgr
 show app (l.length+1) p (x::l)=_
 rw [Fp]
 rw [if_neg (by omega),if_pos h1]
 exact IW _ _ _ _ (by rw [List.length_drop];exact Nat.sub_le _ _) (Nat.le_refl _)
def Col (c:Int):Prop:=c= -1\/(0<=c/\c<=255)\/(16777216<=c/\c<33554432)
end Go.Proofs.YtoaabebgmdbjeaaGreatDoor.PS
namespace Go.Proofs.YtoaabebgmdbjeaaGreatDoor
namespace CH
def drawn:List Int:= [9670,9618,9225,9228,9229,9226,176,177,9252,9227,9496,9488,9484,9492,9532,9146,9147,9472,9148,9149,9500,9508,9524,9516,9474,8804,8805,960,8800,163,183]
def lU:List Int:= [42,35,72,70,67,76,111,43,78,86,43,43,43,43,43,45,45,45,45,95,43,43,43,43,124,60,62,112,33,76,46]
def LB (k:Nat):Int:=drawn.getD k 0
def gU (k:Nat):Int:=lU.getD k 0
def draw (b:Int):Int:=if b=95 then 32 else if 96<=b/\b<=126 then LB (b-96).toNat else b
def LC:List Int->Int->Nat
 | [],_=>0
 | d::l,r=>if d=r then 0 else LC l r+1
def place (r:Int):Nat:=LC drawn r
def plain (r:Int):Int:=if 32<=r/\r<127 then r else if place r<31 then gU (place r) else 63
theorem MB: ∀(l:List Int) (r:Int),LC l r<=l.length
 | [],_=>Nat.le_refl _
 | d::l,r=>by
  unfold LC
  split
  ·exact Nat.zero_le _
  ·have:=MB l r
   simp only [List.length_cons]
   omega
theorem ME (r:Int):place r<=31:=MB drawn r
end CH
end Go.Proofs.YtoaabebgmdbjeaaGreatDoor
