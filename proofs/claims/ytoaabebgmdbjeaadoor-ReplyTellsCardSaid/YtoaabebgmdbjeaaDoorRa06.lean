/- A part of the proof: ScreenVal, GridShift, CursorSpec, ModesSpec, ParseSpec, ParseMore, UtfLemmas, SeqSpec, ReplySpec, UtfSmall, ParseTab, ParseMove, ParseMem, ParseFeed, Same64, ParseEvents, ParseConst, StrConv. -/
import Derived.Test.YtoaabebgmdbjeaaDoorRa05
import Derived.Laws.BytesArg
import Derived.Deep.AppendLies
import Derived.Lib.SlBytesConst
import Derived.Laws.IdiomStrings
set_option maxRecDepth 100000
set_option maxHeartbeats 16000000
set_option linter.unusedVariables false
namespace Go.Proofs.YtoaabebgmdbjeaaDoor
open Go.RowKit
namespace SN.Sc
def u3 (s:SN.Sc) (v:Nat):SN.Sc:={s with row:=v}
def u4 (s:SN.Sc) (v:Nat):SN.Sc:={s with col:=v}
def u5 (s:SN.Sc) (v:Bool):SN.Sc:={s with pend:=v}
def u6 (s:SN.Sc) (v:Nat):SN.Sc:={s with top:=v}
def u7 (s:SN.Sc) (v:Nat):SN.Sc:={s with bot:=v}
def u8 (s:SN.Sc) (v:Int):SN.Sc:={s with pen:=(v,s.pen.2.1,s.pen.2.2)}
def u11 (s:SN.Sc) (v:Nat):SN.Sc:={s with tabs:=v}
def u12 (s:SN.Sc) (v:Int):SN.Sc:={s with s0:=v}
def u14 (s:SN.Sc) (v:Int):SN.Sc:={s with sh:=v}
def u15 (s:SN.Sc) (v:Bool):SN.Sc:={s with wrap:=v}
def u16 (s:SN.Sc) (v:Bool):SN.Sc:={s with org:=v}
def u17 (s:SN.Sc) (v:Bool):SN.Sc:={s with shown:=v}
def u18 (s:SN.Sc) (v:Bool):SN.Sc:={s with keys:=v}
def u19 (s:SN.Sc) (v:Bool):SN.Sc:={s with pad:=v}
def u20 (s:SN.Sc) (v:Nat):SN.Sc:={s with sv:={s.sv with row:=v}}
def u21 (s:SN.Sc) (v:Nat):SN.Sc:={s with sv:={s.sv with col:=v}}
def u22 (s:SN.Sc) (v:Int):SN.Sc:={s with sv:={s.sv with pen:=(v,s.sv.pen.2.1,s.sv.pen.2.2)}}
def u23 (s:SN.Sc) (v:Int):SN.Sc:={s with sv:={s.sv with pen:=(s.sv.pen.1,v,s.sv.pen.2.2)}}
def u24 (s:SN.Sc) (v:Int):SN.Sc:={s with sv:={s.sv with pen:=(s.sv.pen.1,s.sv.pen.2.1,v)}}
def u25 (s:SN.Sc) (v:Int):SN.Sc:={s with sv:={s.sv with s0:=v}}
def u26 (s:SN.Sc) (v:Int):SN.Sc:={s with sv:={s.sv with s1:=v}}
def u27 (s:SN.Sc) (v:Int):SN.Sc:={s with sv:={s.sv with sh:=v}}
def u28 (s:SN.Sc) (v:Bool):SN.Sc:={s with sv:={s.sv with org:=v}}
def uV (s:SN.Sc) (v:SN.Sv):SN.Sc:={s with sv:=v}
end SN.Sc
def scA (x:Value) (s:SN.Sc):Array Value:= #[.int .i64 s.g.rows,.int .i64 s.g.AO,x,.int .i64 s.row,.int .i64 s.col,.bool s.pend,.int .i64 s.top,.int .i64 s.bot,.int .i64 s.pen.1,.int .i64 s.pen.2.1,.int .i64 s.pen.2.2,.int .u64 s.tabs,.int .u8 s.s0,.int .u8 s.s1,.int .i64 s.sh,.bool s.wrap,.bool s.org,.bool s.shown,.bool s.keys,.bool s.pad,.int .i64 s.sv.row,.int .i64 s.sv.col,.int .i64 s.sv.pen.1,.int .i64 s.sv.pen.2.1,.int .i64 s.sv.pen.2.2,.int .u8 s.sv.s0,.int .u8 s.sv.s1,.int .i64 s.sv.sh,.bool s.sv.org]
theorem JU (x:Value) (s:SN.Sc):(scA x s).size=29:=rfl
theorem OH {x:Value} (hx:x.oneCell'=true) (s:SN.Sc):(scA x s).all (·.oneCell')=true:=by
 cases x<;>first | (simp [scA,Value.oneCell'];done) | (simp [Value.oneCell'] at hx)
theorem LC (x:Value) (s:SN.Sc) (v:Nat):(scA x s).setIfInBounds 20 (.int .i64 (v:Nat))=scA x (s.u20 v):=rfl
theorem LD (x:Value) (s:SN.Sc) (v:Nat):(scA x s).setIfInBounds 21 (.int .i64 (v:Nat))=scA x (s.u21 v):=rfl
theorem LG (x:Value) (s:SN.Sc) (v:Int):(scA x s).setIfInBounds 22 (.int .i64 (v:Int))=scA x (s.u22 v):=rfl
theorem LH (x:Value) (s:SN.Sc) (v:Int):(scA x s).setIfInBounds 23 (.int .i64 (v:Int))=scA x (s.u23 v):=rfl
theorem LJ (x:Value) (s:SN.Sc) (v:Int):(scA x s).setIfInBounds 24 (.int .i64 (v:Int))=scA x (s.u24 v):=rfl
theorem LK (x:Value) (s:SN.Sc) (v:Int):(scA x s).setIfInBounds 25 (.int .u8 (v:Int))=scA x (s.u25 v):=rfl
theorem LM (x:Value) (s:SN.Sc) (v:Int):(scA x s).setIfInBounds 26 (.int .u8 (v:Int))=scA x (s.u26 v):=rfl
theorem LP (x:Value) (s:SN.Sc) (v:Int):(scA x s).setIfInBounds 27 (.int .i64 (v:Int))=scA x (s.u27 v):=rfl
theorem LQ (x:Value) (s:SN.Sc) (v:Bool):(scA x s).setIfInBounds 28 (.bool v)=scA x (s.u28 v):=rfl
theorem Mc (x:Value) (s:SN.Sc) (v:SN.Sv):J4 (scA x s) 20 [.int .i64 v.row,.int .i64 v.col,.int .i64 v.pen.1,.int .i64 v.pen.2.1,.int .i64 v.pen.2.2,.int .u8 v.s0,.int .u8 v.s1,.int .i64 v.sh,.bool v.org] =scA x (s.uV v):=by
 simp only [J4]
 rw [LC,LD,LG,LH,LJ,LK,LM,LP,LQ]
 simp only [SN.Sc.u20,SN.Sc.u21,SN.Sc.u22,SN.Sc.u23,SN.Sc.u24,SN.Sc.u25,SN.Sc.u26,SN.Sc.u27,SN.Sc.u28,SN.Sc.uV]
def AY (w:World) (g:Nat) (x:Value) (s:SN.Sc):Prop:=Box w g 32 (scA x s)
section
variable {w:World} {g:Nat} {x:Value} {s:SN.Sc}
theorem AY.c0 (h:AY w g x s):w.cell? ⟨g,0,none⟩=some (.int .i64 s.g.rows):=Box.cell h 0
theorem AY.c1 (h:AY w g x s):w.cell? ⟨g,1,none⟩=some (.int .i64 s.g.AO):=Box.cell h 1
theorem AY.c3 (h:AY w g x s):w.cell? ⟨g,3,none⟩=some (.int .i64 s.row):=Box.cell h 3
theorem AY.c4 (h:AY w g x s):w.cell? ⟨g,4,none⟩=some (.int .i64 s.col):=Box.cell h 4
theorem AY.c5 (h:AY w g x s):w.cell? ⟨g,5,none⟩=some (.bool s.pend):=Box.cell h 5
theorem AY.c6 (h:AY w g x s):w.cell? ⟨g,6,none⟩=some (.int .i64 s.top):=Box.cell h 6
theorem AY.c7 (h:AY w g x s):w.cell? ⟨g,7,none⟩=some (.int .i64 s.bot):=Box.cell h 7
theorem AY.c11 (h:AY w g x s):w.cell? ⟨g,11,none⟩=some (.int .u64 s.tabs):=Box.cell h 11
theorem AY.c12 (h:AY w g x s):w.cell? ⟨g,12,none⟩=some (.int .u8 s.s0):=Box.cell h 12
theorem AY.c14 (h:AY w g x s):w.cell? ⟨g,14,none⟩=some (.int .i64 s.sh):=Box.cell h 14
theorem AY.c15 (h:AY w g x s):w.cell? ⟨g,15,none⟩=some (.bool s.wrap):=Box.cell h 15
theorem AY.c16 (h:AY w g x s):w.cell? ⟨g,16,none⟩=some (.bool s.org):=Box.cell h 16
theorem AY.c17 (h:AY w g x s):w.cell? ⟨g,17,none⟩=some (.bool s.shown):=Box.cell h 17
theorem AY.c18 (h:AY w g x s):w.cell? ⟨g,18,none⟩=some (.bool s.keys):=Box.cell h 18
theorem AY.c19 (h:AY w g x s):w.cell? ⟨g,19,none⟩=some (.bool s.pad):=Box.cell h 19
theorem AY.fz (h:AY w g x s) (i:Nat):w.frozen? ⟨g,i,none⟩=false:=Box.frozen h i
theorem AY.lt (h:AY w g x s):g<w.heap.size:=Box.lt h
theorem AY.FN (h:AY w g x s) (v:Nat):AY (w.setCell ⟨g,3,none⟩ (.int .i64 (v:Nat))) g x (s.u3 v):=Box.set h 3 _
theorem AY.set4 (h:AY w g x s) (v:Nat):AY (w.setCell ⟨g,4,none⟩ (.int .i64 (v:Nat))) g x (s.u4 v):=Box.set h 4 _
theorem AY.K6 (h:AY w g x s) (v:Bool):AY (w.setCell ⟨g,5,none⟩ (.bool v)) g x (s.u5 v):=Box.set h 5 _
theorem AY.QA (h:AY w g x s) (v:Nat):AY (w.setCell ⟨g,6,none⟩ (.int .i64 (v:Nat))) g x (s.u6 v):=Box.set h 6 _
theorem AY.Dt (h:AY w g x s) (v:Nat):AY (w.setCell ⟨g,7,none⟩ (.int .i64 (v:Nat))) g x (s.u7 v):=Box.set h 7 _
theorem AY.QB (h:AY w g x s) (v:Nat):AY (w.setCell ⟨g,11,none⟩ (.int .u64 (v:Nat))) g x (s.u11 v):=Box.set h 11 _
theorem AY.QC (h:AY w g x s) (v:Int):AY (w.setCell ⟨g,12,none⟩ (.int .u8 (v:Int))) g x (s.u12 v):=Box.set h 12 _
theorem AY.QD (h:AY w g x s) (v:Int):AY (w.setCell ⟨g,14,none⟩ (.int .i64 (v:Int))) g x (s.u14 v):=Box.set h 14 _
theorem AY.QE (h:AY w g x s) (v:Bool):AY (w.setCell ⟨g,15,none⟩ (.bool v)) g x (s.u15 v):=Box.set h 15 _
theorem AY.QF (h:AY w g x s) (v:Bool):AY (w.setCell ⟨g,16,none⟩ (.bool v)) g x (s.u16 v):=Box.set h 16 _
theorem AY.QG (h:AY w g x s) (v:Bool):AY (w.setCell ⟨g,17,none⟩ (.bool v)) g x (s.u17 v):=Box.set h 17 _
theorem AY.QH (h:AY w g x s) (v:Bool):AY (w.setCell ⟨g,18,none⟩ (.bool v)) g x (s.u18 v):=Box.set h 18 _
theorem AY.QI (h:AY w g x s) (v:Bool):AY (w.setCell ⟨g,19,none⟩ (.bool v)) g x (s.u19 v):=Box.set h 19 _
theorem IsG.put {G:PG.Gr} {v:Value} {T:TypeId} {cs:Array Value} (h:IsG w G v) (hb:Box w g T cs) (hT:T≠66) (i:Nat) (u:Value):IsG (w.setCell ⟨g,i,none⟩ u) G v:=h.kept hb hT ((Kept.refl [some g] w).setCell (p:=⟨g,i,none⟩) (From.mem (by simp)) u)
theorem AY.kept {L:List (Option Nat)} {w':World} (h:AY w g x s) (k:Kept L w w') (hg:some g∉L):AY w' g x s:=Box.kept h k hg
theorem AY.below {B:Nat} {w':World} (h:AY w g x s) (hb:Below B w w') (hg:g<B):AY w' g x s:=Box.below h hb hg
theorem AY.far (h:AY w g x s) {p:Addr} (hp:g≠p.block) (u:Value):AY (w.setCell p u) g x s:=Box.far h hp u
theorem AY.alloc (h:AY w g x s) (o:Obj):AY (w.alloc o) g x s:=Box.alloc h o
theorem AY.drewN (h:AY w g x s) (k:Nat):AY (w.drewN k) g x s:=h
theorem DR:(Tryd.prog.info? 32).map (·.size)=some 29:=by kernel_rfl
theorem Eo: ∃d,Tryd.prog.underlying 32=some d/\d.isRow=true:=⟨_,Tryd.underlying32,rfl⟩
theorem BA {ops:Array Oper} {rest:List Oper} {op:Oper} {a:Act} {Q:Exit->Act->World->Prop} (h:AY w g x s) (hgd:op.guard=none) (y:Operand) (ho:op.op=.load 32 y)
  (hx:a.eval y=.pointer (some ⟨g,0,none⟩)) (hk:wpList Tryd.prog ops Q rest (a.put op.dst (.agg (scA x s))) w):wpList Tryd.prog ops Q (op::rest) a w:=by
 obtain⟨d,hu,hd⟩:=Eo
 exact Dx h hgd _ y ho hx d hu hd DR hk
theorem BO {ops:Array Oper} {rest:List Oper} {op:Oper} {a:Act} {Q:Exit->Act->World->Prop} {cs:Array Value} (h:Box w g 32 cs) (hs:cs.size=29) (hgd:op.guard=none) (y z:Operand) (ho:op.op=.store 32 y z)
  (hx:a.eval y=.pointer (some ⟨g,0,none⟩)) (hy:a.eval z=.agg (scA x s)) (h1:x.oneCell'=true)
  (hk: ∀w',AY w' g x s->Kept [some g] w w'->w'.heap.size=w.heap.size->wpList Tryd.prog ops Q rest (a.put op.dst undef) w'):wpList Tryd.prog ops Q (op::rest) a w:=
 BN h (hs.trans (JU x s).symm) hgd _ y z ho hx hy DR (OH h1 s) hk
theorem EC {fn:Func} {t:Tmp} (h:fn.results= #[.cell t 32]) {tmps:Array Value} (ht:tmps.getD t undef=.pointer (some ⟨g,0,none⟩)) (hb:AY w g x s):(results fn tmps).run Tryd.prog w=.ok (.agg (scA x s)) w:=by
 obtain⟨d,hu,hd⟩:=Eo
 have hl:=run_loadVar_mid (P:=Tryd.prog) w g 0 32 (scA x s).toList d (Box.rangeAt hb) hu hd DR
 have ht':tmps[t]?.getD undef=.pointer (some ⟨g,0,none⟩):=by simpa using ht
 simp [results,h,ht',asAddr,hl]
end
end Go.Proofs.YtoaabebgmdbjeaaDoor
namespace Go.Proofs.YtoaabebgmdbjeaaDoor
open Go Go.RowKit
section
variable {P:Program} {ops:Array Oper} {rest:List Oper} {o:Oper} {a:Act} {w:World} {Q:Exit->Act->World->Prop}
theorem Ah {x:Value} {s:SN.Sc} (hgd:o.guard=none) (y:Operand) (ho:o.op=.box 32 y) (hy:a.eval y=.agg (scA x s))
  (hk: ∀g w',AY w' g x s->Below w.heap.size w w'->w.heap.size<=g->wpList P ops Q rest (a.put o.dst (.pointer (some ⟨g,0,none⟩))) w'):wpList P ops Q (o::rest) a w:=by
 refine wpList_plain hgd fun K hK=>?_
 unfold Oper.wp execOp
 simp only [ho,hy]
 have:=hk w.heap.size (w.alloc (.cells (scA x s) 32)) (Box.new w _ _) ((Below.refl _ _).alloc (Nat.le_refl _) _) (Nat.le_refl _)
 go_simp
 exact hK _ _ this
theorem Bc (hgd:o.guard=none) (ho:o.op=.alloc 32)
  (hk: ∀g w' cs,Box w' g 32 cs->cs.size=29->Below w.heap.size w w'->w.heap.size<=g->wpList Tryd.prog ops Q rest (a.put o.dst (.pointer (some ⟨g,0,none⟩))) w'):wpList Tryd.prog ops Q (o::rest) a w:=by
 refine wpList_plain hgd fun K hK=>?_
 unfold Oper.wp execOp
 simp only [ho]
 have:=fun cs hs=>hk w.heap.size (w.alloc (.cells cs 32)) cs (Box.new w _ _) hs ((Below.refl _ _).alloc (Nat.le_refl _) _) (Nat.le_refl _)
 go_simp
 exact hK _ _ (this _ rfl)
def O6 (w:World) (g:Nat) (cs:Array Value):Prop:=Box w g 46 cs/\cs.size=13
theorem Gu {cs:Array Value} (hsz:cs.size=13) (hgd:o.guard=none) (y:Operand) (ho:o.op=.box 46 y) (hy:a.eval y=.agg cs)
  (hk: ∀g w',O6 w' g cs->Below w.heap.size w w'->w.heap.size<=g->wpList P ops Q rest (a.put o.dst (.pointer (some ⟨g,0,none⟩))) w'):wpList P ops Q (o::rest) a w:=by
 refine wpList_plain hgd fun K hK=>?_
 unfold Oper.wp execOp
 simp only [ho,hy]
 have:=hk w.heap.size (w.alloc (.cells cs 46)) ⟨Box.new w _ _,hsz⟩ ((Below.refl _ _).alloc (Nat.le_refl _) _) (Nat.le_refl _)
 go_simp
 exact hK _ _ this
theorem OI:(Tryd.prog.info? 46).map (·.size)=some 13:=by kernel_rfl
theorem O7: ∃d,Tryd.prog.underlying 46=some d/\d.isRow=true:=⟨_,Tryd.underlying46,rfl⟩
theorem Gb {cs:Array Value} {g:Nat} (h:O6 w g cs) (hgd:o.guard=none) (y:Operand) (ho:o.op=.load 46 y) (hx:a.eval y=.pointer (some ⟨g,0,none⟩))
  (hk:wpList Tryd.prog ops Q rest (a.put o.dst (.agg cs)) w):wpList Tryd.prog ops Q (o::rest) a w:=by
 obtain⟨d,hu,hd⟩:=O7
 exact Dx h.1 hgd _ y ho hx d hu hd (by rw [h.2];exact OI) hk
theorem JV (hgd:o.guard=none) (v:Value) (h:(execOp a.eval o).run P w=.ok (.value v) w) (hk:wpList P ops Q rest (a.put o.dst v) w):wpList P ops Q (o::rest) a w:=by
 refine wpList_plain hgd fun K hK=>?_
 unfold Oper.wp
 rw [h]
 exact hK _ _ hk
theorem KD:(Tryd.prog.info? 30).map (·.size)=some 9:=by kernel_rfl
theorem Fw {x:Value} {s:SN.Sc} {g:Nat} (h:AY w g x s) (v:SN.Sv) (hgd:o.guard=none) (y z:Operand) (ho:o.op=.store 30 y z) (hx:a.eval y=.pointer (some ⟨g,20,none⟩))
  (hy:a.eval z=.agg #[.int .i64 v.row,.int .i64 v.col,.int .i64 v.pen.1,.int .i64 v.pen.2.1,.int .i64 v.pen.2.2,.int .u8 v.s0,.int .u8 v.s1,.int .i64 v.sh,.bool v.org])
  (hk: ∀w',AY w' g x (s.uV v)->Kept [some g] w w'->w'.heap.size=w.heap.size->wpList Tryd.prog ops Q rest (a.put o.dst undef) w'):wpList Tryd.prog ops Q (o::rest) a w:=
 Em 20 h (by show 20+9<=(scA x s).size;rw [JU];decide) hgd _ y z ho hx hy KD (by simp [Value.oneCell']) (fun w' h1 h2 h3=>hk w' (by
  have e:=Mc x s v
  show Box w' g _ _
  rw [<- e]
  exact h1) h2 h3)
end
end Go.Proofs.YtoaabebgmdbjeaaDoor
namespace Go.Proofs.YtoaabebgmdbjeaaDoor
open Go.RowKit
def IsS (w:World) (S:SN.Sc) (v:Value):Prop:= ∃x,v=.agg (scA x S)/\IsG w S.g (gv S.g.rows S.g.AO x)
def Md (w:World) (S:SN.Sc) (e:Ending) (w':World):Prop:= ∃v,e=.returned v/\IsS w' S v/\Below w.heap.size w w'
theorem Dk {w:World} {G:PG.Gr} {x:Value} (h:IsG w G (gv G.rows G.AO x)): ∃A c,x=.slice A (G.rows*G.AO) c:=by
 obtain⟨A,c,e,_⟩:=h.open_
 simp only [gv,Value.agg.injEq] at e
 injection e with e
 simp only [List.cons.injEq] at e
 exact⟨A,c,e.2.2.1⟩
end Go.Proofs.YtoaabebgmdbjeaaDoor
namespace Go.Proofs.YtoaabebgmdbjeaaDoor
open Go.RowKit
end Go.Proofs.YtoaabebgmdbjeaaDoor
namespace Go.Proofs.YtoaabebgmdbjeaaDoor
open Go.RowKit
namespace SN
def cut (z:Int) (m:Nat):Nat:=(min (max z 1) (m:Int)).toNat
structure Rw where
 g:PG.Gr
 row:Int
 col:Int
 pend:Bool
 top:Int
 bot:Int
 pen:PG.Pn
 tabs:Nat
 s0:Int
 s1:Int
 sh:Int
 wrap:Bool
 org:Bool
 shown:Bool
 keys:Bool
 pad:Bool
 Kk:Int
 Kl:Int
 Fh:PG.Pn
 t0:Int
 t1:Int
 th:Int
 so:Bool
def QJ (x y h:Int):Bool:=(x==66||x==48)&&(y==66||y==48)&&(h==0||h==1)
def Me (g:PG.Gr) (r c:Int):Bool:=decide (0<=r/\r<g.rows)&&decide (0<=c/\c<g.AO)
def Rw.right (q:Rw):Bool:=Me q.g q.row q.col&&(decide (0<=q.top/\q.top<q.bot/\q.bot<q.g.rows)||decide (q.g.rows=1/\q.top=0/\q.bot=0))&&C.right q.pen.1 q.pen.2.1 q.pen.2.2&&QJ q.s0 q.s1 q.sh&&(!q.pend||(q.wrap&&decide (q.col+1=q.g.AO)))&&Me q.g q.Kk q.Kl&&C.right q.Fh.1 q.Fh.2.1 q.Fh.2.2&&QJ q.t0 q.t1 q.th
def Rw.same (a b:Rw):Bool:=a.row==b.row&&a.col==b.col&&a.pend==b.pend&&a.top==b.top&&a.bot==b.bot&&decide (a.pen=b.pen)&&a.tabs==b.tabs&&a.s0==b.s0&&a.s1==b.s1&&a.sh==b.sh&&a.wrap==b.wrap&&a.org==b.org&&a.shown==b.shown&&a.keys==b.keys&&a.pad==b.pad&&
 (a.Kk==b.Kk&&a.Kl==b.Kl&&decide (a.Fh=b.Fh)&&a.t0==b.t0&&a.t1==b.t1&&a.th==b.th&&a.so==b.so)
end SN
def rwA (x:Value) (q:SN.Rw):Array Value:= #[.int .i64 q.g.rows,.int .i64 q.g.AO,x,.int .i64 q.row,.int .i64 q.col,.bool q.pend,.int .i64 q.top,.int .i64 q.bot,.int .i64 q.pen.1,.int .i64 q.pen.2.1,.int .i64 q.pen.2.2,.int .u64 q.tabs,.int .u8 q.s0,.int .u8 q.s1,.int .i64 q.sh,.bool q.wrap,.bool q.org,.bool q.shown,.bool q.keys,.bool q.pad,
 .int .i64 q.Kk,.int .i64 q.Kl,.int .i64 q.Fh.1,.int .i64 q.Fh.2.1,.int .i64 q.Fh.2.2,.int .u8 q.t0,.int .u8 q.t1,.int .i64 q.th,.bool q.so]
end Go.Proofs.YtoaabebgmdbjeaaDoor
namespace Go.Proofs.YtoaabebgmdbjeaaDoor
open Go Go.RowKit
def BS (w:World) (g:Nat) (x:Value) (q:SN.Rw):Prop:=Box w g 32 (rwA x q)
section
variable {w:World} {g:Nat} {x:Value} {q:SN.Rw}
theorem BS.c0 (h:BS w g x q):w.cell? ⟨g,0,none⟩=some (.int .i64 q.g.rows):=Box.cell h 0
theorem BS.c1 (h:BS w g x q):w.cell? ⟨g,1,none⟩=some (.int .i64 q.g.AO):=Box.cell h 1
theorem BS.c3 (h:BS w g x q):w.cell? ⟨g,3,none⟩=some (.int .i64 q.row):=Box.cell h 3
theorem BS.c4 (h:BS w g x q):w.cell? ⟨g,4,none⟩=some (.int .i64 q.col):=Box.cell h 4
theorem BS.c5 (h:BS w g x q):w.cell? ⟨g,5,none⟩=some (.bool q.pend):=Box.cell h 5
theorem BS.c6 (h:BS w g x q):w.cell? ⟨g,6,none⟩=some (.int .i64 q.top):=Box.cell h 6
theorem BS.c7 (h:BS w g x q):w.cell? ⟨g,7,none⟩=some (.int .i64 q.bot):=Box.cell h 7
theorem BS.c11 (h:BS w g x q):w.cell? ⟨g,11,none⟩=some (.int .u64 q.tabs):=Box.cell h 11
theorem BS.c12 (h:BS w g x q):w.cell? ⟨g,12,none⟩=some (.int .u8 q.s0):=Box.cell h 12
theorem BS.c14 (h:BS w g x q):w.cell? ⟨g,14,none⟩=some (.int .i64 q.sh):=Box.cell h 14
theorem BS.c15 (h:BS w g x q):w.cell? ⟨g,15,none⟩=some (.bool q.wrap):=Box.cell h 15
theorem BS.c16 (h:BS w g x q):w.cell? ⟨g,16,none⟩=some (.bool q.org):=Box.cell h 16
theorem BS.c17 (h:BS w g x q):w.cell? ⟨g,17,none⟩=some (.bool q.shown):=Box.cell h 17
theorem BS.c18 (h:BS w g x q):w.cell? ⟨g,18,none⟩=some (.bool q.keys):=Box.cell h 18
theorem BS.c19 (h:BS w g x q):w.cell? ⟨g,19,none⟩=some (.bool q.pad):=Box.cell h 19
theorem BS.fz (h:BS w g x q) (i:Nat):w.frozen? ⟨g,i,none⟩=false:=Box.frozen h i
theorem BS.lt (h:BS w g x q):g<w.heap.size:=Box.lt h
theorem BS.kept {L:List (Option Nat)} {w':World} (h:BS w g x q) (k:Kept L w w') (hg:some g∉L):BS w' g x q:=Box.kept h k hg
theorem BS.below {B:Nat} {w':World} (h:BS w g x q) (hb:Below B w w') (hg:g<B):BS w' g x q:=Box.below h hb hg
theorem BS.alloc (h:BS w g x q) (o:Obj):BS (w.alloc o) g x q:=Box.alloc h o
variable {P:Program} {ops:Array Oper} {rest:List Oper} {o:Oper} {a:Act} {Q:Exit->Act->World->Prop}
end
end Go.Proofs.YtoaabebgmdbjeaaDoor
namespace Go.Proofs.YtoaabebgmdbjeaaDoor.SN
end Go.Proofs.YtoaabebgmdbjeaaDoor.SN
namespace Go.Proofs.YtoaabebgmdbjeaaDoor.PG
end Go.Proofs.YtoaabebgmdbjeaaDoor.PG
namespace Go.Proofs.YtoaabebgmdbjeaaDoor.PG
end Go.Proofs.YtoaabebgmdbjeaaDoor.PG
namespace Go.Proofs.YtoaabebgmdbjeaaDoor
open Go.RowKit
namespace SN
end SN
end Go.Proofs.YtoaabebgmdbjeaaDoor
namespace Go.Proofs.YtoaabebgmdbjeaaDoor
open Go.RowKit
namespace SN
def Dy (s:Sc) (n:Int):Bool:=if n=1 then s.keys else if n=6 then s.org else if n=7 then s.wrap else s.shown
def BU (n:Int):Prop:=n=1\/n=6\/n=7\/n=25
instance (n:Int):Decidable (BU n):=inferInstanceAs (Decidable (n=1\/n=6\/n=7\/n=25))
def Ad (s:Sc) (n:Int):Int:=if BU n then (if Dy s n then 1 else 2) else 0
end SN
end Go.Proofs.YtoaabebgmdbjeaaDoor
namespace Go.Proofs.YtoaabebgmdbjeaaDoor.PA
def lasts:List Int:= [6,7,23,24,25,26,27,31,47,57,58,59,63,79,80,87,88,90,91,92,93,95,126,127]
def kinds:List Int:= [0,1,0,2,0,2,3,0,4,5,6,7,8,13,11,13,11,13,9,12,10,11,13,14]
def O8 (k:Nat):Int:=kinds.getD k 15
def place (b:Int):Nat:=(lasts.takeWhile (fun l=>l<b)).length
def cls (b:Int):Int:=O8 (place b)
def tab:List Int:= [
 0,0,0,0,0,0,0,0,0,0,0,0,0,0,0,0,
 32,32,0,2,16,16,16,16,16,16,16,16,16,16,0,48,
 32,32,1,2,115,145,145,145,145,5,9,11,145,145,0,49,
 32,32,1,2,4,145,145,145,145,145,145,145,145,145,0,49,
 32,32,1,2,0,1,1,1,1,1,1,1,1,1,0,49,
 32,32,1,2,119,86,8,102,70,161,161,161,161,161,0,49,
 32,32,1,2,119,80,8,96,8,161,161,161,161,161,0,49,
 32,32,1,2,8,8,8,8,8,161,161,161,161,161,0,49,
 32,32,1,2,0,0,0,0,0,1,1,1,1,1,0,49,
 0,177,1,10,128,128,128,128,128,128,128,128,128,128,128,128,
 194,194,194,194,194,194,194,194,194,194,194,194,177,194,194,194,
 0,1,1,12,0,0,0,0,0,0,0,0,0,0,0,0,
 194,194,194,194,194,194,194,194,194,194,194,194,1,194,194,194]
def cellAt (st c:Int):Int:=tab.getD (st.toNat*16+c.toNat) 0
def mv (st b:Int):Int:=cellAt st (cls b)
def act (st b:Int):Int:=mv st b-mv st b%16
def nxt (st b:Int):Int:=if mv st b%16=0 then st else mv st b%16
structure D where
 priv:Int
 inter:Int
 parts:Nat
 params:List Int
 text:List Int
def d0:D:=⟨0,0,0, [], []⟩
structure S where
 st:Int
 dec:U.St
 d:D
def s0:S:=⟨1,U.z,d0⟩
structure Ev where
 kind:Int
 rune:Int
 priv:Int
 inter:Int
 final:Int
 params:List Int
 text:List Int
def pr (r:Int):Ev:=⟨1,r,0,0,0, [], []⟩
def D.begin_ (d:D):D:=⟨d.priv,d.inter,d.parts+1,if d.parts<16 then d.params++ [-1] else d.params,d.text⟩
def up (x n:Int):Int:=if (if x<0 then 0 else x)*10+n<65535 then (if x<0 then 0 else x)*10+n else 65535
def D.first (d:D):D:=if d.parts=0 then d.begin_ else d
def D.put (d:D) (n:Int):D:=if 16<d.parts then d else ⟨d.priv,d.inter,d.parts,d.params.set (d.parts-1) (up (d.params.getD (d.parts-1) 0) n),d.text⟩
def D.digit (d:D) (n:Int):D:=d.first.put n
def D.semi (d:D):D:=d.first.begin_
def doo (s:S) (a b:Int):S × List Ev:=
 if a=16 then (s, [pr b])
 else if a=32 then (s, [⟨2,0,0,0,b, [], []⟩])
 else if a=48 then (⟨s.st,(U.it s.dec b).1,s.d⟩,(U.it s.dec b).2.map pr)
 else if a=64 then (⟨s.st,s.dec,⟨b,s.d.inter,s.d.parts,s.d.params,s.d.text⟩⟩, [])
 else if a=80 then (⟨s.st,s.dec,s.d.digit (b-48)⟩, [])
 else if a=96 then (⟨s.st,s.dec,s.d.semi⟩, [])
 else if a=112 then (⟨s.st,s.dec,⟨s.d.priv,b,s.d.parts,s.d.params,s.d.text⟩⟩, [])
 else if a=128 then ((if s.d.text.length=4096 then ⟨11,s.dec,s.d⟩ else ⟨s.st,s.dec,⟨s.d.priv,s.d.inter,s.d.parts,s.d.params,s.d.text++ [b]⟩⟩), [])
 else if a=144 then (s, [⟨3,0,0,s.d.inter,b, [], []⟩])
 else if a=160 then (s, [⟨4,0,s.d.priv,s.d.inter,b,s.d.params, []⟩])
 else if a=176 then (s, [⟨5,0,0,0,0, [],s.d.text⟩])
 else (s, [])
def brk (s:S) (b:Int):S × List Ev:=if b<128/\0<s.dec.need then (⟨s.st,U.z,s.d⟩, [pr 65533]) else (s, [])
def lets (st:Int):Bool:=decide (st=1\/st=2\/st=4\/st=8\/st=11)
def clr (s:S):S:=if lets s.st=true then ⟨s.st,s.dec,d0⟩ else s
def mid (s:S) (b:Int):Int × S:=
 if act s.st b=192 then (act (nxt s.st b) b,⟨nxt (nxt s.st b) b,s.dec,d0⟩) else (act s.st b,⟨nxt s.st b,s.dec,s.d⟩)
def take (s:S) (b:Int):S × List Ev:=
 (clr (doo (mid (brk s b).1 b).2 (mid (brk s b).1 b).1 b).1,(brk s b).2++(doo (mid (brk s b).1 b).2 (mid (brk s b).1 b).1 b).2)
structure D.ok (d:D):Prop where
 priv:0<=d.priv/\d.priv<256
 inter:0<=d.inter/\d.inter<256
 len:d.params.length=min d.parts 16
 nums: ∀x∈d.params, -1<=x/\x<=65535
 tlen:d.text.length<=4096
 bytes: ∀x∈d.text,0<=x/\x<256
structure S.ok (s:S):Prop where
 st:1<=s.st/\s.st<=12
 dec:s.dec.ok
 d:s.d.ok
def Oh (a:Int):Prop:=a=0\/a=16\/a=32\/a=48\/a=64\/a=80\/a=96\/a=112\/a=128\/a=144\/a=160\/a=176
instance (a:Int):Decidable (Oh a):=by unfold Oh;infer_instance
end Go.Proofs.YtoaabebgmdbjeaaDoor.PA
namespace Go.Proofs.YtoaabebgmdbjeaaDoor.PA
end Go.Proofs.YtoaabebgmdbjeaaDoor.PA
namespace Go.Proofs.YtoaabebgmdbjeaaDoor.PA
end Go.Proofs.YtoaabebgmdbjeaaDoor.PA
namespace Go.Proofs.YtoaabebgmdbjeaaDoor.PA
end Go.Proofs.YtoaabebgmdbjeaaDoor.PA
namespace Go.Proofs.YtoaabebgmdbjeaaDoor.U
end Go.Proofs.YtoaabebgmdbjeaaDoor.U
namespace Go.Proofs.YtoaabebgmdbjeaaDoor.PA
def Cj (r:Int):Prop:=(32<=r/\r<=126)\/(128<=r/\r<=1114111/\(r<55296\/57343<r))
def BD (i:Int):Prop:=i=0\/(32<=i/\i<=47)
def opens (f:Int):Prop:=f=91\/f=93\/f=80\/f=88\/f=94\/f=95
def CQ (p:Int):Prop:=p=0\/(60<=p/\p<=63)
instance (f:Int):Decidable (opens f):=by unfold opens;infer_instance
def Right (e:Ev):Prop:=
 (∃r,e=pr r/\Cj r)\/
 (∃b,e=⟨2,0,0,0,b, [], []⟩/\0<=b/\b<32/\b≠24/\b≠26/\b≠27)\/
 (∃i f,e=⟨3,0,0,i,f, [], []⟩/\BD i/\48<=f/\f<=126/\(i=0-> ¬opens f))\/
 (∃p i f ps,e=⟨4,0,p,i,f,ps, []⟩/\CQ p/\BD i/\64<=f/\f<=126/\ps.length<=16/\(∀x∈ps, -1<=x/\x<=65535)/\ps≠ [-1])\/
 (∃t,e=⟨5,0,0,0,0, [],t⟩/\t.length<=4096/\ ∀x∈t,32<=x/\x<256)
def Bo:Nat->Nat->List Int
 | 0,n=> [48+(n:Int)]
 | k+1,n=>if n<10 then [48+(n:Int)] else Bo k (n / 10)++ [48+((n%10:Nat):Int)]
def BI (n:Nat):List Int:=Bo 20 n
def num (x:Int):List Int:=if x= -1 then [] else BI x.toNat
def joined:List Int->List Int
 | [] => []
 | [x] =>num x
 | x::y::l=>num x++59::joined (y::l)
def Ai (i:Int):List Int:=if i=0 then [] else [i]
def bytesOf (e:Ev):List Int:=
 if e.kind=1 then U.en e.rune
 else if e.kind=2 then [e.final]
 else if e.kind=3 then 27::Ai e.inter++ [e.final]
 else if e.kind=4 then 27::91::Ai e.priv++joined e.params++Ai e.inter++ [e.final]
 else 27::93::e.text++ [7]
def Ay (es:List Ev):List Int:=es.flatMap bytesOf
end Go.Proofs.YtoaabebgmdbjeaaDoor.PA
namespace Go.Proofs.YtoaabebgmdbjeaaDoor.PA
instance (r:Int):Decidable (Cj r):=by unfold Cj;infer_instance
instance (i:Int):Decidable (BD i):=by unfold BD;infer_instance
instance (p:Int):Decidable (CQ p):=by unfold CQ;infer_instance
def Af (e:Ev):Bool:=
 if e.kind=1 then decide (Cj e.rune/\e.priv=0/\e.inter=0/\e.final=0/\e.params= [] /\e.text= [])
 else if e.kind=2 then decide (e.rune=0/\e.priv=0/\e.inter=0/\e.params= [] /\e.text= [] /\0<=e.final/\e.final<32/\e.final≠24/\e.final≠26/\e.final≠27)
 else if e.kind=3 then decide (e.rune=0/\e.priv=0/\e.params= [] /\e.text= [] /\BD e.inter/\48<=e.final/\e.final<=126/\(e.inter=0-> ¬opens e.final))
 else if e.kind=4 then decide (e.rune=0/\e.text= [] /\CQ e.priv/\BD e.inter/\64<=e.final/\e.final<=126/\e.params.length<=16/\(∀x∈e.params, -1<=x/\x<=65535)/\e.params≠ [-1])
 else if e.kind=5 then decide (e.rune=0/\e.priv=0/\e.inter=0/\e.final=0/\e.params= [] /\e.text.length<=4096/\ ∀x∈e.text,32<=x/\x<256)
 else false
theorem FC {e:Ev} (h:Af e=true):Right e:=by
 obtain⟨k,r,p,i,f,ps,t⟩:=e
 unfold Af at h
 simp only [] at h
 by_cases h1:k=1
 ·rw [if_pos h1] at h
  obtain⟨a,rfl,rfl,rfl,rfl,rfl⟩:=of_decide_eq_true h
  subst h1
  exact .inl ⟨r,rfl,a⟩
 rw [if_neg h1] at h
 by_cases h2:k=2
 ·rw [if_pos h2] at h
  obtain⟨rfl,rfl,rfl,rfl,rfl,a⟩:=of_decide_eq_true h
  subst h2
  exact .inr (.inl ⟨f,rfl,a⟩)
 rw [if_neg h2] at h
 by_cases h3:k=3
 ·rw [if_pos h3] at h
  obtain⟨rfl,rfl,rfl,rfl,a⟩:=of_decide_eq_true h
  subst h3
  exact .inr (.inr (.inl ⟨i,f,rfl,a⟩))
 rw [if_neg h3] at h
 by_cases h4:k=4
 ·rw [if_pos h4] at h
  obtain⟨rfl,rfl,a⟩:=of_decide_eq_true h
  subst h4
  exact .inr (.inr (.inr (.inl ⟨p,i,f,ps,rfl,a⟩)))
 rw [if_neg h4] at h
 by_cases h5:k=5
 ·rw [if_pos h5] at h
  obtain⟨rfl,rfl,rfl,rfl,rfl,a⟩:=of_decide_eq_true h
  subst h5
  exact .inr (.inr (.inr (.inr ⟨t,rfl,a⟩)))
 rw [if_neg h5] at h
 cases h
end Go.Proofs.YtoaabebgmdbjeaaDoor.PA
namespace Go.Proofs.YtoaabebgmdbjeaaDoor
open Go.RowKit
namespace RP
open SN
def first(l:List Int):Int:=if l.getD 0 0<1 then 0 else l.getD 0 0
def no:PA.Ev:=⟨0,0,0,0,0, [], []⟩
def place (s:Sc):PA.Ev:=⟨4,0,0,0,82, [((if s.org then s.row-s.top else s.row:Nat):Int)+1,(s.col:Int)+1], []⟩
def ans (s:Sc) (k p i f:Int) (l:List Int):PA.Ev:=
 if k≠4 then no
 else if (p=0/\i=0)/\f=110/\first l=5 then ⟨4,0,0,0,110, [0], []⟩
 else if (p=0/\i=0)/\f=110/\first l=6 then place s
 else if (p=0/\i=0)/\f=99/\first l=0 then ⟨4,0,63,0,99, [6], []⟩
 else if p=63/\i=36/\f=112 then ⟨4,0,63,36,121, [first l,Ad s (first l)], []⟩
 else no
def said (s:Sc) (k p i f:Int) (l:List Int):List Int:=
 if k≠4 then []
 else if p=63/\i=36/\f=112 then [27,91,63] ++PA.BI (first l).toNat++ [59] ++ [48+Ad s (first l)] ++ [36,121]
 else if¬(p=0/\i=0) then []
 else if f=110/\first l=5 then [27,91,48,110]
 else if f=110/\first l=6 then [27,91] ++PA.BI ((if s.org then s.row-s.top else s.row)+1)++ [59] ++PA.BI (s.col+1)++ [82]
 else if f=99/\first l=0 then [27,91,63,54,99]
 else []
theorem FD {l:List Int} (h: ∀x∈l,x<=65535):0<=first l/\first l<=65535:=by
 have:l.getD 0 0<=65535:=by
  cases l with
  | nil=>simp
  | cons a l=>simpa using h a (by simp)
 unfold first
 split<;>omega
theorem IC (s:Sc) (n:Int):0<=Ad s n/\Ad s n<=2:=by
 unfold Ad
 split
 ·split<;>omega
 ·omega
theorem Fj {s:Sc} (h1:s.row<=60000) (h2:s.col<=60000):PA.Af (place s)=true:=by
 unfold PA.Af place
 simp [PA.CQ,PA.BD]
 split<;>omega
theorem FX (s:Sc) (k p i f:Int) (l:List Int):
  (ans s k p i f l=no/\said s k p i f l= [])\/
  (k=4/\p=0/\i=0/\f=110/\first l=5/\ans s k p i f l=⟨4,0,0,0,110, [0], []⟩/\said s k p i f l= [27,91,48,110])\/
  (k=4/\p=0/\i=0/\f=110/\first l=6/\ans s k p i f l=place s/\said s k p i f l= [27,91] ++PA.BI ((if s.org then s.row-s.top else s.row)+1)++ [59] ++PA.BI (s.col+1)++ [82])\/
  (k=4/\p=0/\i=0/\f=99/\first l=0/\ans s k p i f l=⟨4,0,63,0,99, [6], []⟩/\said s k p i f l= [27,91,63,54,99])\/
  (k=4/\p=63/\i=36/\f=112/\ans s k p i f l=⟨4,0,63,36,121, [first l,Ad s (first l)], []⟩/\said s k p i f l= [27,91,63] ++PA.BI (first l).toNat++ [59] ++ [48+Ad s (first l)] ++ [36,121]):=by
 have n4: ¬(k≠4)<->k=4:=by omega
 by_cases hk:k=4
 ·by_cases hq:p=63/\i=36/\f=112
  ·right;right;right;right
   refine⟨hk,hq.1,hq.2.1,hq.2.2,?_,?_⟩
   ·unfold ans
    obtain⟨rfl,rfl,rfl⟩:=hq
    simp [hk]
   ·unfold said
    rw [if_neg (n4.2 hk),if_pos hq]
  ·by_cases h0:p=0/\i=0
   ·obtain⟨rfl,rfl⟩:=h0
    by_cases h5:f=110/\first l=5
    ·right;left
     exact⟨hk,rfl,rfl,h5.1,h5.2,by unfold ans;simp [hk,h5],by unfold said;simp [hk,h5]⟩
    ·by_cases h6:f=110/\first l=6
     ·right;right;left
      exact⟨hk,rfl,rfl,h6.1,h6.2,by unfold ans;simp [hk,h6],by unfold said;simp [hk,h6]⟩
     ·by_cases h9:f=99/\first l=0
      ·right;right;right;left
       exact⟨hk,rfl,rfl,h9.1,h9.2,by unfold ans;simp [hk,h9],by unfold said;simp [hk,h9]⟩
      ·left
       exact⟨by unfold ans;simp [hk,h5,h6,h9],by unfold said;simp [hk,h5,h6,h9]⟩
   ·left
    exact⟨by unfold ans;simp [hk,h0,hq],by unfold said;simp [hk,h0,hq]⟩
 ·left
  exact⟨by unfold ans;simp [hk],by unfold said;simp [hk]⟩
theorem F6 {x:Int} (h:0<=x):PA.num x=PA.BI x.toNat:=by
 unfold PA.num
 rw [if_neg (by omega)]
theorem OJ {x:Int} (h0:0<=x) (h:x<=9):PA.BI x.toNat= [48+x] :=by
 unfold PA.BI
 show PA.Bo (19+1) x.toNat=_
 unfold PA.Bo
 rw [if_pos (by omega)]
 congr 1
 omega
theorem Gc (s:Sc) (k p i f:Int) (l:List Int) (h1:s.row<=60000) (h2:s.col<=60000) (hl: ∀x∈l,x<=65535):
  (PA.Af (ans s k p i f l)=true/\PA.bytesOf (ans s k p i f l)=said s k p i f l/\said s k p i f l≠ [])\/(PA.Af (ans s k p i f l)=false/\said s k p i f l= []):=by
 have hf:=FD hl
 have hr:=IC s (first l)
 rcases FX s k p i f l with ⟨e1,e2⟩ | ⟨_,_,_,_,_,e1,e2⟩ | ⟨_,_,_,_,_,e1,e2⟩ | ⟨_,_,_,_,_,e1,e2⟩ | ⟨_,_,_,_,e1,e2⟩<;>rw [e1,e2]
 ·right;exact⟨rfl,rfl⟩
 ·left;refine⟨by decide,by decide,by simp⟩
 ·left
  refine⟨Fj h1 h2,?_,by simp⟩
  unfold PA.bytesOf place
  simp [PA.Ai,PA.joined]
  rw [F6 (by split<;>omega),F6 (by omega)]
  split<;>simp
 ·left;refine⟨by decide,by decide,by simp⟩
 ·left
  refine⟨?_,?_,by simp⟩
  ·unfold PA.Af
   simp [PA.CQ,PA.BD]
   omega
  ·unfold PA.bytesOf
   simp [PA.Ai,PA.joined]
   rw [F6 hf.1,F6 hr.1,OJ hr.1 (by omega)]
   simp
theorem JW (s t:Sc) (k p i f:Int) (l:List Int):(ans s k p i f l=no<->ans t k p i f l=no):=by
 unfold ans
 split<;>(try split)<;>(try split)<;>(try split)<;>(try split)<;>simp [no,place]
theorem Gv (s t:Sc) (k p i f:Int) (l:List Int) (h1:s.row<=60000) (h2:s.col<=60000) (h3:t.row<=60000) (h4:t.col<=60000) (hl: ∀x∈l,x<=65535):
  PA.Af (ans t k p i f l)=decide (said s k p i f l≠ []):=by
 have hx: ∀u:Sc,PA.Af (ans u k p i f l)=true->ans u k p i f l≠no:=fun u h e=>by rw [e] at h;exact absurd h (by decide)
 have hz: ∀u:Sc,u.row<=60000->u.col<=60000->PA.Af (ans u k p i f l)=false->ans u k p i f l=no:=fun u g1 g2 h=>by
  have hf:=FD hl
  have hr:=IC u (first l)
  rcases FX u k p i f l with ⟨e1,e2⟩ | ⟨_,_,_,_,_,e1,e2⟩ | ⟨_,_,_,_,_,e1,e2⟩ | ⟨_,_,_,_,_,e1,e2⟩ | ⟨_,_,_,_,e1,e2⟩
  ·exact e1
  ·rw [e1] at h;exact absurd h (by decide)
  ·rw [e1,Fj g1 g2] at h;exact absurd h (by decide)
  ·rw [e1] at h;exact absurd h (by decide)
  ·rcases Gc u k p i f l g1 g2 hl with ⟨h',_,_⟩ | ⟨_,h'⟩
   ·rw [h'] at h;exact absurd h (by decide)
   ·rw [e2] at h';simp at h'
 rcases Gc s k p i f l h1 h2 hl with ⟨a,_,b⟩ | ⟨a,b⟩
 ·rw [decide_eq_true b]
  by_cases ht:PA.Af (ans t k p i f l)=true
  ·exact ht
  ·exact absurd ((JW t s k p i f l).1 (hz t h3 h4 (by simpa using ht))) (hx s a)
 ·rw [b]
  simp only [ne_eq,not_true_eq_false,decide_false]
  by_cases ht:PA.Af (ans t k p i f l)=true
  ·exact absurd ((JW s t k p i f l).1 (hz s h1 h2 a)) (hx t ht)
  ·simpa using ht
theorem JX (s:Sc) (k p i f:Int) (l:List Int):(ans s k p i f l).rune=0/\(ans s k p i f l).text= [] /\0<=(ans s k p i f l).final/\(ans s k p i f l).params.length<=2:=by
 rcases FX s k p i f l with ⟨e1,e2⟩ | ⟨_,_,_,_,_,e1,e2⟩ | ⟨_,_,_,_,_,e1,e2⟩ | ⟨_,_,_,_,_,e1,e2⟩ | ⟨_,_,_,_,e1,e2⟩<;>rw [e1] <;>simp [no,place]
end RP
end Go.Proofs.YtoaabebgmdbjeaaDoor
namespace Go.Proofs.YtoaabebgmdbjeaaDoor
open Go.RowKit
theorem OL {k:IntKind} {a b:Int} (h:a=b):Ending.returned (.int k a)=.returned (.int k b):=by rw [h]
theorem KF {k:IntKind} {a b:Int} (h:a=b):Ending.returned (.int k a)=.returned (.int k b):=by rw [h]
theorem Mf {a b:Bool} (h:a=b):Ending.returned (.bool a)=.returned (.bool b):=by rw [h]
theorem DF (n:Int) (w:World):Calls Tryd.prog 53 #[.int .i64 n] w fun e w'=>e=.returned (.bool (U.isR n))/\w=w':=by
 have cs:n<0\/1114111<n\/(0<=n/\n<55296)\/(55296<=n/\n<=57343)\/(57343<n/\n<=1114111):=by omega
 have hr: ∀b:Bool,(b=true<->(0<=n/\n<=1114111/\(n<55296\/57343<n)))->Ending.returned (.bool b)=.returned (.bool (U.isR n)):=fun b hb=>Mf (by unfold U.isR;rw [Bool.eq_iff_iff,hb,decide_eq_true_iff])
 have HR:=Lib.hid hr
 clear hr
 rcases cs with h | h | h | h | h
 all_goals
  go_enter Tryd.func53,Tryd.ntmps53
  go_wp2
  go_ret
  exact⟨HR.out _ (by simp;omega),rfl⟩
theorem EF (r:Int) (w:World):Calls Tryd.prog 54 #[.int .i32 r] w fun e w'=>e=.returned (.int .i64 (U.sz r))/\w=w':=by
 have hr: ∀k:Int,U.sz r=k->Ending.returned (.int .i64 k)=.returned (.int .i64 (U.sz r)):=fun k hb=>OL hb.symm
 have HR:=Lib.hid hr
 clear hr
 have cs:r<128\/(128<=r/\r<2048)\/(2048<=r/\r<65536)\/65536<=r:=by omega
 rcases cs with h | h | h | h
 all_goals
  go_enter Tryd.func54,Tryd.ntmps54
  go_wp2
  go_ret
  exact⟨HR.out _ (by unfold U.sz;repeat(first | rw [if_pos (by omega)] | rw [if_neg (by omega)])),rfl⟩
end Go.Proofs.YtoaabebgmdbjeaaDoor
namespace Go.Proofs.YtoaabebgmdbjeaaDoor
open Go.RowKit
end Go.Proofs.YtoaabebgmdbjeaaDoor
namespace Go.Proofs.YtoaabebgmdbjeaaDoor
open Go.RowKit
end Go.Proofs.YtoaabebgmdbjeaaDoor
namespace Go.Proofs.YtoaabebgmdbjeaaDoor
open Go.RowKit
end Go.Proofs.YtoaabebgmdbjeaaDoor
namespace Go.Proofs.YtoaabebgmdbjeaaDoor
open Go.RowKit
end Go.Proofs.YtoaabebgmdbjeaaDoor
namespace Go.Proofs.YtoaabebgmdbjeaaDoor
open Go.RowKit
end Go.Proofs.YtoaabebgmdbjeaaDoor
namespace Go.Proofs.YtoaabebgmdbjeaaDoor
open Go.RowKit
def Aj (l:List Int):List Value:=l.map (Value.int .i64)
theorem JY:(Tryd.prog.info? 3).map (fun i=>(i.zero,i.size,i.bytes))=some (some (.int .i64 0),1,8):=by kernel_rfl
end Go.Proofs.YtoaabebgmdbjeaaDoor
namespace Go.Proofs.YtoaabebgmdbjeaaDoor
open Go.RowKit
def EG (e:PA.Ev) (u:Value):List Value:= [.int .i64 e.kind,.int .i32 e.rune,.int .u8 e.priv,.int .u8 e.inter,.int .u8 e.final,u,.string (strOfNums e.text)]
def Gd (M:List (PA.Ev × Value)):List Value:=M.flatMap fun p=>EG p.1 p.2
def Mg (w:World) (B:Nat) (M:List (PA.Ev × Value)):Prop:= ∀p∈M,w.ownsRow B 3 1 p.2 p.1.params.length (Aj p.1.params)
theorem Mg.kept {w w':World} {B:Nat} {M:List (PA.Ev × Value)} {L:List (Option Nat)} (h:Mg w B M) (k:Kept L w w') (hn: ∀p∈M, ∀b,p.2.ownBlock=some b->some b∉L):Mg w' B M:=
 fun p hp=>Ch (h p hp) k (hn p hp)
theorem Mg.nil (w:World) (B:Nat):Mg w B [] :=fun p hp=>by cases hp
end Go.Proofs.YtoaabebgmdbjeaaDoor
namespace Go.Proofs.YtoaabebgmdbjeaaDoor
open Go.RowKit
end Go.Proofs.YtoaabebgmdbjeaaDoor
namespace Go.Proofs.YtoaabebgmdbjeaaDoor
open Go.RowKit
end Go.Proofs.YtoaabebgmdbjeaaDoor
namespace Go.Proofs.YtoaabebgmdbjeaaDoor
open Go.RowKit
end Go.Proofs.YtoaabebgmdbjeaaDoor
namespace Go.Proofs.YtoaabebgmdbjeaaDoor
open Go.RowKit
end Go.Proofs.YtoaabebgmdbjeaaDoor
namespace Go.Proofs.YtoaabebgmdbjeaaDoor
open Go.RowKit
theorem Seen.Mh {w w':World} {L:List (Option Nat)} {A:Option Addr} {n:Nat} {xs:List Value} (h:Seen w w.heap.size A n xs) (k:Kept L w w') (hA: ∀ad,A=some ad->some ad.block∉L):Seen w' w'.heap.size A n xs:=
 ⟨h.1,fun j u hu=>by
  obtain⟨ad,h1,h2,h3⟩:=h.2 j u hu
  exact⟨ad,h1,Nat.lt_of_lt_of_le h2 k.size,(k.cell (by rw [addBlock];exact h2) (by rw [addBlock];exact hA ad h1)).trans h3⟩⟩
end Go.Proofs.YtoaabebgmdbjeaaDoor
namespace Go.Proofs.YtoaabebgmdbjeaaDoor
open Go.RowKit
end Go.Proofs.YtoaabebgmdbjeaaDoor
namespace Go.Proofs.YtoaabebgmdbjeaaDoor
open Go.RowKit
def IE (w:World) (A:Option Addr) (n:Nat) (M:List (PA.Ev × Value)):Prop:=
 M.length=n/\ ∀k p,M[k]? =some p-> ∃gb,A=some ⟨gb,0,none⟩/\gb<w.heap.size/\(∀j u,(EG p.1 p.2)[j]? =some u->w.cell? ⟨gb,k*7+j,none⟩=some u)/\
  ∃Ap cp,p.2=.slice Ap p.1.params.length cp/\Seen w w.heap.size Ap p.1.params.length (Aj p.1.params)/\p.1.params.length<=1024
theorem Ep (e:PA.Ev) (u:Value):(EG e u).length=7:=rfl
theorem IG: ∀(M:List (PA.Ev × Value)) (k j:Nat) (p:PA.Ev × Value) (u:Value),M[k]? =some p->(EG p.1 p.2)[j]? =some u->(Gd M)[k*7+j]? =some u
 | [],k,j,p,u,h,_=>by simp at h
 | q::M,0,j,p,u,h,hu=>by
  simp at h
  subst h
  have hj:j<7:=(List.getElem?_eq_some_iff.1 hu).1
  show(EG q.1 q.2++Gd M)[0*7+j]? =some u
  rw [Nat.zero_mul,Nat.zero_add,List.getElem?_append_left (by rw [Ep];exact hj)]
  exact hu
 | q::M,k+1,j,p,u,h,hu=>by
  have ih:=IG M k j p u (by simpa using h) hu
  show(EG q.1 q.2++Gd M)[(k+1)*7+j]? =some u
  rw [List.getElem?_append_right (by rw [Ep];omega),Ep,show(k+1)*7+j-7=k*7+j by omega]
  exact ih
theorem IE.kept {w w':World} {A:Option Addr} {n:Nat} {M:List (PA.Ev × Value)} (h:IE w A n M) (hb:Below w.heap.size w w'):IE w' A n M:=
 ⟨h.1,fun k p hp=>by
  obtain⟨gb,h1,h2,h3,Ap,cp,h4,h5,h6⟩:=h.2 k p hp
  exact⟨gb,h1,Nat.lt_of_lt_of_le h2 hb.size,fun j u hu=>(hb.cell (p:=⟨gb,k*7+j,none⟩) h2).trans (h3 j u hu),Ap,cp,h4,(h5.below hb).more hb.size,h6⟩⟩
theorem Box.seven {w:World} {g:Nat} {t:TypeId} {a b c d e f h:Value} (x:Box w g t #[a,b,c,d,e,f,h]):
  w.cell? ⟨g,0,none⟩=some a/\w.cell? ⟨g,1,none⟩=some b/\w.cell? ⟨g,2,none⟩=some c/\w.cell? ⟨g,3,none⟩=some d/\w.cell? ⟨g,4,none⟩=some e/\w.cell? ⟨g,5,none⟩=some f/\w.cell? ⟨g,6,none⟩=some h:=
 ⟨x.cell 0,x.cell 1,x.cell 2,x.cell 3,x.cell 4,x.cell 5,x.cell 6⟩
end Go.Proofs.YtoaabebgmdbjeaaDoor
namespace Go.Proofs.YtoaabebgmdbjeaaDoor
open Go.RowKit
theorem JZ (w:World) (s:ByteArray):(convert 9 34 (.string s)).run Tryd.prog w=.ok (.slice (some ⟨w.heap.size,0,none⟩) s.size (grownCap w s.size 0 5))
   (w.drew.alloc (.cells (bytesRow s (grownCap w s.size 0 5)) 5 ((bytesRow s (grownCap w s.size 0 5)).size,(bytesRow s (grownCap w s.size 0 5)).size+1))):=
 run_bytes_of_string w _ _ _ s Tryd.underlying9 Tryd.underlying34 Tryd.underlying5
theorem Ja {w:World} {t:TypeId} {cs:Array Value} {lo hi n g B:Nat} {xs:List Value} (hg:g=w.heap.size) (hB:w.heap.size<B) (hn:xs.length=n) (hx: ∀(j:Nat) (u:Value),xs[j]? =some u->cs[j]? =some u):Seen (w.alloc (.cells cs t (lo,hi))) B (some ⟨g,0,none⟩) n xs:=by
 subst hg
 refine⟨hn,fun j u hu=>⟨_,rfl,hB,?_⟩⟩
 rw [Addr.add_lit,Nat.zero_add,World.cell?_alloc_mark]
 exact hx j u hu
theorem Jb {w:World} {l:List Int} {cap lo hi n g B:Nat} (hl: ∀x∈l,0<=x/\x<256) (hg:g=w.heap.size) (hB:w.heap.size<B) (hn:l.length=n):Seen (w.alloc (.cells (bytesRow (strOfNums l) cap) 5 (lo,hi))) B (some ⟨g,0,none⟩) n (u8s l):=by
 refine Ja hg hB (by simpa [u8s] using hn) (fun j u hu=>?_)
 rw [u8s,List.getElem?_map] at hu
 obtain⟨x,hx,rfl⟩:=Option.map_eq_some_iff.1 hu
 have hj:j<l.length:=(List.getElem?_eq_some_iff.1 hx).1
 have hxr:=hl x (List.mem_of_getElem? hx)
 have hjs:j<(strOfNums l).data.size:=by simpa [strOfNums] using hj
 rw [bytesRow_at _ _ _ hjs]
 have hx':l[j] =x:=by rw [List.getElem?_eq_getElem hj] at hx;exact Option.some.inj hx
 have:(strOfNums l).data[j] =UInt8.ofNat x.toNat:=by simp [strOfNums,hx']
 rw [this]
 simp
 omega
end Go.Proofs.YtoaabebgmdbjeaaDoor
namespace Go.Proofs.YtoaabebgmdbjeaaDoor
open Go.RowKit
theorem Cc {w:World} {B n c:Nat} {A:Option Addr} {l:List Int} (h:Seen w B A n (u8s l)):(convert 34 9 (.slice A n c)).run Tryd.prog w=.ok (.string (strOfNums l)) w:=by
 have hl:l.length=n:=by simpa [u8s] using h.1
 rcases A with _ | ad
 ·have:l= [] :=by
   rcases l with _ | ⟨x,l⟩
   ·rfl
   ·obtain⟨ad,h0,_⟩:=h.2 0 _ rfl
    cases h0
  subst this
  exact run_convert_bytes_nil w _ _ Tryd.underlying34 Tryd.underlying5 _ _ _ Tryd.underlying9
 ·have hh:(loadCells ad n).run Tryd.prog w=.ok ((l.map (Value.int .u8)).toArray) w:=by
   have:=run_loadCells_list (P:=Tryd.prog) w ad (l.map (Value.int .u8)) (fun j v hj=>by
    obtain⟨ad',h1,_,h3⟩:=h.2 j v hj
    injection h1 with h1
    subst h1
    exact h3)
   simpa [hl] using this
  rw [run_convert_bytes_string w _ _ _ _ n c Tryd.underlying34 Tryd.underlying5 Tryd.underlying9,run_bytesToString w _ n c l hh,foldl_push_bytes]
  simp [strOfNums,ByteArray.empty,ByteArray.emptyWithCapacity]
  rfl
def Gf (w:World) (s:ByteArray):Nat:=grownCap w s.size 0 5
def Ck (w:World) (s:ByteArray):World:=w.drew.alloc (.cells (bytesRow s (Gf w s)) 5 ((bytesRow s (Gf w s)).size,(bytesRow s (Gf w s)).size+1))
theorem Mi (w:World) (s:ByteArray):(convert 9 34 (.string s)).run Tryd.prog w=.ok (.slice (some ⟨w.heap.size,0,none⟩) s.size (Gf w s)) (Ck w s):=JZ w s
theorem Gg (w:World) (s:ByteArray):Below w.heap.size w (Ck w s):=(Below.refl _ _).drew.alloc (Nat.le_refl _) _
theorem Gw (w:World) (s:ByteArray):(Ck w s).heap.size=w.heap.size+1:=by simp [Ck]
theorem Gx {w:World} {s:ByteArray} {l:List Int} {n:Nat} (hs:s=strOfNums l) (hl: ∀x∈l,0<=x/\x<256) (hn:l.length=n):Seen (Ck w s) (Ck w s).heap.size (some ⟨w.heap.size,0,none⟩) n (u8s l):=by
 subst hs
 exact Jb hl rfl (by rw [Gw];exact Nat.lt_succ_self _) hn
theorem strOfNums_size (l:List Int):(strOfNums l).size=l.length:=by simp [strOfNums,ByteArray.size]
end Go.Proofs.YtoaabebgmdbjeaaDoor
