/- A part of the proof: SourceSpec, ParseSpec, ParseMore, UtfLemmas, SeqSpec, EventSpec, TabsFun, CharsetTab, RefPen10, CellPack. -/
import Derived.Test.YteecohpaecgdlaaGreatDoorQa08
import Derived.Laws.ShiftsVar
import Derived.Shelf.Spec.TrailingZeros
set_option maxRecDepth 100000
set_option maxHeartbeats 16000000
set_option linter.unusedVariables false
namespace Go.Proofs.YteecohpaecgdlaaGreatDoor
open Go.RowKit
namespace PS
theorem Qi {n:Int} (h0:0<=n) (h:n<=255):Col n:=.inr (.inl ⟨h0,h⟩)
theorem Uk:Col (-1):=.inl rfl
theorem jg {p:Pn} (h1:Col p.fo) (h2:Col p.ba) (n:Nat):Col (one p n).fo/\Col (one p n).ba:=by
 unfold one
 repeat' split
 all_goals (refine⟨?_,?_⟩<;>(try dsimp only [plain])<;>first | exact h1 | exact h2 | exact Uk | exact Qi (by omega) (by omega))
theorem Rv: ∀(l:List Int) (c:Int),(wide l).1=some c->Col c
 | [],c,h=>by simp [wide] at h
 | [_],c,h=>by simp [wide] at h
 | [a,b],c,h=>by
  simp only [wide] at h
  split at h
  ·rename_i hh
   simp only [Option.some.injEq] at h
   subst h
   exact Qi (by omega) (by omega)
  ·cases h
 | [a,b,d],c,h=>by
  simp only [wide] at h
  split at h
  ·split at h
   ·simp only [Option.some.injEq] at h
    subst h
    exact Qi (by omega) (by omega)
   ·cases h
  ·cases h
 | a::b::d::e::r,c,h=>by
  simp only [wide] at h
  split at h
  ·split at h
   ·simp only [Option.some.injEq] at h
    subst h
    exact Qi (by omega) (by omega)
   ·cases h
  ·repeat' (split at h)
   all_goals first | (cases h;done) | (simp only [Option.some.injEq] at h;subst h;exact .inr (.inr (by omega)))
theorem bG {p:Pn} (h1:Col p.fo) (h2:Col p.ba) {o:Option Int} (ho: ∀c,o=some c->Col c):Col (Uj p o).fo/\Col (Uj p o).ba:=by
 cases o with
 | none=>exact⟨h1,h2⟩
 | some c=>exact⟨ho c rfl,h2⟩
theorem bH {p:Pn} (h1:Col p.fo) (h2:Col p.ba) {o:Option Int} (ho: ∀c,o=some c->Col c):Col (back p o).fo/\Col (back p o).ba:=by
 cases o with
 | none=>exact⟨h1,h2⟩
 | some c=>exact⟨h1,ho c rfl⟩
theorem Mr: ∀(k:Nat) {p:Pn} (l:List Int),Col p.fo->Col p.ba->Col (app k p l).fo/\Col (app k p l).ba
 | _,p, [],h1,h2=>by rw [Mk];exact⟨h1,h2⟩
 | 0,p,_::_,h1,h2=>⟨h1,h2⟩
 | k+1,p,x::l,h1,h2=>by
  rw [GD]
  split
  ·have:=bG h1 h2 (Rv l)
   exact Mr k _ this.1 this.2
  ·split
   ·have:=bH h1 h2 (Rv l)
    exact Mr k _ this.1 this.2
   ·have:=jg h1 h2 (pos x)
    exact Mr k _ this.1 this.2
theorem YC {p:Pn} (h1:Col p.fo) (h2:Col p.ba) (l:List Int):Col (apply p l).fo/\Col (apply p l).ba:=by
 unfold apply
 split
 ·exact⟨Uk,Uk⟩
 ·exact Mr _ _ h1 h2
end PS
namespace SN
def bI (p:PG.Pn) (l:List Int):PG.Pn:=((PS.apply ⟨p.1,p.2.1,p.2.2.toNat⟩ l).fo,(PS.apply ⟨p.1,p.2.1,p.2.2.toNat⟩ l).ba,((PS.apply ⟨p.1,p.2.1,p.2.2.toNat⟩ l).fl:Nat))
theorem Ig {c:Int}:C.col c=true<->PS.Col c:=by
 unfold C.col PS.Col
 simp
theorem YD {p:PG.Pn} (h:PG.CQ p) (l:List Int):PG.CQ (bI p l):=by
 obtain⟨h1,h2,h3,h4⟩:=C.Eb.1 h
 have c:=PS.YC (p:=⟨p.1,p.2.1,p.2.2.toNat⟩) (Ig.1 h1) (Ig.1 h2) l
 have o:=PS.bD (p:=⟨p.1,p.2.1,p.2.2.toNat⟩) (show p.2.2.toNat<256 by omega) l
 unfold PS.Ok at o
 refine C.Eb.2 ⟨Ig.2 c.1,Ig.2 c.2,?_,?_⟩
 ·show(0:Int)<=((PS.apply ⟨p.1,p.2.1,p.2.2.toNat⟩ l).fl:Nat)
  omega
 ·show(((PS.apply ⟨p.1,p.2.1,p.2.2.toNat⟩ l).fl:Nat):Int)<=255
  omega
def bJ (s:Sc):Int:=if s.sh=0 then s.s0 else s.s1
def Ho (s:Sc) (x:Int):Int:=if bJ s=48/\95<=x/\x<=126 then CH.draw x else x
theorem YE {s:Sc} {r p:Int} (h0:0<=r) (h1:r<=1114111) (h:Ho s r=p): -2147483648<=p/\p<=2147483647:=by
 subst h
 unfold Ho
 split
 ·rename_i hh
  have e: ∀k:Fin 32, -2147483648<=CH.draw (95+(k.val:Int))/\CH.draw (95+(k.val:Int))<=2147483647:=by decide
  have:=e ⟨(r-95).toNat,by omega⟩
  rw [show(95+(((⟨(r-95).toNat,by omega⟩:Fin 32).val:Nat):Int))=r by show(95+(((r-95).toNat:Nat):Int))=r;omega] at this
  exact this
 ·omega
def K8 (s:Sc) (w:Nat):Sc:=if s.wrap=true/\(s.pend=true\/s.g.AB<s.col+w) then Dp (s.u4 0) else s
def Dy (s:Sc) (w:Nat):Nat:=min s.col (s.g.AB-w)
def D8 (s:Sc) (x:Int) (w:Nat):Sc:=
 if s.g.AB<=Dy s w+w then ((s.uG (PG.EH s.g s.row (Dy s w) x s.pen)).u4 (s.g.AB-1)).u5 s.wrap
 else ((s.uG (PG.EH s.g s.row (Dy s w) x s.pen)).u4 (Dy s w+w)).u5 false
def KU (s:Sc) (r:Int):Sc:=if C.width (Ho s r)=0\/(s.g.AB:Int)<C.width (Ho s r) then s else D8 (K8 s (C.width (Ho s r)).toNat) (Ho s r) (C.width (Ho s r)).toNat
def GI (s:Sc) (b:Int):Sc:=
 if b=8 then atS s s.row ((s.col:Int)-1)
 else if b=9 then atS s s.row (TB.next s.tabs s.col s.g.AB)
 else if b=10\/b=11\/b=12 then Dp s
 else if b=13 then atS s s.row 0
 else if b=14 then s.u14 1
 else if b=15 then s.u14 0
 else s
def Fg (s:Sc) (it fn:Int):Sc:=
 if it=40\/it=41 then (if fn=48\/fn=66 then (if it=40 then s.u12 fn else s.u13 fn) else s)
 else if it≠0 then s
 else if fn=55 then Gz s
 else if fn=56 then J8 s
 else if fn=68 then Dp s
 else if fn=69 then Dp (s.u4 0)
 else if fn=77 then K7 s
 else if fn=72 then s.u11 (TB.Jz s.tabs s.col)
 else if fn=99 then full s.g.rows s.g.AB
 else if fn=61 then s.u19 true
 else if fn=62 then s.u19 false
 else s
def BX (l:List Int) (i:Nat) (d:Int):Int:=if l.getD i 0<1 then d else l.getD i 0
def J9 (s:Sc) (fn:Int) (l:List Int):Option Sc:=
 if fn=65 then some (upS s (BX l 0 1).toNat)
 else if fn=66 then some (J7 s (BX l 0 1).toNat)
 else if fn=67 then some (atS s s.row ((s.col:Int)+BX l 0 1))
 else if fn=68 then some (atS s s.row ((s.col:Int)-BX l 0 1))
 else if fn=69 then some (atS s (Wj s (BX l 0 1).toNat) 0)
 else if fn=70 then some (atS s (upR s (BX l 0 1).toNat) 0)
 else if fn=71\/fn=96 then some (atS s s.row (BX l 0 1-1))
 else if fn=100 then some (goS s (BX l 0 1-1) s.col)
 else if fn=72\/fn=102 then some (goS s (BX l 0 1-1) (BX l 1 1-1))
 else none
def InM (s:Sc):Prop:=s.top<=s.row/\s.row<=s.bot
instance (s:Sc):Decidable (InM s):=inferInstanceAs (Decidable (_/\_))
def marginTop (l:List Int):Int:=BX l 0 1-1
def Bt (s:Sc) (l:List Int):Int:=min (BX l 1 s.g.rows) s.g.rows-1
def GK (s:Sc) (fn:Int) (l:List Int):Sc:=
 if fn=74 then (s.uG (PG.EI s.g s.row s.col (BX l 0 0) (Aq s))).u5 false
 else if fn=75 then (s.uG (PG.Bf s.g s.row s.col (BX l 0 0) (Aq s))).u5 false
 else if fn=76 then (if InM s then atS (s.uG (PG.Al s.g s.row s.bot (-(BX l 0 1)) (Aq s))) s.row 0 else s)
 else if fn=77 then (if InM s then atS (s.uG (PG.Al s.g s.row s.bot (BX l 0 1) (Aq s))) s.row 0 else s)
 else if fn=64 then (s.uG (PG.CK s.g s.row s.col (BX l 0 1) (Aq s))).u5 false
 else if fn=80 then (s.uG (PG.CK s.g s.row s.col (-(BX l 0 1)) (Aq s))).u5 false
 else if fn=88 then (s.uG (PG.Cj s.g s.row s.col (s.col+(BX l 0 1).toNat) (Aq s))).u5 false
 else if fn=83 then s.uG (PG.Al s.g s.top s.bot (BX l 0 1) (Aq s))
 else if fn=84 then s.uG (PG.Al s.g s.top s.bot (-(BX l 0 1)) (Aq s))
 else if fn=109 then s.uP (bI s.pen l)
 else if fn=114 then (if marginTop l<Bt s l then IU ((s.u6 (marginTop l).toNat).u7 (Bt s l).toNat) else s)
 else if fn=103 then (if BX l 0 0=0 then s.u11 (TB.drop1 s.tabs s.col) else if BX l 0 0=3 then s.u11 0 else s)
 else if fn=115 then Gz s
 else if fn=117 then J8 s
 else s
def Cm (s:Sc) (on:Bool) (l:List Int):Sc:=l.foldl (fun t n=>G5 t n on) s
def Rx (s:Sc) (pv it fn:Int) (l:List Int):Sc:=
 if it≠0\/(pv≠0/\pv≠63) then s
 else if pv=63 then (if fn=104 then Cm s true l else if fn=108 then Cm s false l else s)
 else (J9 s fn l).getD (GK s fn l)
def doS (s:Sc) (kd rn pv it fn:Int) (l:List Int):Sc:=
 if kd=1 then KU s rn else if kd=2 then GI s fn else if kd=3 then Fg s it fn else if kd=4 then Rx s pv it fn l else s
theorem GL {s:Sc} (h:Ad s) {G:PG.Gr} (hG:PG.BD G) (h1:G.rows=s.g.rows) (h2:G.AB=s.g.AB):Ad (s.uG G):=by
 refine⟨hG,?_,?_,?_,?_,h.pen,h.tabs,h.set,?_,?_⟩
 ·show s.row<G.rows
  rw [h1];exact h.row
 ·show s.col<G.AB
  rw [h2];exact h.col
 ·show s.bot<G.rows
  rw [h1];exact h.bot
 ·show s.top<s.bot\/(G.rows=1/\s.top=0/\s.bot=0)
  rw [h1];exact h.top
 ·show s.pend=true->s.wrap=true/\s.col+1=G.AB
  rw [h2];exact h.pend
 ·show Kl G.rows G.AB s.sv
  rw [h1,h2];exact h.sv
theorem K9 {s:Sc} (h:Ad s):Ad (s.u5 false):=⟨h.g,h.row,h.col,h.bot,h.top,h.pen,h.tabs,h.set,(fun e=>nomatch e),h.sv⟩
theorem bK {s:Sc} (h:Ad s) {c:Nat} (hc:c<s.g.AB):Ad ((s.u5 false).u4 c):=⟨h.g,h.row,hc,h.bot,h.top,h.pen,h.tabs,h.set,(fun e=>nomatch e),h.sv⟩
theorem PU {s:Sc} (h:Ad s) {v:Int} (hv:v=0\/v=1):Ad (s.u14 v):=⟨h.g,h.row,h.col,h.bot,h.top,h.pen,h.tabs,⟨h.set.1,h.set.2.1,hv⟩,h.pend,h.sv⟩
theorem Lh {s:Sc} (h:Ad s) {t:Nat} (ht:TB.Ok t):Ad (s.u11 t):=⟨h.g,h.row,h.col,h.bot,h.top,h.pen,ht,h.set,h.pend,h.sv⟩
theorem PV {s:Sc} (h:Ad s) (b:Bool):Ad (s.u19 b):=⟨h.g,h.row,h.col,h.bot,h.top,h.pen,h.tabs,h.set,h.pend,h.sv⟩
theorem bL {s:Sc} (h:Ad s) {p:PG.Pn} (hp:PG.CQ p):Ad (s.uP p):=⟨h.g,h.row,h.col,h.bot,h.top,hp,h.tabs,h.set,h.pend,h.sv⟩
theorem Wl (s:Sc):Dp (s.u4 0)=Dp ((s.u5 false).u4 0):=by
 unfold Dp
 rfl
theorem MQ {s:Sc} (h:Ad s):Ad (Dp (s.u4 0)):=by
 rw [Wl]
 exact KR (bK h h.g.2.2.1)
theorem YF (s:Sc):(Dp s).g.rows=s.g.rows/\(Dp s).g.AB=s.g.AB:=by
 unfold Dp
 split
 ·exact PG.Ch s.g s.top s.bot 1 (Aq s)
 ·exact⟨rfl,rfl⟩
theorem Nj {s:Sc} (h:Ad s) (w:Nat):Ad (K8 s w):=by
 unfold K8
 split
 ·exact MQ h
 ·exact h
theorem YG (s:Sc) (w:Nat):(K8 s w).g.AB=s.g.AB:=by
 unfold K8
 split
 ·exact(YF (s.u4 0)).2
 ·rfl
theorem Ct (g:PG.Gr) (r c:Nat) (x:Int) (p:PG.Pn):(PG.EH g r c x p).rows=g.rows/\(PG.EH g r c x p).AB=g.AB:=by
 unfold PG.EH
 split<;>exact⟨rfl,rfl⟩
theorem C8 (g:PG.Gr) (r a b:Nat) (p:PG.Pn):(PG.Cj g r a b p).rows=g.rows/\(PG.Cj g r a b p).AB=g.AB:=by
 unfold PG.Cj
 split<;>exact⟨rfl,rfl⟩
theorem Ul {s:Sc} (h:Ad s) (x:Int) (w:Nat):Ad (D8 s x w):=by
 obtain⟨e1,e2⟩:=Ct s.g s.row (Dy s w) x s.pen
 have hg:=PG.Tz h.g h.pen s.row (Dy s w) x
 have hc:=h.g.2.2.1
 unfold D8
 split
 ·refine⟨hg,?_,?_,?_,?_,h.pen,h.tabs,h.set,?_,?_⟩
  ·show s.row<(PG.EH s.g s.row (Dy s w) x s.pen).rows
   rw [e1];exact h.row
  ·show s.g.AB-1<(PG.EH s.g s.row (Dy s w) x s.pen).AB
   rw [e2];omega
  ·show s.bot<(PG.EH s.g s.row (Dy s w) x s.pen).rows
   rw [e1];exact h.bot
  ·show s.top<s.bot\/((PG.EH s.g s.row (Dy s w) x s.pen).rows=1/\s.top=0/\s.bot=0)
   rw [e1];exact h.top
  ·show s.wrap=true->s.wrap=true/\s.g.AB-1+1=(PG.EH s.g s.row (Dy s w) x s.pen).AB
   intro e
   rw [e2];exact⟨e,by omega⟩
  ·show Kl (PG.EH s.g s.row (Dy s w) x s.pen).rows (PG.EH s.g s.row (Dy s w) x s.pen).AB s.sv
   rw [e1,e2];exact h.sv
 ·refine⟨hg,?_,?_,?_,?_,h.pen,h.tabs,h.set,(fun e=>nomatch e),?_⟩
  ·show s.row<(PG.EH s.g s.row (Dy s w) x s.pen).rows
   rw [e1];exact h.row
  ·show Dy s w+w<(PG.EH s.g s.row (Dy s w) x s.pen).AB
   rw [e2];omega
  ·show s.bot<(PG.EH s.g s.row (Dy s w) x s.pen).rows
   rw [e1];exact h.bot
  ·show s.top<s.bot\/((PG.EH s.g s.row (Dy s w) x s.pen).rows=1/\s.top=0/\s.bot=0)
   rw [e1];exact h.top
  ·show Kl (PG.EH s.g s.row (Dy s w) x s.pen).rows (PG.EH s.g s.row (Dy s w) x s.pen).AB s.sv
   rw [e1,e2];exact h.sv
theorem Qj {s:Sc} (h:Ad s) (r:Int):Ad (KU s r):=by
 unfold KU
 split
 ·exact h
 ·exact Ul (Nj h _) _ _
theorem Ry {s:Sc} (h:Ad s) (b:Int):Ad (GI s b):=by
 unfold GI
 split
 ·exact Da h _ _
 split
 ·exact Da h _ _
 split
 ·exact KR h
 split
 ·exact Da h _ _
 split
 ·exact PU h (.inr rfl)
 split
 ·exact PU h (.inl rfl)
 ·exact h
theorem CY {P:Sc->Prop} {c:Prop} [Decidable c] {a:Sc} {o:Option Sc} (h1:P a) (h2: ∀t,o=some t->P t): ∀t,(if c then some a else o)=some t->P t:=by
 intro t ht
 split at ht
 ·cases ht
  exact h1
 ·exact h2 t ht
theorem YH {t c:Nat} (h:TB.Ok t) (hc:c<60):TB.Ok (TB.Jz t c):=by
 unfold TB.Ok TB.Jz at*
 exact Nat.or_lt_two_pow (n:=64) h (Nat.pow_lt_pow_right (by omega) (by omega))
theorem Um {t c:Nat} (h:TB.Ok t):TB.Ok (TB.drop1 t c):=Nat.lt_of_le_of_lt Nat.and_le_left h
theorem Un {s:Sc} (h:Ad s) (it fn:Int):Ad (Fg s it fn):=by
 have hfull:Ad (full s.g.rows s.g.AB):=M7 h.g.1 h.g.2.1 h.g.2.2.1 h.g.2.2.2.1
 have CF:=h.col
 have hk:=h.g.2.2.2.1
 unfold Fg
 split
 ·split
  ·rename_i hf
   split
   ·exact⟨h.g,h.row,h.col,h.bot,h.top,h.pen,h.tabs,⟨hf.symm,h.set.2.1,h.set.2.2⟩,h.pend,h.sv⟩
   ·exact⟨h.g,h.row,h.col,h.bot,h.top,h.pen,h.tabs,⟨h.set.1,hf.symm,h.set.2.2⟩,h.pend,h.sv⟩
  ·exact h
 split
 ·exact h
 split
 ·exact Nf h
 split
 ·exact Ng h
 split
 ·exact KR h
 split
 ·exact MQ h
 split
 ·exact Ui h
 split
 ·exact Lh h (YH h.tabs (by omega))
 split
 ·exact hfull
 split
 ·exact PV h _
 split
 ·exact PV h _
 ·exact h
theorem Rz {s:Sc} (h:Ad s) (fn:Int) (l:List Int): ∀t,J9 s fn l=some t->Ad t:=by
 have hn: ∀t,(none:Option Sc)=some t->Ad t:=fun t e=>nomatch e
 have ha:=fun (r c:Int)=>Da h r c
 unfold J9
 exact CY (ha _ _) (CY (ha _ _) (CY (ha _ _) (CY (ha _ _) (CY (ha _ _) (CY (ha _ _) (CY (ha _ _) (CY (ha _ _) (CY (ha _ _) hn))))))))
theorem Et {c:Prop} [Decidable c] {a b:Sc} (h1:Ad a) (h2:Ad b):Ad (if c then a else b):=by
 split
 ·exact h1
 ·exact h2
theorem R5 {s:Sc} (h:Ad s) (fn:Int) (l:List Int):Ad (GK s fn l):=by
 have hp:=Bw h
 have CF:=h.col
 have hk:=h.g.2.2.2.1
 have sc:=fun (t b:Nat) (n:Int)=>GL h (PG.FN h.g hp t b n) (PG.Ch s.g t b n (Aq s)).1 (PG.Ch s.g t b n (Aq s)).2
 have sh:=fun (r c:Nat) (n:Int)=>K9 (GL h (PG.Qc h.g hp r c n) (PG.Il s.g r c n (Aq s)).1 (PG.Il s.g r c n (Aq s)).2)
 have wi:=fun (r a b:Nat)=>K9 (GL h (PG.MH h.g hp r a b) (C8 s.g r a b (Aq s)).1 (C8 s.g r a b (Aq s)).2)
 have er:=fun (r c k:Int)=>K9 (GL h (PG.Qe h.g hp r c k) (PG.Gy s.g r c k (Aq s)).1 (PG.Gy s.g r c k (Aq s)).2)
 have li:=fun (r c k:Int)=>K9 (GL h (PG.Ru h.g hp r c k) (PG.F9 s.g r c k (Aq s)).1 (PG.F9 s.g r c k (Aq s)).2)
 have hm:Ad (if marginTop l<Bt s l then IU ((s.u6 (marginTop l).toNat).u7 (Bt s l).toNat) else s):=by
  split
  ·rename_i hm
   have h1:0<=marginTop l:=by
    unfold marginTop BX
    split<;>omega
   have h2:Bt s l<=(s.g.rows:Int)-1:=by
    unfold Bt
    omega
   have hR:=h.g.1
   exact Da (s:=(s.u6 (marginTop l).toNat).u7 (Bt s l).toNat) ⟨h.g,h.row,h.col,(by show(Bt s l).toNat<s.g.rows;omega),.inl (by show(marginTop l).toNat<(Bt s l).toNat;omega),h.pen,h.tabs,h.set,h.pend,h.sv⟩ _ _
  ·exact h
 have h0:TB.Ok 0:=by unfold TB.Ok;omega
 unfold GK
 exact Et (er _ _ _) (Et (li _ _ _) (Et (Et (Da (sc _ _ _) _ _) h) (Et (Et (Da (sc _ _ _) _ _) h) (Et (sh _ _ _) (Et (sh _ _ _) (Et (wi _ _ _) (Et (sc _ _ _) (Et (sc _ _ _) (Et (bL h (YD h.pen l)) (Et hm (Et (Et (Lh h (Um h.tabs)) (Et (Lh h h0) h)) (Et (Nf h) (Et (Ng h) h)))))))))))))
theorem Im {s:Sc} (h:Ad s) (on:Bool): ∀l:List Int,Ad (Cm s on l):=by
 intro l
 unfold Cm
 induction l generalizing s with
 | nil=>exact h
 | cons x l ih=>exact ih (GA h x on)
theorem Uo {s:Sc} (h:Ad s) (pv it fn:Int) (l:List Int):Ad (Rx s pv it fn l):=by
 unfold Rx
 split
 ·exact h
 split
 ·split
  ·exact Im h true l
  ·split
   ·exact Im h false l
   ·exact h
 ·cases e:J9 s fn l with
  | none=>exact R5 h fn l
  | some t=>exact Rz h fn l t e
theorem IV {s:Sc} (h:Ad s) (kd rn pv it fn:Int) (l:List Int):Ad (doS s kd rn pv it fn l):=by
 unfold doS
 split
 ·exact Qj h rn
 split
 ·exact Ry h fn
 split
 ·exact Un h it fn
 split
 ·exact Uo h pv it fn l
 ·exact h
end SN
end Go.Proofs.YteecohpaecgdlaaGreatDoor
namespace Go.Proofs.YteecohpaecgdlaaGreatDoor.PA
def lasts:List Int:= [6,7,23,24,25,26,27,31,47,57,58,59,63,79,80,87,88,90,91,92,93,95,126,127]
def kinds:List Int:= [0,1,0,2,0,2,3,0,4,5,6,7,8,13,11,13,11,13,9,12,10,11,13,14]
def GN (k:Nat):Int:=lasts.getD k 0
def Li (k:Nat):Int:=kinds.getD k 15
def place (b:Int):Nat:=(lasts.takeWhile (fun l=>l<b)).length
def cls (b:Int):Int:=Li (place b)
def tab:List Int:= [
 0,0,0,0,0,0,0,0,0,0,0,0,0,0,0,0,
 32,32,0,2,16,16,16,16,16,16,16,16,16,16,0,48,
 32,32,1,2,115,145,145,145,145,5,9,11,145,145,0,49,
 32,32,1,2,4,145,145,145,145,145,145,145,145,145,0,49,
 32,32,1,2,0,1,1,1,1,1,1,1,1,1,0,49,
 32,32,1,2,119,86,8,102,70,161,161,161,161,161,0,49,
 32,32,1,2,119,80,8,96,8,161,161,161,161,161,0,49,
 32,32,1,2,8,8,8,8,8,161,161,161,161,161,0,49,
 32,32,1,2,0,0,0,0,0,1,1,1,1,1,0,49,
 0,177,1,10,128,128,128,128,128,128,128,128,128,128,128,128,
 194,194,194,194,194,194,194,194,194,194,194,194,177,194,194,194,
 0,1,1,12,0,0,0,0,0,0,0,0,0,0,0,0,
 194,194,194,194,194,194,194,194,194,194,194,194,1,194,194,194]
def cellAt (st c:Int):Int:=tab.getD (st.toNat*16+c.toNat) 0
def mv (st b:Int):Int:=cellAt st (cls b)
def act (st b:Int):Int:=mv st b-mv st b%16
def nxt (st b:Int):Int:=if mv st b%16=0 then st else mv st b%16
structure D where
 priv:Int
 inter:Int
 parts:Nat
 params:List Int
 text:List Int
def d0:D:=⟨0,0,0, [], []⟩
structure S where
 st:Int
 dec:U.St
 d:D
def s0:S:=⟨1,U.z,d0⟩
structure Ev where
 kind:Int
 rune:Int
 priv:Int
 inter:Int
 final:Int
 params:List Int
 text:List Int
def pr (r:Int):Ev:=⟨1,r,0,0,0, [], []⟩
def D.begin_ (d:D):D:=⟨d.priv,d.inter,d.parts+1,if d.parts<16 then d.params++ [-1] else d.params,d.text⟩
def up (x n:Int):Int:=if (if x<0 then 0 else x)*10+n<65535 then (if x<0 then 0 else x)*10+n else 65535
def D.first (d:D):D:=if d.parts=0 then d.begin_ else d
def D.put (d:D) (n:Int):D:=if 16<d.parts then d else ⟨d.priv,d.inter,d.parts,d.params.set (d.parts-1) (up (d.params.getD (d.parts-1) 0) n),d.text⟩
def D.digit (d:D) (n:Int):D:=d.first.put n
def D.semi (d:D):D:=d.first.begin_
def doo (s:S) (a b:Int):S × List Ev:=
 if a=16 then (s, [pr b])
 else if a=32 then (s, [⟨2,0,0,0,b, [], []⟩])
 else if a=48 then (⟨s.st,(U.it s.dec b).1,s.d⟩,(U.it s.dec b).2.map pr)
 else if a=64 then (⟨s.st,s.dec,⟨b,s.d.inter,s.d.parts,s.d.params,s.d.text⟩⟩, [])
 else if a=80 then (⟨s.st,s.dec,s.d.digit (b-48)⟩, [])
 else if a=96 then (⟨s.st,s.dec,s.d.semi⟩, [])
 else if a=112 then (⟨s.st,s.dec,⟨s.d.priv,b,s.d.parts,s.d.params,s.d.text⟩⟩, [])
 else if a=128 then ((if s.d.text.length=4096 then ⟨11,s.dec,s.d⟩ else ⟨s.st,s.dec,⟨s.d.priv,s.d.inter,s.d.parts,s.d.params,s.d.text++ [b]⟩⟩), [])
 else if a=144 then (s, [⟨3,0,0,s.d.inter,b, [], []⟩])
 else if a=160 then (s, [⟨4,0,s.d.priv,s.d.inter,b,s.d.params, []⟩])
 else if a=176 then (s, [⟨5,0,0,0,0, [],s.d.text⟩])
 else (s, [])
def brk (s:S) (b:Int):S × List Ev:=if b<128/\0<s.dec.need then (⟨s.st,U.z,s.d⟩, [pr 65533]) else (s, [])
def lets (st:Int):Bool:=decide (st=1\/st=2\/st=4\/st=8\/st=11)
def clr (s:S):S:=if lets s.st=true then ⟨s.st,s.dec,d0⟩ else s
def mid (s:S) (b:Int):Int × S:=
 if act s.st b=192 then (act (nxt s.st b) b,⟨nxt (nxt s.st b) b,s.dec,d0⟩) else (act s.st b,⟨nxt s.st b,s.dec,s.d⟩)
def take (s:S) (b:Int):S × List Ev:=
 (clr (doo (mid (brk s b).1 b).2 (mid (brk s b).1 b).1 b).1,(brk s b).2++(doo (mid (brk s b).1 b).2 (mid (brk s b).1 b).1 b).2)
def feed:S->List Int->S × List Ev
 | s, [] =>(s, [])
 | s,b::l=>((feed (take s b).1 l).1,(take s b).2++(feed (take s b).1 l).2)
structure D.ok (d:D):Prop where
 priv:0<=d.priv/\d.priv<256
 inter:0<=d.inter/\d.inter<256
 len:d.params.length=min d.parts 16
 nums: ∀x∈d.params, -1<=x/\x<=65535
 jh:d.text.length<=4096
 bytes: ∀x∈d.text,0<=x/\x<256
structure S.ok (s:S):Prop where
 st:1<=s.st/\s.st<=12
 dec:s.dec.ok
 d:s.d.ok
theorem bM:d0.ok:=⟨by simp [d0],by simp [d0],by simp [d0],by simp [d0],by simp [d0],by simp [d0]⟩
theorem nI:s0.ok:=⟨by simp [s0],U.XJ,bM⟩
theorem Nk {p:Int->Int->Prop} [∀a b,Decidable (p a b)] (h: ∀(s:Fin 12) (n:Fin 256),p ((s.val:Int)+1) (n.val:Int)) (st b:Int) (h0:1<=st) (h1:st<=12) (h2:0<=b) (h3:b<256):p st b:=by
 obtain⟨n,rfl⟩:=Int.eq_ofNat_of_zero_le h2
 obtain⟨m,hm⟩:=Int.eq_ofNat_of_zero_le (show 0<=st-1 by omega)
 obtain rfl:st=(m:Int)+1:=by omega
 exact h ⟨m,by omega⟩ ⟨n,by omega⟩
theorem sP (st b:Int) (h0:1<=st) (h1:st<=12) (h2:0<=b) (h3:b<256):0<=mv st b/\mv st b<256:=
 Nk (p:=fun st b=>0<=mv st b/\mv st b<256) (by decide+kernel) st b h0 h1 h2 h3
theorem oQ (b:Int) (h2:0<=b) (h3:b<256):0<=cls b/\cls b<16:=
 U.MF (p:=fun b=>0<=cls b/\cls b<16) (by decide+kernel) b h2 h3
theorem Uq (st b:Int) (h0:1<=st) (h1:st<=12) (h2:0<=b) (h3:b<256):1<=nxt st b/\nxt st b<=12:=
 Nk (p:=fun st b=>1<=nxt st b/\nxt st b<=12) (by decide+kernel) st b h0 h1 h2 h3
def LA (a:Int):Prop:=a=0\/a=16\/a=32\/a=48\/a=64\/a=80\/a=96\/a=112\/a=128\/a=144\/a=160\/a=176
instance (a:Int):Decidable (LA a):=by unfold LA;infer_instance
theorem oU (st b:Int) (h0:1<=st) (h1:st<=12) (h2:0<=b) (h3:b<256):LA (act st b)\/act st b=192:=
 Nk (p:=fun st b=>LA (act st b)\/act st b=192) (by decide+kernel) st b h0 h1 h2 h3
theorem YI (st b:Int) (h0:1<=st) (h1:st<=12) (h2:0<=b) (h3:b<256):act st b=192->nxt st b=2/\LA (act 2 b):=
 Nk (p:=fun st b=>act st b=192->nxt st b=2/\LA (act 2 b)) (by decide+kernel) st b h0 h1 h2 h3
theorem PW (st b:Int) (h0:1<=st) (h1:st<=12) (h2:0<=b) (h3:b<256):(act st b=80->48<=b/\b<=57)/\(act st b=160->nxt st b=1)/\(act st b=16->b<128):=
 Nk (p:=fun st b=>(act st b=80->48<=b/\b<=57)/\(act st b=160->nxt st b=1)/\(act st b=16->b<128)) (by decide+kernel) st b h0 h1 h2 h3
theorem R6 {d:D} (h:d.ok):d.begin_.ok:=by
 obtain⟨h1,h2,h3,h4,h5,h6⟩:=h
 unfold D.begin_
 refine⟨h1,h2,?_,?_,h5,h6⟩
 ·simp only []
  split
  ·rw [List.length_append,h3];simp;omega
  ·rw [h3];omega
 ·simp only []
  intro x hx
  split at hx
  ·rcases List.mem_append.1 hx with hx | hx
   ·exact h4 x hx
   ·simp at hx;omega
  ·exact h4 x hx
theorem LB {d:D} (h:d.ok):d.first.ok:=by
 unfold D.first
 split
 ·exact R6 h
 ·exact h
theorem G6 (d:D):1<=d.first.parts/\d.parts<=d.first.parts/\d.first.parts<=d.parts+1:=by
 unfold D.first
 split
 ·simp [D.begin_]
 ·omega
theorem sQ {x n:Int} (hx:x<=65535) (h0:0<=n) (h1:n<=9):0<=up x n/\up x n<=65535:=by
 unfold up
 by_cases hx0:x<0
 ·simp only [if_pos hx0]
  split<;>omega
 ·simp only [if_neg hx0]
  split<;>omega
theorem oV {d:D} (h:d.ok) {n:Int} (h0:0<=n) (h1:n<=9):(d.put n).ok:=by
 unfold D.put
 split
 ·exact h
 ·obtain⟨a1,a2,a3,a4,a5,a6⟩:=h
  refine⟨a1,a2,by simpa using a3,?_,a5,a6⟩
  intro x hx
  rcases List.mem_or_eq_of_mem_set hx with hx | rfl
  ·exact a4 x hx
  ·have:d.params.getD (d.parts-1) 0<=65535:=by
    rw [List.getD_eq_getElem?_getD]
    rcases hq:d.params[d.parts-1]? with _ | y
    ·simp
    ·simpa using (a4 y (List.mem_of_getElem? hq)).2
   have:=sQ this h0 h1
   omega
theorem bN {d:D} (h:d.ok) {n:Int} (h0:0<=n) (h1:n<=9):(d.digit n).ok:=oV (LB h) h0 h1
theorem ji {d:D} (h:d.ok):d.semi.ok:=R6 (LB h)
theorem YJ (d:D) (n:Int):(d.put n).parts=d.parts:=by unfold D.put;split<;>rfl
theorem R7 (d:D) (n:Int):(d.digit n).parts<=d.parts+1:=by
 unfold D.digit;rw [YJ];exact(G6 d).2.2
theorem Ur (d:D):d.semi.parts<=d.parts+2:=by
 have:=(G6 d).2.2
 unfold D.semi D.begin_
 simp only []
 omega
theorem Qk {P:S × List Ev->Prop} (s:S) (a b:Int)
  (h16:a=16->P (s, [pr b]))
  (h32:a=32->P (s, [⟨2,0,0,0,b, [], []⟩]))
  (h48:a=48->P (⟨s.st,(U.it s.dec b).1,s.d⟩,(U.it s.dec b).2.map pr))
  (h64:a=64->P (⟨s.st,s.dec,⟨b,s.d.inter,s.d.parts,s.d.params,s.d.text⟩⟩, []))
  (h80:a=80->P (⟨s.st,s.dec,s.d.digit (b-48)⟩, []))
  (h96:a=96->P (⟨s.st,s.dec,s.d.semi⟩, []))
  (h112:a=112->P (⟨s.st,s.dec,⟨s.d.priv,b,s.d.parts,s.d.params,s.d.text⟩⟩, []))
  (h128:a=128->P ((if s.d.text.length=4096 then ⟨11,s.dec,s.d⟩ else ⟨s.st,s.dec,⟨s.d.priv,s.d.inter,s.d.parts,s.d.params,s.d.text++ [b]⟩⟩), []))
  (h144:a=144->P (s, [⟨3,0,0,s.d.inter,b, [], []⟩]))
  (h160:a=160->P (s, [⟨4,0,s.d.priv,s.d.inter,b,s.d.params, []⟩]))
  (h176:a=176->P (s, [⟨5,0,0,0,0, [],s.d.text⟩]))
  (hz:P (s, [])):P (doo s a b):=by
 unfold doo
 by_cases e16:a=16
 ·rw [if_pos e16];exact h16 e16
 rw [if_neg e16]
 by_cases e32:a=32
 ·rw [if_pos e32];exact h32 e32
 rw [if_neg e32]
 by_cases e48:a=48
 ·rw [if_pos e48];exact h48 e48
 rw [if_neg e48]
 by_cases e64:a=64
 ·rw [if_pos e64];exact h64 e64
 rw [if_neg e64]
 by_cases e80:a=80
 ·rw [if_pos e80];exact h80 e80
 rw [if_neg e80]
 by_cases e96:a=96
 ·rw [if_pos e96];exact h96 e96
 rw [if_neg e96]
 by_cases e112:a=112
 ·rw [if_pos e112];exact h112 e112
 rw [if_neg e112]
 by_cases e128:a=128
 ·rw [if_pos e128];exact h128 e128
 rw [if_neg e128]
 by_cases e144:a=144
 ·rw [if_pos e144];exact h144 e144
 rw [if_neg e144]
 by_cases e160:a=160
 ·rw [if_pos e160];exact h160 e160
 rw [if_neg e160]
 by_cases e176:a=176
 ·rw [if_pos e176];exact h176 e176
 rw [if_neg e176]
 exact hz
theorem YK (s:S) (a b:Int):(doo s a b).1.d.parts<=s.d.parts+2:=by
 have h1:=R7 s.d (b-48)
 have h2:=Ur s.d
 refine Qk (P:=fun r=>r.1.d.parts<=s.d.parts+2) s a b (fun _=>Nat.le_add_right _ _) (fun _=>Nat.le_add_right _ _) (fun _=>Nat.le_add_right _ _) (fun _=>Nat.le_add_right _ _)
  (fun _=>Nat.le_trans h1 (by omega)) (fun _=>h2) (fun _=>Nat.le_add_right _ _) (fun _=>?_) (fun _=>Nat.le_add_right _ _) (fun _=>Nat.le_add_right _ _) (fun _=>Nat.le_add_right _ _) (Nat.le_add_right _ _)
 show(if _ then _ else _:S).d.parts<=_
 split<;>exact Nat.le_add_right _ _
theorem oW {s:S} (h:s.ok) {a b:Int} (h0:0<=b) (h1:b<256) (ha:a=80->48<=b/\b<=57):(doo s a b).1.ok:=by
 obtain⟨hs,hd,hr⟩:=id h
 refine Qk (P:=fun r=>r.1.ok) s a b (fun _=>h) (fun _=>h) (fun _=>⟨hs,U.rP hd b h1,hr⟩) (fun _=>⟨hs,hd,⟨⟨h0,h1⟩,hr.inter,hr.len,hr.nums,hr.jh,hr.bytes⟩⟩)
  (fun e=>?_) (fun _=>⟨hs,hd,ji hr⟩) (fun _=>⟨hs,hd,⟨hr.priv,⟨h0,h1⟩,hr.len,hr.nums,hr.jh,hr.bytes⟩⟩) (fun _=>?_) (fun _=>h) (fun _=>h) (fun _=>h) h
 ·have:=ha e
  exact⟨hs,hd,bN hr (by omega) (by omega)⟩
 ·show S.ok (if _ then _ else _)
  split
  ·exact⟨by simp,hd,hr⟩
  ·have:=hr.jh
   refine⟨hs,hd,⟨hr.priv,hr.inter,hr.len,hr.nums,by simp;omega,fun x hx=>?_⟩⟩
   rcases List.mem_append.1 hx with hx | hx
   ·exact hr.bytes x hx
   ·simp at hx;omega
theorem Us {s:S} (h:s.ok) (b:Int):(brk s b).1.ok:=by
 unfold brk
 split
 ·exact⟨h.st,U.XJ,h.d⟩
 ·exact h
theorem Ut {s:S} (h:s.ok) {b:Int} (h0:0<=b) (h1:b<256):(mid s b).2.ok/\LA (mid s b).1/\((mid s b).1=80->48<=b/\b<=57)/\((mid s b).1=160->(mid s b).2.st=1):=by
 have k1:=Uq s.st b h.st.1 h.st.2 h0 h1
 have k2:=Uq (nxt s.st b) b k1.1 k1.2 h0 h1
 have k3:=oU s.st b h.st.1 h.st.2 h0 h1
 have k4:=YI s.st b h.st.1 h.st.2 h0 h1
 have k5:=PW s.st b h.st.1 h.st.2 h0 h1
 have k6:=PW (nxt s.st b) b k1.1 k1.2 h0 h1
 unfold mid
 split
 ·rename_i e
  have k4:=k4 e
  refine⟨⟨k2,h.dec,bM⟩,?_,k6.1,k6.2.1⟩
  rw [k4.1]
  exact k4.2
 ·rename_i e
  exact⟨⟨k1,h.dec,h.d⟩,k3.resolve_right e,k5.1,k5.2.1⟩
theorem oZ {s:S} (h:s.ok):(clr s).ok:=by
 unfold clr
 split
 ·exact⟨h.st,h.dec,bM⟩
 ·exact h
theorem Wm {s:S} (h:s.ok) {b:Int} (h0:0<=b) (h1:b<256):(take s b).1.ok:=by
 have k:=Ut (Us h b) h0 h1
 exact oZ (oW k.1 h0 h1 k.2.2.1)
theorem jk {s:S} (h:s.ok) (l:List Int) (hl: ∀x∈l,0<=x/\x<256):(feed s l).1.ok:=by
 induction l generalizing s with
 | nil=>exact h
 | cons b l ih=>exact ih (Wm h (hl b (by simp)).1 (hl b (by simp)).2) (fun x hx=>hl x (by simp [hx]))
theorem PX (s:S) (b:Int):(brk s b).1.d=s.d:=by unfold brk;split<;>rfl
theorem PY (s:S) (b:Int):(mid s b).2.d.parts<=s.d.parts:=by
 unfold mid
 split
 ·simp [d0]
 ·simp
theorem YL (s:S):(clr s).d.parts<=s.d.parts:=by
 unfold clr
 split
 ·simp [d0]
 ·simp
theorem Uu (s:S) (b:Int):(take s b).1.d.parts<=s.d.parts+2:=by
 have k1:=YL (doo (mid (brk s b).1 b).2 (mid (brk s b).1 b).1 b).1
 have k2:=YK (mid (brk s b).1 b).2 (mid (brk s b).1 b).1 b
 have k3:=PY (brk s b).1 b
 rw [PX] at k3
 show(clr _).d.parts<=_
 omega
theorem Uv (s:S) (l:List Int):(feed s l).1.d.parts<=s.d.parts+2*l.length:=by
 induction l generalizing s with
 | nil=>simp [feed]
 | cons b l ih=>
  have h1:=Uu s b
  have h2:=ih (take s b).1
  simp only [feed,List.length_cons]
  omega
theorem R8 (s:S) (l m:List Int):feed s (l++m)=((feed (feed s l).1 m).1,(feed s l).2++(feed (feed s l).1 m).2):=by
 induction l generalizing s with
 | nil=>simp [feed]
 | cons b l ih=>simp [feed,ih]
theorem bO (s:S) (b:Int):feed s [b] =take s b:=by simp [feed]
theorem YM (s:S) (l:List Int) (b:Int):feed s (l++ [b])=((take (feed s l).1 b).1,(feed s l).2++(take (feed s l).1 b).2):=by
 rw [R8,bO]
theorem jl (s:S) (a b:Int):(doo s a b).2.length<=2:=by
 have:=U.Zo s.dec b
 exact Qk (P:=fun r=>r.2.length<=2) s a b (fun _=>by simp) (fun _=>by simp) (fun _=>by simpa using this) (fun _=>by simp) (fun _=>by simp) (fun _=>by simp) (fun _=>by simp) (fun _=>by simp) (fun _=>by simp) (fun _=>by simp) (fun _=>by simp) (by simp)
theorem Wn (s:S) (b:Int):(brk s b).2.length<=1:=by unfold brk;split<;>simp
theorem take_len (s:S) (b:Int):(take s b).2.length<=3:=by
 have h1:=Wn s b
 have h2:=jl (mid (brk s b).1 b).2 (mid (brk s b).1 b).1 b
 simp only [take,List.length_append]
 omega
theorem R9 (s:S) (l:List Int):(feed s l).2.length<=3*l.length:=by
 induction l generalizing s with
 | nil=>simp [feed]
 | cons b l ih=>
  have h1:=take_len s b
  have h2:=ih (take s b).1
  simp only [feed,List.length_append,List.length_cons]
  omega
theorem Ni (b:Int):place b<=24:=by
 have:=List.takeWhile_sublist (l:=lasts) (fun l=>decide (l<b))
 exact this.length_le
theorem Bq {b:Int} {k:Nat} (h0:0<=b) (h1:b<256) (hk:k<place b):GN k<b:=by
 have h: ∀b:Fin 256, ∀k:Fin 24,k.val<place (b.val:Int)->GN k.val<(b.val:Int):=by decide+kernel
 obtain⟨n,rfl⟩:=Int.eq_ofNat_of_zero_le h0
 have:=Ni (n:Int)
 exact h ⟨n,by omega⟩ ⟨k,by omega⟩ hk
theorem bP {b:Int} (h0:0<=b) (h1:b<256) (hk:place b<24):b<=GN (place b):=by
 have h: ∀b:Fin 256,place (b.val:Int)<24->(b.val:Int)<=GN (place (b.val:Int)):=by decide+kernel
 obtain⟨n,rfl⟩:=Int.eq_ofNat_of_zero_le h0
 exact h ⟨n,by omega⟩ hk
theorem bQ {b:Int} (hk:place b=24):cls b=15:=by unfold cls;rw [hk];rfl
end Go.Proofs.YteecohpaecgdlaaGreatDoor.PA
namespace Go.Proofs.YteecohpaecgdlaaGreatDoor.PA
end Go.Proofs.YteecohpaecgdlaaGreatDoor.PA
namespace Go.Proofs.YteecohpaecgdlaaGreatDoor.PA
end Go.Proofs.YteecohpaecgdlaaGreatDoor.PA
namespace Go.Proofs.YteecohpaecgdlaaGreatDoor.PA
def nine:List Int:=List.replicate 20 57
end Go.Proofs.YteecohpaecgdlaaGreatDoor.PA
namespace Go.Proofs.YteecohpaecgdlaaGreatDoor.U
end Go.Proofs.YteecohpaecgdlaaGreatDoor.U
namespace Go.Proofs.YteecohpaecgdlaaGreatDoor.PA
def Uw (r:Int):Prop:=(32<=r/\r<=126)\/(128<=r/\r<=1114111/\(r<55296\/57343<r))
def LC (i:Int):Prop:=i=0\/(32<=i/\i<=47)
def opens (f:Int):Prop:=f=91\/f=93\/f=80\/f=88\/f=94\/f=95
def Ux (p:Int):Prop:=p=0\/(60<=p/\p<=63)
instance (f:Int):Decidable (opens f):=by unfold opens;infer_instance
def Right (e:Ev):Prop:=
 (∃r,e=pr r/\Uw r)\/
 (∃b,e=⟨2,0,0,0,b, [], []⟩/\0<=b/\b<32/\b≠24/\b≠26/\b≠27)\/
 (∃i f,e=⟨3,0,0,i,f, [], []⟩/\LC i/\48<=f/\f<=126/\(i=0-> ¬opens f))\/
 (∃p i f ps,e=⟨4,0,p,i,f,ps, []⟩/\Ux p/\LC i/\64<=f/\f<=126/\ps.length<=16/\(∀x∈ps, -1<=x/\x<=65535)/\ps≠ [-1])\/
 (∃t,e=⟨5,0,0,0,0, [],t⟩/\t.length<=4096/\ ∀x∈t,32<=x/\x<256)
end Go.Proofs.YteecohpaecgdlaaGreatDoor.PA
namespace Go.Proofs.YteecohpaecgdlaaGreatDoor.PA
instance (r:Int):Decidable (Uw r):=by unfold Uw;infer_instance
instance (i:Int):Decidable (LC i):=by unfold LC;infer_instance
instance (p:Int):Decidable (Ux p):=by unfold Ux;infer_instance
end Go.Proofs.YteecohpaecgdlaaGreatDoor.PA
namespace Go.Proofs.YteecohpaecgdlaaGreatDoor
open Go.RowKit
namespace U
theorem jm (b:Int) (h0:0<=b) (h1:b<256): ∀r∈(bg b).2,0<=r/\r<=1114111:=by
 intro r hr
 unfold bg at hr
 repeat' (split at hr)
 all_goals simp at hr
 all_goals omega
theorem jo (n a:Int):0<=wh n a/\wh n a<=1114111:=by
 unfold wh isR
 split
 ·rename_i h
  have:=h.1
  simp at this
  omega
 ·omega
theorem jq (s:St) (b:Int) (h0:0<=b) (h1:b<256): ∀r∈(it s b).2,0<=r/\r<=1114111:=by
 intro r hr
 have hb:=jm b h0 h1
 unfold it at hr
 split at hr
 ·exact hb r hr
 split at hr
 ·rcases List.mem_cons.1 hr with rfl | hr
  ·omega
  ·exact hb r hr
 split at hr
 ·simp at hr
 ·simp at hr
  subst hr
  exact jo _ _
end U
namespace PA
structure Fits (e:Ev):Prop where
 rune:e.kind=1->0<=e.rune/\e.rune<=1114111
 len:e.params.length<=16
 nums: ∀x∈e.params, -1<=x/\x<=65535
theorem Ql {r:Int} (h:0<=r/\r<=1114111):Fits (pr r):=⟨fun _=>h,by simp [pr],by simp [pr]⟩
theorem bS {s:S} (h:s.ok) (a b:Int) (h0:0<=b) (h1:b<256): ∀e∈(doo s a b).2,Fits e:=by
 have hl:=h.d.len
 have hn:=h.d.nums
 have hi:=U.jq s.dec b h0 h1
 refine Qk (P:=fun r=> ∀e∈r.2,Fits e) s a b ?_ ?_ ?_ ?_ ?_ ?_ ?_ ?_ ?_ ?_ ?_ ?_
 ·intro _ e he;simp at he;subst he;exact Ql (by omega)
 ·intro _ e he;simp at he;subst he;exact⟨fun e=>(by cases e),by simp,by simp⟩
 ·intro _ e he
  obtain⟨r,hr,rfl⟩:=List.mem_map.1 he
  exact Ql (hi r hr)
 ·intro _ e he;simp at he
 ·intro _ e he;simp at he
 ·intro _ e he;simp at he
 ·intro _ e he;simp at he
 ·intro _ e he;simp at he
 ·intro _ e he;simp at he;subst he;exact⟨fun e=>(by cases e),by simp,by simp⟩
 ·intro _ e he;simp at he;subst he;exact⟨fun e=>(by cases e),(by simp only [];omega),hn⟩
 ·intro _ e he;simp at he;subst he;exact⟨fun e=>(by cases e),by simp,by simp⟩
 ·intro e he;simp at he
theorem YN {s:S} (h:s.ok) {b:Int} (h0:0<=b) (h1:b<256): ∀e∈(take s b).2,Fits e:=by
 have k:=Ut (Us h b) h0 h1
 intro e he
 rcases List.mem_append.1 he with he | he
 ·unfold brk at he
  split at he
  ·simp at he;subst he;exact Ql (by omega)
  ·simp at he
 ·exact bS k.1 _ _ h0 h1 e he
theorem YO {s:S} (h:s.ok) (l:List Int) (hl: ∀x∈l,0<=x/\x<256): ∀e∈(feed s l).2,Fits e:=by
 induction l generalizing s with
 | nil=>intro e he;simp [feed] at he
 | cons b l ih=>
  intro e he
  have hb:=hl b (by simp)
  rcases List.mem_append.1 he with he | he
  ·exact YN h hb.1 hb.2 e he
  ·exact ih (Wm h hb.1 hb.2) (fun x hx=>hl x (by simp [hx])) e he
end PA
namespace SN
def jr (s:Sc) (e:PA.Ev):Sc:=doS s e.kind e.rune e.priv e.inter e.final e.params
def Cb (s:Sc) (es:List PA.Ev):Sc:=es.foldl jr s
theorem YP (s:Sc) (a b:List PA.Ev):Cb s (a++b)=Cb (Cb s a) b:=by unfold Cb;rw [List.foldl_append]
theorem Uy (s:Sc) (a:List PA.Ev) (e:PA.Ev):Cb s (a++ [e])=jr (Cb s a) e:=by rw [YP];rfl
theorem Uz {s:Sc} (h:Ad s) (e:PA.Ev):Ad (jr s e):=IV h _ _ _ _ _ _
theorem G7 {s:Sc} (h:Ad s) (es:List PA.Ev):Ad (Cb s es):=by
 induction es generalizing s with
 | nil=>exact h
 | cons e es ih=>exact ih (Uz h e)
end SN
end Go.Proofs.YteecohpaecgdlaaGreatDoor
namespace Go.Proofs.YteecohpaecgdlaaGreatDoor
open Go.RowKit
theorem SA {c:Int} (hc:0<=c):IntKind.u64.wrap (2 ^ min c.toNat 64)=((TB.Gl c:Nat):Int):=by
 unfold TB.Gl
 by_cases h:TB.col c
 ·rw [if_pos h]
  unfold TB.col at h
  have hp:=TB.UF (c:=c.toNat) (by omega)
  have e:(2:Int) ^ min c.toNat 64=((2 ^ c.toNat:Nat):Int):=by
   rw [show min c.toNat 64=c.toNat by omega]
   simp
  rw [e,IntKind.wrap_u64]
  generalize 2 ^ c.toNat=q at hp
  omega
 ·rw [if_neg h]
  unfold TB.col at h
  rw [show min c.toNat 64=64 by omega]
  decide
theorem jv (c:Int) (w:World) (h0: -9223372036854775808<=c) (h1:c<=9223372036854775807):Calls Tryz.prog 138 #[.int .i64 c] w fun e w'=>e=.returned (.int .u64 (TB.Gl c:Nat))/\w=w':=by
 by_cases hc:0<=c
 ·go_enter Tryz.func138,Tryz.ntmps138
  go_wp2
  go_ret
  exact⟨CJ (SA hc),rfl⟩
 ·go_enter Tryz.func138,Tryz.ntmps138
  go_wp2
  go_ret
  refine⟨CJ ?_,rfl⟩
  rw [SA (by rw [IntKind.wrap_u64];omega)]
  unfold TB.Gl
  rw [if_neg (by unfold TB.col;rw [IntKind.wrap_u64];omega),if_neg (by unfold TB.col;omega)]
theorem U0 (c:Int) (n:Nat) (hn:TB.Gl c=n) (w:World) (h0: -9223372036854775808<=c) (h1:c<=9223372036854775807):Calls Tryz.prog 138 #[.int .i64 c] w fun e w'=>e=.returned (.int .u64 n)/\w=w':=by
 subst hn
 exact jv c w h0 h1
theorem YQ (c:Int) (w:World) (h0: -9223372036854775808<=c) (h1:c<=9223372036854775807):Calls Tryz.prog 111 #[.int .i64 c] w fun e w'=>e=.returned (.int .u64 (TB.Ce c:Nat))/\w=w':=by
 obtain⟨d,hd,hd0,hd1⟩: ∃d:Int,max c 0=d/\0<=d/\d<=9223372036854775807:=⟨_,rfl,by omega,by omega⟩
 have E:TB.Ce c=TB.Ce d:=by
  unfold TB.Ce
  rw [show d.toNat=c.toNat by omega]
 have W:IntKind.u64.wrap ((TB.Gl d:Nat)-1:Int)=((TB.Ce d:Nat):Int):=by
  have h1:=TB.Hy d
  unfold TB.Ok at h1
  rw [IntKind.wrap_u64]
  rcases TB.XY hd0 with h | ⟨h,h'⟩
  ·omega
  ·rw [h,h']
   decide
 rw [E]
 have HB:=hide fun w'=>U0 d _ rfl w' (by omega) hd1
 have HW:=hide W
 generalize TB.Gl d=x at HB HW
 generalize TB.Ce d=y at HW
 clear E W
 by_cases hc:0<=c
 ·obtain rfl:d=c:=by omega
  clear hd
  go_enter Tryz.func111,Tryz.ntmps111
  go_wp2_with fail
  refine(HB.out _).mono ?_
  rintro e w1 ⟨rfl,rfl⟩
  go_wp2_with fail
  go_ret
  exact⟨CJ HW.out,rfl⟩
 ·obtain rfl:d=0:=by omega
  clear hd
  go_enter Tryz.func111,Tryz.ntmps111
  go_wp2_with fail
  refine(HB.out _).mono ?_
  rintro e w1 ⟨rfl,rfl⟩
  go_wp2_with fail
  go_ret
  exact⟨CJ HW.out,rfl⟩
theorem Nl (c:Int) (n:Nat) (hn:TB.Ce c=n) (w:World) (h0: -9223372036854775808<=c) (h1:c<=9223372036854775807):Calls Tryz.prog 111 #[.int .i64 c] w fun e w'=>e=.returned (.int .u64 n)/\w=w':=by
 subst hn
 exact YQ c w h0 h1
theorem u64_and {a b:Nat} (ha:TB.Ok a) (hb:TB.Ok b):bits .and .u64 (a:Int) (b:Int)=((a&&& b:Nat):Int):=u64_and_nat a b ha hb
theorem u64_or {a b:Nat} (ha:TB.Ok a) (hb:TB.Ok b):bits .or .u64 (a:Int) (b:Int)=((a||| b:Nat):Int):=u64_or_nat a b ha hb
theorem u64_andNot {a b:Nat} (ha:TB.Ok a) (hb:TB.Ok b):bits .andNot .u64 (a:Int) (b:Int)=((a&&& (18446744073709551615-b):Nat):Int):=u64_andNot_nat a b ha hb
theorem bT (n:Int) (w:World) (h0:0<=n) (h1:n<=9223372036854775807):Calls Tryz.prog 65 #[.int .i64 n] w fun e w'=>e=.returned (.int .u64 (TB.news n.toNat:Nat))/\w=w':=by
 have HB:=hide fun w'=>Nl n _ rfl w' (by omega) h1
 have E1:=u64_and (show TB.Ok 72340172838076672 by unfold TB.Ok;omega) (TB.Hy n)
 rw [TB.Zv h0] at E1
 have E2:=hide (show bits .and .u64 72340172838076672 ((TB.Ce n:Nat):Int)=((TB.news n.toNat:Nat):Int) from E1)
 generalize TB.Ce n=x at HB E2
 generalize TB.news n.toNat=y at E2
 clear E1
 go_enter Tryz.func65,Tryz.ntmps65
 go_wp2_with fail
 refine(HB.out _).mono ?_
 rintro e w1 ⟨rfl,rfl⟩
 go_wp2_with fail
 go_ret
 exact⟨CJ E2.out,rfl⟩
theorem jw (n:Int) (t:Nat) (ht:TB.news n.toNat=t) (w:World) (h0:0<=n) (h1:n<=9223372036854775807):Calls Tryz.prog 65 #[.int .i64 n] w fun e w'=>e=.returned (.int .u64 t)/\w=w':=by
 subst ht
 exact bT n w h0 h1
theorem jy (A:Option Addr) (n c B:Nat) (l:List Int) (w:World) (hA:Seen w B A n (l.map (Value.int .i64))) (hn:n<=1099511627776) (hl: ∀x∈l, -9223372036854775808<=x/\x<=9223372036854775807):
  Calls Tryz.prog 160 #[.slice A n c] w fun e w'=>e=.returned (.int .u64 (TB.puts 0 l:Nat))/\w=w':=by
 have hlen:l.length=n:=by simpa using hA.1
 have HA:=hide hA
 have HL:=hide hlen
 have HX:=hide hl
 clear hA hlen hl
 go_enter Tryz.func160,Tryz.ntmps160
 go_wp2
 go_loopw [3,8] (fun t i wr=> ∃k:Nat,k<=n/\i=.int .i64 k/\t=.int .u64 (TB.puts 0 (l.take k):Nat)/\wr=w) (fun _ i _=>n-(intOf i).toNat)
 case atStart=>exact⟨0,Nat.zero_le _,rfl,rfl,rfl⟩
 case round=>
  obtain⟨k,hk,rfl,rfl,rfl⟩:=hrel
  by_cases hlt:k<n
  ·obtain⟨ad,u,rfl,_,hu,hc⟩:=HA.out.at_ hlt
   rw [List.getElem?_map] at hu
   obtain⟨x,hx,rfl⟩:=Option.map_eq_some_iff.1 hu
   obtain⟨x0,x1⟩:=HX.out x (List.mem_of_getElem? hx)
   have hs:=TB.Xa 0 (l.take k) x
   rw [show l.take k++ [x] =l.take (k+1) from by rw [List.take_add_one,hx];rfl] at hs
   have E1:=u64_or (TB.Ih (l:=l.take k) TB.ok0) (TB.QL x)
   rw [<- hs] at E1
   have E:=hide E1
   generalize TB.puts 0 (l.take k)=z at E
   have HB:=hide fun w'=>U0 x _ rfl w' x0 x1
   generalize TB.Gl x=y at HB E
   clear hu hx hs E1 x0 x1
   go_wp2_with fail
   refine(HB.out _).mono ?_
   rintro e w1 ⟨rfl,rfl⟩
   go_wp2_with fail
   go_roundw
   case rel=>exact⟨k+1,by omega,by go_num,by rw [E.out],by first | rfl | trivial⟩
   case measure=>simp [intOf];omega
  ·obtain rfl:k=n:=by omega
   have e:l.take k=l:=List.take_of_length_le (by rw [HL.out];omega)
   rw [e]
   generalize hz:TB.puts 0 l=z
   have HZ:=hide hz
   clear hz
   go_wp2
   go_ret
   exact⟨CJ (by rw [HZ.out]),rfl⟩
theorem bU (A:Option Addr) (n c B:Nat) (l:List Int) (z:Nat) (hz:TB.puts 0 l=z) (w:World) (hA:Seen w B A n (l.map (Value.int .i64))) (hn:n<=1099511627776) (hl: ∀x∈l, -9223372036854775808<=x/\x<=9223372036854775807):
  Calls Tryz.prog 160 #[.slice A n c] w fun e w'=>e=.returned (.int .u64 z)/\w=w':=by
 subst hz
 exact jy A n c B l w hA hn hl
theorem oh (t:Nat) (A:Option Addr) (n c B:Nat) (l:List Int) (z:Nat) (hz:TB.puts t l=z) (w:World) (ht:TB.Ok t) (hA:Seen w B A n (l.map (Value.int .i64))) (hn:n<=1099511627776) (hl: ∀x∈l, -9223372036854775808<=x/\x<=9223372036854775807):
  Calls Tryz.prog 145 #[.int .u64 t,.slice A n c] w fun e w'=>e=.returned (.int .u64 z)/\w=w':=by
 subst hz
 have HB:=hide fun w' (h:Seen w' B A n (l.map (Value.int .i64)))=>bU A n c B l _ rfl w' h hn hl
 have E1:=u64_or ht (TB.Ih (l:=l) TB.ok0)
 rw [TB.iX ht] at E1
 have E:=hide E1
 have HT:=hide ht
 have HA:=hide hA
 generalize TB.puts 0 l=x at HB E
 generalize TB.puts t l=y at E
 clear hA hl E1 ht
 go_enter Tryz.func145,Tryz.ntmps145
 go_wp2_with fail
 refine(HB.out _ HA.out).mono ?_
 rintro e w1 ⟨rfl,rfl⟩
 go_wp2_with fail
 go_ret
 exact⟨CJ E.out,rfl⟩
theorem kC (t:Nat) (A:Option Addr) (n c B:Nat) (l:List Int) (z:Nat) (hz:TB.drops t l=z) (w:World) (ht:TB.Ok t) (hA:Seen w B A n (l.map (Value.int .i64))) (hn:n<=1099511627776) (hl: ∀x∈l, -9223372036854775808<=x/\x<=9223372036854775807):
  Calls Tryz.prog 185 #[.int .u64 t,.slice A n c] w fun e w'=>e=.returned (.int .u64 z)/\w=w':=by
 subst hz
 have HB:=hide fun w' (h:Seen w' B A n (l.map (Value.int .i64)))=>bU A n c B l _ rfl w' h hn hl
 have E1:=u64_andNot ht (TB.Ih (l:=l) TB.ok0)
 rw [TB.Xb ht] at E1
 have E:=hide E1
 have HT:=hide ht
 have HA:=hide hA
 generalize TB.puts 0 l=x at HB E
 generalize TB.drops t l=y at E
 clear hA hl E1 ht
 go_enter Tryz.func185,Tryz.ntmps185
 go_wp2_with fail
 refine(HB.out _ HA.out).mono ?_
 rintro e w1 ⟨rfl,rfl⟩
 go_wp2_with fail
 go_ret
 exact⟨CJ E.out,rfl⟩
def JY (w:World):Prop:=TabAt 4 Lib.deBruijn64tab w
theorem JY.keep {w w':World} (h:JY w) (hb:Below w.heap.size w w'):JY w':=fun j hj=>by
 have hc:=h j hj
 rw [<- hc]
 exact World.cell?_of_block (hb.block _ (World.block_lt_of_cell? w _ hc))
theorem JY.drewN {w:World} (h:JY w) (k:Nat):JY (w.drewN k):=h
theorem kD (x k idx:Nat) (w:World) (hx0:((x:Int)==0)=false)
  (key:IntKind.u64.wrap (bits BinOp.and IntKind.u64 (x:Int) (IntKind.u64.wrap (-(x:Int)))*285870213051353865) / 288230376151711744=(idx:Int))
  (hi:idx<64) (hk:k<64) (hcell:w.cell? ⟨4,idx,none⟩=some (.int .u8 k)):
  Calls Tryz.prog 141 #[.int .u64 x] w fun e w'=>e=.returned (.int .i64 k)/\w=w':=by
 go_enter Tryz.func141,Tryz.ntmps141
 go_wp2_with (simp only [key])
 go_ret
 exact⟨rfl,rfl⟩
theorem om (x:Nat) (hx:TB.Ok x) (h0:x≠0) (w:World) (hT:JY w):Calls Tryz.prog 141 #[.int .u64 x] w fun e w'=>e=.returned (.int .i64 (Lib.ctz 64 x:Nat))/\w=w':=by
 obtain⟨hlow,hk⟩:=Lib.lowest_bit 64 x h0 hx
 obtain⟨hi,htab⟩:=Lib.deBruijn64_at _ hk
 have hcell:=hT _ hi
 rw [htab] at hcell
 exact kD x _ _ w (by simp;omega) (tz64_key x _ hx h0 hlow) hi hk hcell
theorem bV (t:Nat) (c k:Nat) (z:Nat) (hz:TB.next t c k=z) (w:World) (ht:TB.Ok t) (hT:JY w) (hc:c<=1000) (h1:1<=k) (h2:k<=64):
  Calls Tryz.prog 123 #[.int .u64 t,.int .i64 c,.int .i64 k] w fun e w'=>e=.returned (.int .i64 z)/\w=w':=by
 have HK:=hide fun w'=>Nl k _ rfl w' (by omega) (by omega)
 have HC:=hide fun w'=>Nl c _ rfl w' (by omega) (by omega)
 have HB:=hide fun w'=>U0 c _ rfl w' (by omega) (by omega)
 have E1:=hide (u64_and ht (TB.Hy k))
 have E2:=hide (u64_andNot (TB.JJ ht (b:=TB.Ce k)) (TB.Hy c))
 have E3:=hide (u64_andNot (TB.JJ (TB.JJ ht (b:=TB.Ce k)) (b:=18446744073709551615-TB.Ce c)) (TB.QL c))
 have E4:=hide (show((t&&& TB.Ce k)&&& (18446744073709551615-TB.Ce c))&&& (18446744073709551615-TB.Gl c)=TB.behind t c k from rfl)
 have B0:TB.behind t c k=0->z=k-1:=fun h=>by rw [<- hz];exact TB.RH h2 h
 have B1:TB.behind t c k≠0->Lib.ctz 64 (TB.behind t c k)=z:=fun h=>by rw [<- hz];exact TB.RI ht h
 have hbo:=TB.Ox ht c k
 generalize TB.behind t c k=b at E4 B0 B1 hbo
 generalize TB.Ce k=xk at HK E1 E2 E3 E4
 generalize TB.Ce c=xc at HC E2 E3 E4
 generalize TB.Gl c=xb at HB E3 E4
 generalize t&&& xk=y1 at E1 E2 E3 E4
 generalize y1&&& (18446744073709551615-xc)=y2 at E2 E3 E4
 generalize y2&&& (18446744073709551615-xb)=y3 at E3 E4
 obtain rfl:y3=b:=E4.out
 have TZ:y3≠0-> ∀w',JY w'->Calls Tryz.prog 141 #[.int .u64 y3] w' fun e w1=>e=.returned (.int .i64 z)/\w'=w1:=fun h w' hw=>by
  rw [<- B1 h]
  exact om y3 hbo h w' hw
 have HT:=hide hT
 clear ht hT hbo hz B1
 rcases Nat.eq_zero_or_pos y3 with h | h
 ·subst h
  have hz:=B0 rfl
  have hz':(k:Int)-1=(z:Int):=by omega
  have HZ:=hide hz'
  have E3':=hide (show bits .andNot .u64 (y2:Int) (xb:Int)=0 from E3.out)
  clear B0 TZ hz hz' E3 E4
  go_enter Tryz.func123,Tryz.ntmps123
  go_wp2_with fail
  refine(HK.out _).mono ?_
  rintro e w1 ⟨rfl,rfl⟩
  go_wp2_with fail
  refine(HC.out _).mono ?_
  rintro e w1 ⟨rfl,rfl⟩
  go_wp2_with fail
  refine(HB.out _).mono ?_
  rintro e w1 ⟨rfl,rfl⟩
  rw [E1.out,E2.out]
  go_wp2_with (simp only [E3'.out])
  go_ret
  exact⟨CJ HZ.out,rfl⟩
 ·have TZ':=hide (TZ (by omega))
  have h':((y3:Int)==0)=false:=by simp;omega
  clear TZ B0 E4
  go_enter Tryz.func123,Tryz.ntmps123
  go_wp2_with fail
  refine(HK.out _).mono ?_
  rintro e w1 ⟨rfl,rfl⟩
  go_wp2_with fail
  refine(HC.out _).mono ?_
  rintro e w1 ⟨rfl,rfl⟩
  go_wp2_with fail
  refine(HB.out _).mono ?_
  rintro e w1 ⟨rfl,rfl⟩
  rw [E1.out,E2.out]
  go_wp2_with (first | simp only [E3.out] | (refine(TZ'.out _ HT.out).mono ?_;rintro e w1 ⟨rfl,rfl⟩))
  go_ret
  exact⟨rfl,rfl⟩
end Go.Proofs.YteecohpaecgdlaaGreatDoor
namespace Go.Proofs.YteecohpaecgdlaaGreatDoor
open Go.RowKit
end Go.Proofs.YteecohpaecgdlaaGreatDoor
namespace Go.Proofs.YteecohpaecgdlaaGreatDoor
open Go.RowKit
def Lj:Array Value:= #[.int .i32 9670,.int .u8 42,.int .i32 9618,.int .u8 35,.int .i32 9225,.int .u8 72,.int .i32 9228,.int .u8 70,.int .i32 9229,.int .u8 67,.int .i32 9226,.int .u8 76,.int .i32 176,.int .u8 111,.int .i32 177,.int .u8 43,.int .i32 9252,.int .u8 78,.int .i32 9227,.int .u8 86,.int .i32 9496,.int .u8 43,.int .i32 9488,.int .u8 43,.int .i32 9484,.int .u8 43,.int .i32 9492,.int .u8 43,.int .i32 9532,.int .u8 43,.int .i32 9146,.int .u8 45,.int .i32 9147,.int .u8 45,.int .i32 9472,.int .u8 45,.int .i32 9148,.int .u8 45,.int .i32 9149,.int .u8 95,.int .i32 9500,.int .u8 43,.int .i32 9508,.int .u8 43,.int .i32 9524,.int .u8 43,.int .i32 9516,.int .u8 43,.int .i32 9474,.int .u8 124,.int .i32 8804,.int .u8 60,.int .i32 8805,.int .u8 62,.int .i32 960,.int .u8 112,.int .i32 8800,.int .u8 33,.int .i32 163,.int .u8 76,.int .i32 183,.int .u8 46]
def FR (w:World):Prop:= ∃t,w.heap[1]? =some (.cells Lj t (0,0))
theorem FR.lt {w:World} (h:FR w):1<w.heap.size:=by
 obtain⟨t,h⟩:=h
 exact(Array.getElem?_eq_some_iff.1 h).1
theorem FR.below {w w':World} {B:Nat} (h:FR w) (hb:Below B w w') (hB:1<B):FR w':=by
 obtain⟨t,h⟩:=h
 exact⟨t,(hb.block _ hB).trans h⟩
theorem FR.keep {w w':World} (h:FR w) (hb:Below w.heap.size w w'):FR w':=h.below hb h.lt
theorem oo:Tryz.prog.globalNamed "linguist/charset.signs" =some 1:=by kernel_rfl
theorem oq:(Tryz.prog.globals[1]?).map (·.type)=some 148:=by kernel_rfl
theorem U7:tiled Tryz.prog 4 148=true:=by kernel_rfl
theorem YR:flat (H:=Unit) Rows.laid_linguist_charset_signs=some Lj.toList:=by rfl
theorem Io {w:World} {l:List (String × DataW Unit)} (h:laidMet Tryz.prog l w) (hm:("linguist/charset.signs",Rows.laid_linguist_charset_signs)∈l):FR w:=by
 obtain⟨t,ht⟩:=DV 4 oo oq U7 YR (by simp [Lj]) h hm
 exact⟨t,by simpa using ht⟩
theorem SB {w:World} (h:FR w) (k:Nat) (hk:k<31):w.cell? ⟨1,k*2,none⟩=some (.int .i32 (CH.Ml k)):=by
 obtain⟨t,h⟩:=h
 rw [cell_of_row w _ (k*2) _ t (0,0) h]
 obtain rfl | rfl | rfl | rfl | rfl | rfl | rfl | rfl | rfl | rfl | rfl | rfl | rfl | rfl | rfl | rfl | rfl | rfl | rfl | rfl | rfl | rfl | rfl | rfl | rfl | rfl | rfl | rfl | rfl | rfl | rfl:k=0\/k=1\/k=2\/k=3\/k=4\/k=5\/k=6\/k=7\/k=8\/k=9\/k=10\/k=11\/k=12\/k=13\/k=14\/k=15\/k=16\/k=17\/k=18\/k=19\/k=20\/k=21\/k=22\/k=23\/k=24\/k=25\/k=26\/k=27\/k=28\/k=29\/k=30:=by omega
 all_goals rfl
theorem Oe {k:Nat} (h:k<31):CH.draw (96+(k:Int))=CH.Ml k:=by
 unfold CH.draw
 rw [if_neg (by omega),if_pos (by omega)]
 congr 1
 omega
theorem KA {b:Int} (h:b<95\/126<b):CH.draw b=b:=by
 unfold CH.draw
 rw [if_neg (by omega),if_neg (by omega)]
theorem bW (b:Int) (w:World) (h0:0<=b) (h1:b<256) (hs:FR w):Calls Tryz.prog 101 #[.int .u8 b] w fun e w'=>e=.returned (.int .i32 (CH.draw b))/\Below w.heap.size w w':=by
 have cs:b=95\/(96<=b/\b<=126)\/b<95\/126<b:=by omega
 rcases cs with rfl | h | h | h
 ·go_enter Tryz.func101,Tryz.ntmps101
  go_wp2
  go_ret
  exact⟨rfl,Below.refl _ _⟩
 ·have hk:(b-96).toNat<31:=by omega
  have hc:=SB hs (b-96).toNat hk
  have e:=Oe hk
  rw [show(96:Int)+((b-96).toNat:Int)=b from by omega] at e
  have E:=hide e
  clear hs e hk
  generalize CH.Ml (b-96).toNat=x at hc E
  have hb:(b==95)=false:=by simp;omega
  go_enter Tryz.func101,Tryz.ntmps101
  go_wp2
  go_ret
  exact⟨CJ E.out.symm,Below.refl _ _⟩
 ·have E:=hide (KA (b:=b) (by omega))
  have hb:(b==95)=false:=by simp;omega
  go_enter Tryz.func101,Tryz.ntmps101
  go_wp2
  go_ret
  exact⟨CJ E.out.symm,Below.refl _ _⟩
 ·have E:=hide (KA (b:=b) (by omega))
  have hb:(b==95)=false:=by simp;omega
  have hb':96<=b:=by omega
  go_enter Tryz.func101,Tryz.ntmps101
  go_wp2
  go_ret
  exact⟨CJ E.out.symm,Below.refl _ _⟩
end Go.Proofs.YteecohpaecgdlaaGreatDoor
namespace Go.Proofs.YteecohpaecgdlaaGreatDoor
open Go.RowKit
def Nn (l:List Int) (i:Nat):Int:=((PS.pos (l.getD i 0):Nat):Int)
theorem Np {l:List Int} (h:l.length<2):PS.wide l=(none,l.length):=by
 rcases l with _ | ⟨a,_ | ⟨b,l⟩⟩
 ·rfl
 ·rfl
 ·simp only [List.length_cons] at h
  omega
theorem YS {l:List Int} {x:Int} (h:2<=l.length) (h5:l[0]? =some 5) (hx:Nn l 1=x) (h2:255<x):PS.wide l=(none,2):=by
 rcases l with _ | ⟨a,_ | ⟨b,l⟩⟩
 ·simp at h
 ·simp at h
 ·have ha:a=5:=by simpa using h5
  have hb:(PS.pos b:Int)=x:=hx
  subst ha
  rcases l with _ | ⟨c,_ | ⟨d,l⟩⟩
  ·show(if (5:Int)=5/\PS.pos b<=255 then some ((PS.pos b:Nat):Int) else none,2)=_
   rw [if_neg (by omega)]
  ·show(if (5:Int)=5 then (if PS.pos b<=255 then some ((PS.pos b:Nat):Int) else none,2) else (none,3))=_
   rw [if_pos rfl,if_neg (by omega)]
  ·rw [PS.Jr,if_pos rfl,if_neg (by omega)]
theorem SE {l:List Int} {x:Int} (h:2<=l.length) (h5:l[0]? =some 5) (hx:Nn l 1=x) (h2:x<=255):PS.wide l=(some x,2):=by
 rcases l with _ | ⟨a,_ | ⟨b,l⟩⟩
 ·simp at h
 ·simp at h
 ·have ha:a=5:=by simpa using h5
  have hb:(PS.pos b:Int)=x:=hx
  subst ha
  rw [PS.YB b (by omega),hb]
theorem U8 {l:List Int} {x:Int} (h:2<=l.length) (h0:l[0]? =some x) (h5:x≠5) (h2:l.length<4\/x≠2):PS.wide l=(none,l.length):=by
 rcases l with _ | ⟨a,_ | ⟨b,_ | ⟨c,_ | ⟨d,l⟩⟩⟩⟩
 ·simp at h
 ·simp at h
 ·have ha:a=x:=by simpa using h0
  show(if a=5/\PS.pos b<=255 then some ((PS.pos b:Nat):Int) else none,2)=_
  rw [if_neg (by omega)]
  rfl
 ·have ha:a=x:=by simpa using h0
  show(if a=5 then (if PS.pos b<=255 then some ((PS.pos b:Nat):Int) else none,2) else (none,3))=_
  rw [if_neg (by omega)]
  rfl
 ·have ha:a=x:=by simpa using h0
  have:a≠2:=by
   rcases h2 with h2 | h2
   ·simp only [List.length_cons] at h2
    omega
   ·omega
  rw [PS.Jr,if_neg (by omega),if_neg this]
  rfl
theorem bX {l:List Int} {r g b:Int} (h:4<=l.length) (h0:l[0]? =some 2) (hr:Nn l 1=r) (hg:Nn l 2=g) (hb:Nn l 3=b):PS.wide l=(if r<=255/\g<=255/\b<=255 then some (16777216+r*65536+g*256+b) else none,4):=by
 rcases l with _ | ⟨a,_ | ⟨x,_ | ⟨y,_ | ⟨z,l⟩⟩⟩⟩
 ·simp at h
 ·simp at h
 ·simp at h
 ·simp at h
 ·have ha:a=2:=by simpa using h0
  have e1:(PS.pos x:Int)=r:=hr
  have e2:(PS.pos y:Int)=g:=hg
  have e3:(PS.pos z:Int)=b:=hb
  subst ha
  rw [PS.Jr,if_neg (by decide),if_pos rfl,e1,e2,e3]
  by_cases hc:r<=255/\g<=255/\b<=255
  ·rw [if_pos hc,if_pos (by omega)]
  ·rw [if_neg hc,if_neg (by omega)]
end Go.Proofs.YteecohpaecgdlaaGreatDoor
namespace Go.Proofs.YteecohpaecgdlaaGreatDoor
open Go.RowKit
theorem sS {v u:Value} (h:v=u):Ending.returned v=.returned u:=by rw [h]
theorem bY (f b g:Int) (A:Option Addr) (n c:Nat) (l:List Int) (w:World) (hA:Seen w w.heap.size A n (l.map (Value.int .i64))) (hn:n<=1099511627776):
  Calls Tryz.prog 189 #[.agg #[.int .i64 f,.int .i64 b,.int .i64 g],.slice A n c] w fun e w'=>e=.returned (.agg #[.int .i64 f,.int .i64 b,.int .i64 (C.ors g l)])/\Below w.heap.size w w':=by
 have hlen:l.length=n:=by simpa using hA.1
 have HA:=hide hA
 have HL:=hide hlen
 clear hA hlen
 go_enter Tryz.func189,Tryz.ntmps189
 go_wp2
 go_loopw [9] (fun i wr=> ∃k:Nat,k<=n/\i=.int .i64 k/\Box wr w.heap.size 28 #[.int .i64 f,.int .i64 b,.int .i64 (C.ors g (l.take k))] /\Box wr (w.heap.size+1) 28 #[.int .i64 0,.int .i64 0,.int .i64 0] /\Below w.heap.size w wr)
  (fun i _=>n-(intOf i).toNat)
 case atStart=>exact⟨0,Nat.zero_le _,rfl,(Box.new w _ _).alloc _,by have h:=Box.new (w.alloc (.cells #[.int .i64 f,.int .i64 b,.int .i64 g] 28)) 28 #[.int .i64 0,.int .i64 0,.int .i64 0];rw [World.size_alloc] at h;exact h,((Below.refl _ _).alloc (Nat.le_refl _) _).alloc (by simp) _⟩
 case round=>
  obtain⟨k,hk,rfl,hb,hr,hbel⟩:=hrel
  by_cases hlt:k<n
  ·obtain⟨ad,u,rfl,_,hu,hc⟩:=(HA.out.below hbel).at_ hlt
   rw [List.getElem?_map] at hu
   obtain⟨x,hx,rfl⟩:=Option.map_eq_some_iff.1 hu
   have ho:=C.Zn g (l.take k) x
   rw [show l.take k++ [x] =l.take (k+1) from by rw [List.take_add_one,hx];rfl] at ho
   have HO:=hide ho
   clear hu hx ho
   generalize C.ors g (l.take k)=z at hb HO
   obtain⟨k0,k1,k2,k3,k4,k5⟩:=hb.three
   go_wp2
   go_roundw
   case rel=>
    refine⟨k+1,by omega,by go_num,?_,Box.far hr (by simp) _,hbel.setCell (Nat.le_refl _) _⟩
    rw [HO.out]
    exact hb.set 2 _
   case measure=>simp [intOf];omega
  ·obtain rfl:k=n:=by omega
   rw [List.take_of_length_le (by rw [HL.out];omega)] at hb
   generalize hz:C.ors g l=z at hb
   have HZ:=hide hz
   clear hz
   obtain⟨k0,k1,k2,k3,k4,k5⟩:=hb.three
   obtain⟨j0,j1,j2,j3,j4,j5⟩:=hr.three
   go_wp2
   refine bodyPost_ret (v:=.agg #[.int .i64 f,.int .i64 b,.int .i64 z]) (by simp [results,Tryz.results189,go_sem,j0,j1,j2]) rfl ⟨sS (by rw [HZ.out]),?_⟩
   repeat(first | exact hbel | refine Below.setCell ?_ (by first | omega | (simp;done) | (simp;omega)) _)
end Go.Proofs.YteecohpaecgdlaaGreatDoor
