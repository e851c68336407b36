/- A part of the proof: SourceSpec, ParseSpec, ParseMore, UtfLemmas, SeqSpec, EventSpec, CharsetTab, RefPen10, CellPack, PenFun. -/
import Derived.Test.YtoaabebgmdbjeaaGreatDoorSb08
set_option maxRecDepth 100000
set_option maxHeartbeats 16000000
set_option linter.unusedVariables false
namespace Go.Proofs.YtoaabebgmdbjeaaGreatDoor
open Go.RowKit
namespace PS
theorem Ot {n:Int} (h0:0<=n) (h:n<=255):Col n:=.inr (.inl ⟨h0,h⟩)
theorem SF:Col (-1):=.inl rfl
theorem gW {p:Pn} (h1:Col p.fo) (h2:Col p.ba) (n:Nat):Col (one p n).fo/\Col (one p n).ba:=by
 unfold one
 repeat' split
 all_goals (refine⟨?_,?_⟩<;>(try dsimp only [plain])<;>first | exact h1 | exact h2 | exact SF | exact Ot (by omega) (by omega))
theorem QK: ∀(l:List Int) (c:Int),(wide l).1=some c->Col c
 | [],c,h=>by simp [wide] at h
 | [_],c,h=>by simp [wide] at h
 | [a,b],c,h=>by
  simp only [wide] at h
  split at h
  ·rename_i hh
   simp only [Option.some.injEq] at h
   subst h
   exact Ot (by omega) (by omega)
  ·cases h
 | [a,b,d],c,h=>by
  simp only [wide] at h
  split at h
  ·split at h
   ·simp only [Option.some.injEq] at h
    subst h
    exact Ot (by omega) (by omega)
   ·cases h
  ·cases h
 | a::b::d::e::r,c,h=>by
  simp only [wide] at h
  split at h
  ·split at h
   ·simp only [Option.some.injEq] at h
    subst h
    exact Ot (by omega) (by omega)
   ·cases h
  ·repeat' (split at h)
   all_goals first | (cases h;done) | (simp only [Option.some.injEq] at h;subst h;exact .inr (.inr (by omega)))
theorem Y0 {p:Pn} (h1:Col p.fo) (h2:Col p.ba) {o:Option Int} (ho: ∀c,o=some c->Col c):Col (SE p o).fo/\Col (SE p o).ba:=by
 cases o with
 | none=>exact⟨h1,h2⟩
 | some c=>exact⟨ho c rfl,h2⟩
theorem Y1 {p:Pn} (h1:Col p.fo) (h2:Col p.ba) {o:Option Int} (ho: ∀c,o=some c->Col c):Col (back p o).fo/\Col (back p o).ba:=by
 cases o with
 | none=>exact⟨h1,h2⟩
 | some c=>exact⟨h1,ho c rfl⟩
theorem LD: ∀(k:Nat) {p:Pn} (l:List Int),Col p.fo->Col p.ba->Col (app k p l).fo/\Col (app k p l).ba
 | _,p, [],h1,h2=>by rw [LA];exact⟨h1,h2⟩
 | 0,p,_::_,h1,h2=>⟨h1,h2⟩
 | k+1,p,x::l,h1,h2=>by
  rw [Fp]
  split
  ·have:=Y0 h1 h2 (QK l)
   exact LD k _ this.1 this.2
  ·split
   ·have:=Y1 h1 h2 (QK l)
    exact LD k _ this.1 this.2
   ·have:=gW h1 h2 (pos x)
    exact LD k _ this.1 this.2
theorem Vw {p:Pn} (h1:Col p.fo) (h2:Col p.ba) (l:List Int):Col (apply p l).fo/\Col (apply p l).ba:=by
 unfold apply
 split
 ·exact⟨SF,SF⟩
 ·exact LD _ _ h1 h2
end PS
namespace SN
def Y2 (p:PG.Pn) (l:List Int):PG.Pn:=((PS.apply ⟨p.1,p.2.1,p.2.2.toNat⟩ l).fo,(PS.apply ⟨p.1,p.2.1,p.2.2.toNat⟩ l).ba,((PS.apply ⟨p.1,p.2.1,p.2.2.toNat⟩ l).fl:Nat))
theorem Ih {c:Int}:C.col c=true<->PS.Col c:=by
 unfold C.col PS.Col
 simp
theorem Vx {p:PG.Pn} (h:PG.Cv p) (l:List Int):PG.Cv (Y2 p l):=by
 obtain⟨h1,h2,h3,h4⟩:=C.Gl.1 h
 have c:=PS.Vw (p:=⟨p.1,p.2.1,p.2.2.toNat⟩) (Ih.1 h1) (Ih.1 h2) l
 have o:=PS.Yx (p:=⟨p.1,p.2.1,p.2.2.toNat⟩) (show p.2.2.toNat<256 by omega) l
 unfold PS.Ok at o
 refine C.Gl.2 ⟨Ih.2 c.1,Ih.2 c.2,?_,?_⟩
 ·show(0:Int)<=((PS.apply ⟨p.1,p.2.1,p.2.2.toNat⟩ l).fl:Nat)
  omega
 ·show(((PS.apply ⟨p.1,p.2.1,p.2.2.toNat⟩ l).fl:Nat):Int)<=255
  omega
def Y3 (s:Sc):Int:=if s.sh=0 then s.s0 else s.s1
def Gi (s:Sc) (x:Int):Int:=if Y3 s=48/\95<=x/\x<=126 then CH.draw x else x
theorem Vy {s:Sc} {r p:Int} (h0:0<=r) (h1:r<=1114111) (h:Gi s r=p): -2147483648<=p/\p<=2147483647:=by
 subst h
 unfold Gi
 split
 ·rename_i hh
  have e: ∀k:Fin 32, -2147483648<=CH.draw (95+(k.val:Int))/\CH.draw (95+(k.val:Int))<=2147483647:=by decide
  have:=e ⟨(r-95).toNat,by omega⟩
  rw [show(95+(((⟨(r-95).toNat,by omega⟩:Fin 32).val:Nat):Int))=r by show(95+(((r-95).toNat:Nat):Int))=r;omega] at this
  exact this
 ·omega
def Jq (s:Sc) (w:Nat):Sc:=if s.wrap=true/\(s.pend=true\/s.g.AB<s.col+w) then Dx (s.u4 0) else s
def EF (s:Sc) (w:Nat):Nat:=min s.col (s.g.AB-w)
def EJ (s:Sc) (x:Int) (w:Nat):Sc:=
 if s.g.AB<=EF s w+w then ((s.uG (PG.EL s.g s.row (EF s w) x s.pen)).u4 (s.g.AB-1)).u5 s.wrap
 else ((s.uG (PG.EL s.g s.row (EF s w) x s.pen)).u4 (EF s w+w)).u5 false
def JK (s:Sc) (r:Int):Sc:=if C.width (Gi s r)=0\/(s.g.AB:Int)<C.width (Gi s r) then s else EJ (Jq s (C.width (Gi s r)).toNat) (Gi s r) (C.width (Gi s r)).toNat
def Fq (s:Sc) (b:Int):Sc:=
 if b=8 then atS s s.row ((s.col:Int)-1)
 else if b=9 then atS s s.row (TB.next s.tabs s.col s.g.AB)
 else if b=10\/b=11\/b=12 then Dx s
 else if b=13 then atS s s.row 0
 else if b=14 then s.u14 1
 else if b=15 then s.u14 0
 else s
def FI (s:Sc) (it fn:Int):Sc:=
 if it=40\/it=41 then (if fn=48\/fn=66 then (if it=40 then s.u12 fn else s.u13 fn) else s)
 else if it≠0 then s
 else if fn=55 then Kn s
 else if fn=56 then Lx s
 else if fn=68 then Dx s
 else if fn=69 then Dx (s.u4 0)
 else if fn=77 then Jp s
 else if fn=72 then s.u11 (TB.IC s.tabs s.col)
 else if fn=99 then full s.g.rows s.g.AB
 else if fn=61 then s.u19 true
 else if fn=62 then s.u19 false
 else s
def Bd (l:List Int) (i:Nat) (d:Int):Int:=if l.getD i 0<1 then d else l.getD i 0
def MF (s:Sc) (fn:Int) (l:List Int):Option Sc:=
 if fn=65 then some (upS s (Bd l 0 1).toNat)
 else if fn=66 then some (Iz s (Bd l 0 1).toNat)
 else if fn=67 then some (atS s s.row ((s.col:Int)+Bd l 0 1))
 else if fn=68 then some (atS s s.row ((s.col:Int)-Bd l 0 1))
 else if fn=69 then some (atS s (Uk s (Bd l 0 1).toNat) 0)
 else if fn=70 then some (atS s (upR s (Bd l 0 1).toNat) 0)
 else if fn=71\/fn=96 then some (atS s s.row (Bd l 0 1-1))
 else if fn=100 then some (goS s (Bd l 0 1-1) s.col)
 else if fn=72\/fn=102 then some (goS s (Bd l 0 1-1) (Bd l 1 1-1))
 else none
def InM (s:Sc):Prop:=s.top<=s.row/\s.row<=s.bot
instance (s:Sc):Decidable (InM s):=inferInstanceAs (Decidable (_/\_))
def marginTop (l:List Int):Int:=Bd l 0 1-1
def Co (s:Sc) (l:List Int):Int:=min (Bd l 1 s.g.rows) s.g.rows-1
def Fu (s:Sc) (fn:Int) (l:List Int):Sc:=
 if fn=74 then (s.uG (PG.Fh s.g s.row s.col (Bd l 0 0) (BI s))).u5 false
 else if fn=75 then (s.uG (PG.Bl s.g s.row s.col (Bd l 0 0) (BI s))).u5 false
 else if fn=76 then (if InM s then atS (s.uG (PG.Am s.g s.row s.bot (-(Bd l 0 1)) (BI s))) s.row 0 else s)
 else if fn=77 then (if InM s then atS (s.uG (PG.Am s.g s.row s.bot (Bd l 0 1) (BI s))) s.row 0 else s)
 else if fn=64 then (s.uG (PG.CK s.g s.row s.col (Bd l 0 1) (BI s))).u5 false
 else if fn=80 then (s.uG (PG.CK s.g s.row s.col (-(Bd l 0 1)) (BI s))).u5 false
 else if fn=88 then (s.uG (PG.DW s.g s.row s.col (s.col+(Bd l 0 1).toNat) (BI s))).u5 false
 else if fn=83 then s.uG (PG.Am s.g s.top s.bot (Bd l 0 1) (BI s))
 else if fn=84 then s.uG (PG.Am s.g s.top s.bot (-(Bd l 0 1)) (BI s))
 else if fn=109 then s.uP (Y2 s.pen l)
 else if fn=114 then (if marginTop l<Co s l then I4 ((s.u6 (marginTop l).toNat).u7 (Co s l).toNat) else s)
 else if fn=103 then (if Bd l 0 0=0 then s.u11 (TB.drop1 s.tabs s.col) else if Bd l 0 0=3 then s.u11 0 else s)
 else if fn=115 then Kn s
 else if fn=117 then Lx s
 else s
def Ct (s:Sc) (on:Bool) (l:List Int):Sc:=l.foldl (fun t n=>GV t n on) s
def Vz (s:Sc) (pv it fn:Int) (l:List Int):Sc:=
 if it≠0\/(pv≠0/\pv≠63) then s
 else if pv=63 then (if fn=104 then Ct s true l else if fn=108 then Ct s false l else s)
 else (MF s fn l).getD (Fu s fn l)
def doS (s:Sc) (kd rn pv it fn:Int) (l:List Int):Sc:=
 if kd=1 then JK s rn else if kd=2 then Fq s fn else if kd=3 then FI s it fn else if kd=4 then Vz s pv it fn l else s
theorem Fv {s:Sc} (h:Ac s) {G:PG.Gr} (hG:PG.BL G) (h1:G.rows=s.g.rows) (h2:G.AB=s.g.AB):Ac (s.uG G):=by
 refine⟨hG,?_,?_,?_,?_,h.pen,h.tabs,h.set,?_,?_⟩
 ·show s.row<G.rows
  rw [h1];exact h.row
 ·show s.col<G.AB
  rw [h2];exact h.col
 ·show s.bot<G.rows
  rw [h1];exact h.bot
 ·show s.top<s.bot\/(G.rows=1/\s.top=0/\s.bot=0)
  rw [h1];exact h.top
 ·show s.pend=true->s.wrap=true/\s.col+1=G.AB
  rw [h2];exact h.pend
 ·show JY G.rows G.AB s.sv
  rw [h1,h2];exact h.sv
theorem Jr {s:Sc} (h:Ac s):Ac (s.u5 false):=⟨h.g,h.row,h.col,h.bot,h.top,h.pen,h.tabs,h.set,(fun e=>nomatch e),h.sv⟩
theorem Y4 {s:Sc} (h:Ac s) {c:Nat} (hc:c<s.g.AB):Ac ((s.u5 false).u4 c):=⟨h.g,h.row,hc,h.bot,h.top,h.pen,h.tabs,h.set,(fun e=>nomatch e),h.sv⟩
theorem Ni {s:Sc} (h:Ac s) {v:Int} (hv:v=0\/v=1):Ac (s.u14 v):=⟨h.g,h.row,h.col,h.bot,h.top,h.pen,h.tabs,⟨h.set.1,h.set.2.1,hv⟩,h.pend,h.sv⟩
theorem KJ {s:Sc} (h:Ac s) {t:Nat} (ht:TB.Ok t):Ac (s.u11 t):=⟨h.g,h.row,h.col,h.bot,h.top,h.pen,ht,h.set,h.pend,h.sv⟩
theorem Nj {s:Sc} (h:Ac s) (b:Bool):Ac (s.u19 b):=⟨h.g,h.row,h.col,h.bot,h.top,h.pen,h.tabs,h.set,h.pend,h.sv⟩
theorem Y5 {s:Sc} (h:Ac s) {p:PG.Pn} (hp:PG.Cv p):Ac (s.uP p):=⟨h.g,h.row,h.col,h.bot,h.top,hp,h.tabs,h.set,h.pend,h.sv⟩
theorem Ul (s:Sc):Dx (s.u4 0)=Dx ((s.u5 false).u4 0):=by
 unfold Dx
 rfl
theorem Ko {s:Sc} (h:Ac s):Ac (Dx (s.u4 0)):=by
 rw [Ul]
 exact JI (Y4 h h.g.2.2.1)
theorem V3 (s:Sc):(Dx s).g.rows=s.g.rows/\(Dx s).g.AB=s.g.AB:=by
 unfold Dx
 split
 ·exact PG.Dq s.g s.top s.bot 1 (BI s)
 ·exact⟨rfl,rfl⟩
theorem MH {s:Sc} (h:Ac s) (w:Nat):Ac (Jq s w):=by
 unfold Jq
 split
 ·exact Ko h
 ·exact h
theorem V4 (s:Sc) (w:Nat):(Jq s w).g.AB=s.g.AB:=by
 unfold Jq
 split
 ·exact(V3 (s.u4 0)).2
 ·rfl
theorem Cm (g:PG.Gr) (r c:Nat) (x:Int) (p:PG.Pn):(PG.EL g r c x p).rows=g.rows/\(PG.EL g r c x p).AB=g.AB:=by
 unfold PG.EL
 split<;>exact⟨rfl,rfl⟩
theorem DL (g:PG.Gr) (r a b:Nat) (p:PG.Pn):(PG.DW g r a b p).rows=g.rows/\(PG.DW g r a b p).AB=g.AB:=by
 unfold PG.DW
 split<;>exact⟨rfl,rfl⟩
theorem SG {s:Sc} (h:Ac s) (x:Int) (w:Nat):Ac (EJ s x w):=by
 obtain⟨e1,e2⟩:=Cm s.g s.row (EF s w) x s.pen
 have hg:=PG.RY h.g h.pen s.row (EF s w) x
 have hc:=h.g.2.2.1
 unfold EJ
 split
 ·refine⟨hg,?_,?_,?_,?_,h.pen,h.tabs,h.set,?_,?_⟩
  ·show s.row<(PG.EL s.g s.row (EF s w) x s.pen).rows
   rw [e1];exact h.row
  ·show s.g.AB-1<(PG.EL s.g s.row (EF s w) x s.pen).AB
   rw [e2];omega
  ·show s.bot<(PG.EL s.g s.row (EF s w) x s.pen).rows
   rw [e1];exact h.bot
  ·show s.top<s.bot\/((PG.EL s.g s.row (EF s w) x s.pen).rows=1/\s.top=0/\s.bot=0)
   rw [e1];exact h.top
  ·show s.wrap=true->s.wrap=true/\s.g.AB-1+1=(PG.EL s.g s.row (EF s w) x s.pen).AB
   intro e
   rw [e2];exact⟨e,by omega⟩
  ·show JY (PG.EL s.g s.row (EF s w) x s.pen).rows (PG.EL s.g s.row (EF s w) x s.pen).AB s.sv
   rw [e1,e2];exact h.sv
 ·refine⟨hg,?_,?_,?_,?_,h.pen,h.tabs,h.set,(fun e=>nomatch e),?_⟩
  ·show s.row<(PG.EL s.g s.row (EF s w) x s.pen).rows
   rw [e1];exact h.row
  ·show EF s w+w<(PG.EL s.g s.row (EF s w) x s.pen).AB
   rw [e2];omega
  ·show s.bot<(PG.EL s.g s.row (EF s w) x s.pen).rows
   rw [e1];exact h.bot
  ·show s.top<s.bot\/((PG.EL s.g s.row (EF s w) x s.pen).rows=1/\s.top=0/\s.bot=0)
   rw [e1];exact h.top
  ·show JY (PG.EL s.g s.row (EF s w) x s.pen).rows (PG.EL s.g s.row (EF s w) x s.pen).AB s.sv
   rw [e1,e2];exact h.sv
theorem Ou {s:Sc} (h:Ac s) (r:Int):Ac (JK s r):=by
 unfold JK
 split
 ·exact h
 ·exact SG (MH h _) _ _
theorem QL {s:Sc} (h:Ac s) (b:Int):Ac (Fq s b):=by
 unfold Fq
 split
 ·exact Di h _ _
 split
 ·exact Di h _ _
 split
 ·exact JI h
 split
 ·exact Di h _ _
 split
 ·exact Ni h (.inr rfl)
 split
 ·exact Ni h (.inl rfl)
 ·exact h
theorem Ej {P:Sc->Prop} {c:Prop} [Decidable c] {a:Sc} {o:Option Sc} (h1:P a) (h2: ∀t,o=some t->P t): ∀t,(if c then some a else o)=some t->P t:=by
 intro t ht
 split at ht
 ·cases ht
  exact h1
 ·exact h2 t ht
theorem V5 {t c:Nat} (h:TB.Ok t) (hc:c<60):TB.Ok (TB.IC t c):=by
 unfold TB.Ok TB.IC at*
 exact Nat.or_lt_two_pow (n:=64) h (Nat.pow_lt_pow_right (by omega) (by omega))
theorem SH {t c:Nat} (h:TB.Ok t):TB.Ok (TB.drop1 t c):=Nat.lt_of_le_of_lt Nat.and_le_left h
theorem SK {s:Sc} (h:Ac s) (it fn:Int):Ac (FI s it fn):=by
 have hfull:Ac (full s.g.rows s.g.AB):=JB h.g.1 h.g.2.1 h.g.2.2.1 h.g.2.2.2.1
 have CJ:=h.col
 have hk:=h.g.2.2.2.1
 unfold FI
 split
 ·split
  ·rename_i hf
   split
   ·exact⟨h.g,h.row,h.col,h.bot,h.top,h.pen,h.tabs,⟨hf.symm,h.set.2.1,h.set.2.2⟩,h.pend,h.sv⟩
   ·exact⟨h.g,h.row,h.col,h.bot,h.top,h.pen,h.tabs,⟨h.set.1,hf.symm,h.set.2.2⟩,h.pend,h.sv⟩
  ·exact h
 split
 ·exact h
 split
 ·exact L8 h
 split
 ·exact L9 h
 split
 ·exact JI h
 split
 ·exact Ko h
 split
 ·exact SA h
 split
 ·exact KJ h (V5 h.tabs (by omega))
 split
 ·exact hfull
 split
 ·exact Nj h _
 split
 ·exact Nj h _
 ·exact h
theorem QM {s:Sc} (h:Ac s) (fn:Int) (l:List Int): ∀t,MF s fn l=some t->Ac t:=by
 have hn: ∀t,(none:Option Sc)=some t->Ac t:=fun t e=>nomatch e
 have ha:=fun (r c:Int)=>Di h r c
 unfold MF
 exact Ej (ha _ _) (Ej (ha _ _) (Ej (ha _ _) (Ej (ha _ _) (Ej (ha _ _) (Ej (ha _ _) (Ej (ha _ _) (Ej (ha _ _) (Ej (ha _ _) hn))))))))
theorem Em {c:Prop} [Decidable c] {a b:Sc} (h1:Ac a) (h2:Ac b):Ac (if c then a else b):=by
 split
 ·exact h1
 ·exact h2
theorem QN {s:Sc} (h:Ac s) (fn:Int) (l:List Int):Ac (Fu s fn l):=by
 have hp:=Bz h
 have CJ:=h.col
 have hk:=h.g.2.2.2.1
 have sc:=fun (t b:Nat) (n:Int)=>Fv h (PG.Ey h.g hp t b n) (PG.Dq s.g t b n (BI s)).1 (PG.Dq s.g t b n (BI s)).2
 have sh:=fun (r c:Nat) (n:Int)=>Jr (Fv h (PG.Oh h.g hp r c n) (PG.Hf s.g r c n (BI s)).1 (PG.Hf s.g r c n (BI s)).2)
 have wi:=fun (r a b:Nat)=>Jr (Fv h (PG.Kg h.g hp r a b) (DL s.g r a b (BI s)).1 (DL s.g r a b (BI s)).2)
 have er:=fun (r c k:Int)=>Jr (Fv h (PG.Oj h.g hp r c k) (PG.Km s.g r c k (BI s)).1 (PG.Km s.g r c k (BI s)).2)
 have li:=fun (r c k:Int)=>Jr (Fv h (PG.QJ h.g hp r c k) (PG.JH s.g r c k (BI s)).1 (PG.JH s.g r c k (BI s)).2)
 have hm:Ac (if marginTop l<Co s l then I4 ((s.u6 (marginTop l).toNat).u7 (Co s l).toNat) else s):=by
  split
  ·rename_i hm
   have h1:0<=marginTop l:=by
    unfold marginTop Bd
    split<;>omega
   have h2:Co s l<=(s.g.rows:Int)-1:=by
    unfold Co
    omega
   have hR:=h.g.1
   exact Di (s:=(s.u6 (marginTop l).toNat).u7 (Co s l).toNat) ⟨h.g,h.row,h.col,(by show(Co s l).toNat<s.g.rows;omega),.inl (by show(marginTop l).toNat<(Co s l).toNat;omega),h.pen,h.tabs,h.set,h.pend,h.sv⟩ _ _
  ·exact h
 have h0:TB.Ok 0:=by unfold TB.Ok;omega
 unfold Fu
 exact Em (er _ _ _) (Em (li _ _ _) (Em (Em (Di (sc _ _ _) _ _) h) (Em (Em (Di (sc _ _ _) _ _) h) (Em (sh _ _ _) (Em (sh _ _ _) (Em (wi _ _ _) (Em (sc _ _ _) (Em (sc _ _ _) (Em (Y5 h (Vx h.pen l)) (Em hm (Em (Em (KJ h (SH h.tabs)) (Em (KJ h h0) h)) (Em (L8 h) (Em (L9 h) h)))))))))))))
theorem Hg {s:Sc} (h:Ac s) (on:Bool): ∀l:List Int,Ac (Ct s on l):=by
 intro l
 unfold Ct
 induction l generalizing s with
 | nil=>exact h
 | cons x l ih=>exact ih (Fj h x on)
theorem SL {s:Sc} (h:Ac s) (pv it fn:Int) (l:List Int):Ac (Vz s pv it fn l):=by
 unfold Vz
 split
 ·exact h
 split
 ·split
  ·exact Hg h true l
  ·split
   ·exact Hg h false l
   ·exact h
 ·cases e:MF s fn l with
  | none=>exact QN h fn l
  | some t=>exact QM h fn l t e
theorem V6 {s:Sc} (h:Ac s) (kd rn pv it fn:Int) (l:List Int):Ac (doS s kd rn pv it fn l):=by
 unfold doS
 split
 ·exact Ou h rn
 split
 ·exact QL h fn
 split
 ·exact SK h it fn
 split
 ·exact SL h pv it fn l
 ·exact h
end SN
end Go.Proofs.YtoaabebgmdbjeaaGreatDoor
namespace Go.Proofs.YtoaabebgmdbjeaaGreatDoor.PA
def lasts:List Int:= [6,7,23,24,25,26,27,31,47,57,58,59,63,79,80,87,88,90,91,92,93,95,126,127]
def kinds:List Int:= [0,1,0,2,0,2,3,0,4,5,6,7,8,13,11,13,11,13,9,12,10,11,13,14]
def Fw (k:Nat):Int:=lasts.getD k 0
def KL (k:Nat):Int:=kinds.getD k 15
def place (b:Int):Nat:=(lasts.takeWhile (fun l=>l<b)).length
def cls (b:Int):Int:=KL (place b)
def tab:List Int:= [
 0,0,0,0,0,0,0,0,0,0,0,0,0,0,0,0,
 32,32,0,2,16,16,16,16,16,16,16,16,16,16,0,48,
 32,32,1,2,115,145,145,145,145,5,9,11,145,145,0,49,
 32,32,1,2,4,145,145,145,145,145,145,145,145,145,0,49,
 32,32,1,2,0,1,1,1,1,1,1,1,1,1,0,49,
 32,32,1,2,119,86,8,102,70,161,161,161,161,161,0,49,
 32,32,1,2,119,80,8,96,8,161,161,161,161,161,0,49,
 32,32,1,2,8,8,8,8,8,161,161,161,161,161,0,49,
 32,32,1,2,0,0,0,0,0,1,1,1,1,1,0,49,
 0,177,1,10,128,128,128,128,128,128,128,128,128,128,128,128,
 194,194,194,194,194,194,194,194,194,194,194,194,177,194,194,194,
 0,1,1,12,0,0,0,0,0,0,0,0,0,0,0,0,
 194,194,194,194,194,194,194,194,194,194,194,194,1,194,194,194]
def cellAt (st c:Int):Int:=tab.getD (st.toNat*16+c.toNat) 0
def mv (st b:Int):Int:=cellAt st (cls b)
def act (st b:Int):Int:=mv st b-mv st b%16
def nxt (st b:Int):Int:=if mv st b%16=0 then st else mv st b%16
structure D where
 priv:Int
 inter:Int
 parts:Nat
 params:List Int
 text:List Int
def d0:D:=⟨0,0,0, [], []⟩
structure S where
 st:Int
 dec:U.St
 d:D
def s0:S:=⟨1,U.z,d0⟩
structure Ev where
 kind:Int
 rune:Int
 priv:Int
 inter:Int
 final:Int
 params:List Int
 text:List Int
def pr (r:Int):Ev:=⟨1,r,0,0,0, [], []⟩
def D.begin_ (d:D):D:=⟨d.priv,d.inter,d.parts+1,if d.parts<16 then d.params++ [-1] else d.params,d.text⟩
def up (x n:Int):Int:=if (if x<0 then 0 else x)*10+n<65535 then (if x<0 then 0 else x)*10+n else 65535
def D.first (d:D):D:=if d.parts=0 then d.begin_ else d
def D.put (d:D) (n:Int):D:=if 16<d.parts then d else ⟨d.priv,d.inter,d.parts,d.params.set (d.parts-1) (up (d.params.getD (d.parts-1) 0) n),d.text⟩
def D.digit (d:D) (n:Int):D:=d.first.put n
def D.semi (d:D):D:=d.first.begin_
def doo (s:S) (a b:Int):S × List Ev:=
 if a=16 then (s, [pr b])
 else if a=32 then (s, [⟨2,0,0,0,b, [], []⟩])
 else if a=48 then (⟨s.st,(U.it s.dec b).1,s.d⟩,(U.it s.dec b).2.map pr)
 else if a=64 then (⟨s.st,s.dec,⟨b,s.d.inter,s.d.parts,s.d.params,s.d.text⟩⟩, [])
 else if a=80 then (⟨s.st,s.dec,s.d.digit (b-48)⟩, [])
 else if a=96 then (⟨s.st,s.dec,s.d.semi⟩, [])
 else if a=112 then (⟨s.st,s.dec,⟨s.d.priv,b,s.d.parts,s.d.params,s.d.text⟩⟩, [])
 else if a=128 then ((if s.d.text.length=4096 then ⟨11,s.dec,s.d⟩ else ⟨s.st,s.dec,⟨s.d.priv,s.d.inter,s.d.parts,s.d.params,s.d.text++ [b]⟩⟩), [])
 else if a=144 then (s, [⟨3,0,0,s.d.inter,b, [], []⟩])
 else if a=160 then (s, [⟨4,0,s.d.priv,s.d.inter,b,s.d.params, []⟩])
 else if a=176 then (s, [⟨5,0,0,0,0, [],s.d.text⟩])
 else (s, [])
def brk (s:S) (b:Int):S × List Ev:=if b<128/\0<s.dec.need then (⟨s.st,U.z,s.d⟩, [pr 65533]) else (s, [])
def lets (st:Int):Bool:=decide (st=1\/st=2\/st=4\/st=8\/st=11)
def clr (s:S):S:=if lets s.st=true then ⟨s.st,s.dec,d0⟩ else s
def mid (s:S) (b:Int):Int × S:=
 if act s.st b=192 then (act (nxt s.st b) b,⟨nxt (nxt s.st b) b,s.dec,d0⟩) else (act s.st b,⟨nxt s.st b,s.dec,s.d⟩)
def take (s:S) (b:Int):S × List Ev:=
 (clr (doo (mid (brk s b).1 b).2 (mid (brk s b).1 b).1 b).1,(brk s b).2++(doo (mid (brk s b).1 b).2 (mid (brk s b).1 b).1 b).2)
def feed:S->List Int->S × List Ev
 | s, [] =>(s, [])
 | s,b::l=>((feed (take s b).1 l).1,(take s b).2++(feed (take s b).1 l).2)
structure D.ok (d:D):Prop where
 priv:0<=d.priv/\d.priv<256
 inter:0<=d.inter/\d.inter<256
 len:d.params.length=min d.parts 16
 nums: ∀x∈d.params, -1<=x/\x<=65535
 gX:d.text.length<=4096
 bytes: ∀x∈d.text,0<=x/\x<256
structure S.ok (s:S):Prop where
 st:1<=s.st/\s.st<=12
 dec:s.dec.ok
 d:s.d.ok
theorem Y6:d0.ok:=⟨by simp [d0],by simp [d0],by simp [d0],by simp [d0],by simp [d0],by simp [d0]⟩
theorem Nk:s0.ok:=⟨by simp [s0],U.RO,Y6⟩
theorem KM {p:Int->Int->Prop} [∀a b,Decidable (p a b)] (h: ∀(s:Fin 12) (n:Fin 256),p ((s.val:Int)+1) (n.val:Int)) (st b:Int) (h0:1<=st) (h1:st<=12) (h2:0<=b) (h3:b<256):p st b:=by
 obtain⟨n,rfl⟩:=Int.eq_ofNat_of_zero_le h2
 obtain⟨m,hm⟩:=Int.eq_ofNat_of_zero_le (show 0<=st-1 by omega)
 obtain rfl:st=(m:Int)+1:=by omega
 exact h ⟨m,by omega⟩ ⟨n,by omega⟩
theorem pV (st b:Int) (h0:1<=st) (h1:st<=12) (h2:0<=b) (h3:b<256):0<=mv st b/\mv st b<256:=
 KM (p:=fun st b=>0<=mv st b/\mv st b<256) (by decide+kernel) st b h0 h1 h2 h3
theorem lV (b:Int) (h2:0<=b) (h3:b<256):0<=cls b/\cls b<16:=
 U.Dl (p:=fun b=>0<=cls b/\cls b<16) (by decide+kernel) b h2 h3
theorem SQ (st b:Int) (h0:1<=st) (h1:st<=12) (h2:0<=b) (h3:b<256):1<=nxt st b/\nxt st b<=12:=
 KM (p:=fun st b=>1<=nxt st b/\nxt st b<=12) (by decide+kernel) st b h0 h1 h2 h3
def I5 (a:Int):Prop:=a=0\/a=16\/a=32\/a=48\/a=64\/a=80\/a=96\/a=112\/a=128\/a=144\/a=160\/a=176
instance (a:Int):Decidable (I5 a):=by unfold I5;infer_instance
theorem Y7 (st b:Int) (h0:1<=st) (h1:st<=12) (h2:0<=b) (h3:b<256):I5 (act st b)\/act st b=192:=
 KM (p:=fun st b=>I5 (act st b)\/act st b=192) (by decide+kernel) st b h0 h1 h2 h3
theorem Nl (st b:Int) (h0:1<=st) (h1:st<=12) (h2:0<=b) (h3:b<256):act st b=192->nxt st b=2/\I5 (act 2 b):=
 KM (p:=fun st b=>act st b=192->nxt st b=2/\I5 (act 2 b)) (by decide+kernel) st b h0 h1 h2 h3
theorem Nn (st b:Int) (h0:1<=st) (h1:st<=12) (h2:0<=b) (h3:b<256):(act st b=80->48<=b/\b<=57)/\(act st b=160->nxt st b=1)/\(act st b=16->b<128):=
 KM (p:=fun st b=>(act st b=80->48<=b/\b<=57)/\(act st b=160->nxt st b=1)/\(act st b=16->b<128)) (by decide+kernel) st b h0 h1 h2 h3
theorem QO {d:D} (h:d.ok):d.begin_.ok:=by
 obtain⟨h1,h2,h3,h4,h5,h6⟩:=h
 unfold D.begin_
 refine⟨h1,h2,?_,?_,h5,h6⟩
 ·simp only []
  split
  ·rw [List.length_append,h3];simp;omega
  ·rw [h3];omega
 ·simp only []
  intro x hx
  split at hx
  ·rcases List.mem_append.1 hx with hx | hx
   ·exact h4 x hx
   ·simp at hx;omega
  ·exact h4 x hx
theorem Js {d:D} (h:d.ok):d.first.ok:=by
 unfold D.first
 split
 ·exact QO h
 ·exact h
theorem GY (d:D):1<=d.first.parts/\d.parts<=d.first.parts/\d.first.parts<=d.parts+1:=by
 unfold D.first
 split
 ·simp [D.begin_]
 ·omega
theorem kG {x n:Int} (hx:x<=65535) (h0:0<=n) (h1:n<=9):0<=up x n/\up x n<=65535:=by
 unfold up
 by_cases hx0:x<0
 ·simp only [if_pos hx0]
  split<;>omega
 ·simp only [if_neg hx0]
  split<;>omega
theorem lW {d:D} (h:d.ok) {n:Int} (h0:0<=n) (h1:n<=9):(d.put n).ok:=by
 unfold D.put
 split
 ·exact h
 ·obtain⟨a1,a2,a3,a4,a5,a6⟩:=h
  refine⟨a1,a2,by simpa using a3,?_,a5,a6⟩
  intro x hx
  rcases List.mem_or_eq_of_mem_set hx with hx | rfl
  ·exact a4 x hx
  ·have:d.params.getD (d.parts-1) 0<=65535:=by
    rw [List.getD_eq_getElem?_getD]
    rcases hq:d.params[d.parts-1]? with _ | y
    ·simp
    ·simpa using (a4 y (List.mem_of_getElem? hq)).2
   have:=kG this h0 h1
   omega
theorem Y8 {d:D} (h:d.ok) {n:Int} (h0:0<=n) (h1:n<=9):(d.digit n).ok:=lW (Js h) h0 h1
theorem gY {d:D} (h:d.ok):d.semi.ok:=QO (Js h)
theorem V7 (d:D) (n:Int):(d.put n).parts=d.parts:=by unfold D.put;split<;>rfl
theorem QS (d:D) (n:Int):(d.digit n).parts<=d.parts+1:=by
 unfold D.digit;rw [V7];exact(GY d).2.2
theorem SS (d:D):d.semi.parts<=d.parts+2:=by
 have:=(GY d).2.2
 unfold D.semi D.begin_
 simp only []
 omega
theorem Ov {P:S × List Ev->Prop} (s:S) (a b:Int)
  (h16:a=16->P (s, [pr b]))
  (h32:a=32->P (s, [⟨2,0,0,0,b, [], []⟩]))
  (h48:a=48->P (⟨s.st,(U.it s.dec b).1,s.d⟩,(U.it s.dec b).2.map pr))
  (h64:a=64->P (⟨s.st,s.dec,⟨b,s.d.inter,s.d.parts,s.d.params,s.d.text⟩⟩, []))
  (h80:a=80->P (⟨s.st,s.dec,s.d.digit (b-48)⟩, []))
  (h96:a=96->P (⟨s.st,s.dec,s.d.semi⟩, []))
  (h112:a=112->P (⟨s.st,s.dec,⟨s.d.priv,b,s.d.parts,s.d.params,s.d.text⟩⟩, []))
  (h128:a=128->P ((if s.d.text.length=4096 then ⟨11,s.dec,s.d⟩ else ⟨s.st,s.dec,⟨s.d.priv,s.d.inter,s.d.parts,s.d.params,s.d.text++ [b]⟩⟩), []))
  (h144:a=144->P (s, [⟨3,0,0,s.d.inter,b, [], []⟩]))
  (h160:a=160->P (s, [⟨4,0,s.d.priv,s.d.inter,b,s.d.params, []⟩]))
  (h176:a=176->P (s, [⟨5,0,0,0,0, [],s.d.text⟩]))
  (hz:P (s, [])):P (doo s a b):=by
 unfold doo
 by_cases e16:a=16
 ·rw [if_pos e16];exact h16 e16
 rw [if_neg e16]
 by_cases e32:a=32
 ·rw [if_pos e32];exact h32 e32
 rw [if_neg e32]
 by_cases e48:a=48
 ·rw [if_pos e48];exact h48 e48
 rw [if_neg e48]
 by_cases e64:a=64
 ·rw [if_pos e64];exact h64 e64
 rw [if_neg e64]
 by_cases e80:a=80
 ·rw [if_pos e80];exact h80 e80
 rw [if_neg e80]
 by_cases e96:a=96
 ·rw [if_pos e96];exact h96 e96
 rw [if_neg e96]
 by_cases e112:a=112
 ·rw [if_pos e112];exact h112 e112
 rw [if_neg e112]
 by_cases e128:a=128
 ·rw [if_pos e128];exact h128 e128
 rw [if_neg e128]
 by_cases e144:a=144
 ·rw [if_pos e144];exact h144 e144
 rw [if_neg e144]
 by_cases e160:a=160
 ·rw [if_pos e160];exact h160 e160
 rw [if_neg e160]
 by_cases e176:a=176
 ·rw [if_pos e176];exact h176 e176
 rw [if_neg e176]
 exact hz
theorem V8 (s:S) (a b:Int):(doo s a b).1.d.parts<=s.d.parts+2:=by
 have h1:=QS s.d (b-48)
 have h2:=SS s.d
 refine Ov (P:=fun r=>r.1.d.parts<=s.d.parts+2) s a b (fun _=>Nat.le_add_right _ _) (fun _=>Nat.le_add_right _ _) (fun _=>Nat.le_add_right _ _) (fun _=>Nat.le_add_right _ _)
  (fun _=>Nat.le_trans h1 (by omega)) (fun _=>h2) (fun _=>Nat.le_add_right _ _) (fun _=>?_) (fun _=>Nat.le_add_right _ _) (fun _=>Nat.le_add_right _ _) (fun _=>Nat.le_add_right _ _) (Nat.le_add_right _ _)
 show(if _ then _ else _:S).d.parts<=_
 split<;>exact Nat.le_add_right _ _
theorem lX {s:S} (h:s.ok) {a b:Int} (h0:0<=b) (h1:b<256) (ha:a=80->48<=b/\b<=57):(doo s a b).1.ok:=by
 obtain⟨hs,hd,hr⟩:=id h
 refine Ov (P:=fun r=>r.1.ok) s a b (fun _=>h) (fun _=>h) (fun _=>⟨hs,U.jr hd b h1,hr⟩) (fun _=>⟨hs,hd,⟨⟨h0,h1⟩,hr.inter,hr.len,hr.nums,hr.gX,hr.bytes⟩⟩)
  (fun e=>?_) (fun _=>⟨hs,hd,gY hr⟩) (fun _=>⟨hs,hd,⟨hr.priv,⟨h0,h1⟩,hr.len,hr.nums,hr.gX,hr.bytes⟩⟩) (fun _=>?_) (fun _=>h) (fun _=>h) (fun _=>h) h
 ·have:=ha e
  exact⟨hs,hd,Y8 hr (by omega) (by omega)⟩
 ·show S.ok (if _ then _ else _)
  split
  ·exact⟨by simp,hd,hr⟩
  ·have:=hr.gX
   refine⟨hs,hd,⟨hr.priv,hr.inter,hr.len,hr.nums,by simp;omega,fun x hx=>?_⟩⟩
   rcases List.mem_append.1 hx with hx | hx
   ·exact hr.bytes x hx
   ·simp at hx;omega
theorem SV {s:S} (h:s.ok) (b:Int):(brk s b).1.ok:=by
 unfold brk
 split
 ·exact⟨h.st,U.RO,h.d⟩
 ·exact h
theorem SX {s:S} (h:s.ok) {b:Int} (h0:0<=b) (h1:b<256):(mid s b).2.ok/\I5 (mid s b).1/\((mid s b).1=80->48<=b/\b<=57)/\((mid s b).1=160->(mid s b).2.st=1):=by
 have k1:=SQ s.st b h.st.1 h.st.2 h0 h1
 have k2:=SQ (nxt s.st b) b k1.1 k1.2 h0 h1
 have k3:=Y7 s.st b h.st.1 h.st.2 h0 h1
 have k4:=Nl s.st b h.st.1 h.st.2 h0 h1
 have k5:=Nn s.st b h.st.1 h.st.2 h0 h1
 have k6:=Nn (nxt s.st b) b k1.1 k1.2 h0 h1
 unfold mid
 split
 ·rename_i e
  have k4:=k4 e
  refine⟨⟨k2,h.dec,Y6⟩,?_,k6.1,k6.2.1⟩
  rw [k4.1]
  exact k4.2
 ·rename_i e
  exact⟨⟨k1,h.dec,h.d⟩,k3.resolve_right e,k5.1,k5.2.1⟩
theorem lY {s:S} (h:s.ok):(clr s).ok:=by
 unfold clr
 split
 ·exact⟨h.st,h.dec,Y6⟩
 ·exact h
theorem Um {s:S} (h:s.ok) {b:Int} (h0:0<=b) (h1:b<256):(take s b).1.ok:=by
 have k:=SX (SV h b) h0 h1
 exact lY (lX k.1 h0 h1 k.2.2.1)
theorem Un {s:S} (h:s.ok) (l:List Int) (hl: ∀x∈l,0<=x/\x<256):(feed s l).1.ok:=by
 induction l generalizing s with
 | nil=>exact h
 | cons b l ih=>exact ih (Um h (hl b (by simp)).1 (hl b (by simp)).2) (fun x hx=>hl x (by simp [hx]))
theorem Np (s:S) (b:Int):(brk s b).1.d=s.d:=by unfold brk;split<;>rfl
theorem Nq (s:S) (b:Int):(mid s b).2.d.parts<=s.d.parts:=by
 unfold mid
 split
 ·simp [d0]
 ·simp
theorem V9 (s:S):(clr s).d.parts<=s.d.parts:=by
 unfold clr
 split
 ·simp [d0]
 ·simp
theorem SY (s:S) (b:Int):(take s b).1.d.parts<=s.d.parts+2:=by
 have k1:=V9 (doo (mid (brk s b).1 b).2 (mid (brk s b).1 b).1 b).1
 have k2:=V8 (mid (brk s b).1 b).2 (mid (brk s b).1 b).1 b
 have k3:=Nq (brk s b).1 b
 rw [Np] at k3
 show(clr _).d.parts<=_
 omega
theorem MI (s:S) (l:List Int):(feed s l).1.d.parts<=s.d.parts+2*l.length:=by
 induction l generalizing s with
 | nil=>simp [feed]
 | cons b l ih=>
  have h1:=SY s b
  have h2:=ih (take s b).1
  simp only [feed,List.length_cons]
  omega
theorem IX (s:S) (l m:List Int):feed s (l++m)=((feed (feed s l).1 m).1,(feed s l).2++(feed (feed s l).1 m).2):=by
 induction l generalizing s with
 | nil=>simp [feed]
 | cons b l ih=>simp [feed,ih]
theorem Y9 (s:S) (b:Int):feed s [b] =take s b:=by simp [feed]
theorem WE (s:S) (l:List Int) (b:Int):feed s (l++ [b])=((take (feed s l).1 b).1,(feed s l).2++(take (feed s l).1 b).2):=by
 rw [IX,Y9]
theorem gZ (s:S) (a b:Int):(doo s a b).2.length<=2:=by
 have:=U.RQ s.dec b
 exact Ov (P:=fun r=>r.2.length<=2) s a b (fun _=>by simp) (fun _=>by simp) (fun _=>by simpa using this) (fun _=>by simp) (fun _=>by simp) (fun _=>by simp) (fun _=>by simp) (fun _=>by simp) (fun _=>by simp) (fun _=>by simp) (fun _=>by simp) (by simp)
theorem Uo (s:S) (b:Int):(brk s b).2.length<=1:=by unfold brk;split<;>simp
theorem take_len (s:S) (b:Int):(take s b).2.length<=3:=by
 have h1:=Uo s b
 have h2:=gZ (mid (brk s b).1 b).2 (mid (brk s b).1 b).1 b
 simp only [take,List.length_append]
 omega
theorem MJ (s:S) (l:List Int):(feed s l).2.length<=3*l.length:=by
 induction l generalizing s with
 | nil=>simp [feed]
 | cons b l ih=>
  have h1:=take_len s b
  have h2:=ih (take s b).1
  simp only [feed,List.length_append,List.length_cons]
  omega
theorem ME (b:Int):place b<=24:=by
 have:=List.takeWhile_sublist (l:=lasts) (fun l=>decide (l<b))
 exact this.length_le
theorem Bt {b:Int} {k:Nat} (h0:0<=b) (h1:b<256) (hk:k<place b):Fw k<b:=by
 have h: ∀b:Fin 256, ∀k:Fin 24,k.val<place (b.val:Int)->Fw k.val<(b.val:Int):=by decide+kernel
 obtain⟨n,rfl⟩:=Int.eq_ofNat_of_zero_le h0
 have:=ME (n:Int)
 exact h ⟨n,by omega⟩ ⟨k,by omega⟩ hk
theorem ZA {b:Int} (h0:0<=b) (h1:b<256) (hk:place b<24):b<=Fw (place b):=by
 have h: ∀b:Fin 256,place (b.val:Int)<24->(b.val:Int)<=Fw (place (b.val:Int)):=by decide+kernel
 obtain⟨n,rfl⟩:=Int.eq_ofNat_of_zero_le h0
 exact h ⟨n,by omega⟩ hk
theorem ZB {b:Int} (hk:place b=24):cls b=15:=by unfold cls;rw [hk];rfl
end Go.Proofs.YtoaabebgmdbjeaaGreatDoor.PA
namespace Go.Proofs.YtoaabebgmdbjeaaGreatDoor.PA
end Go.Proofs.YtoaabebgmdbjeaaGreatDoor.PA
namespace Go.Proofs.YtoaabebgmdbjeaaGreatDoor.PA
theorem pW {d:U.St} (h:d.ok) (h0: ¬0<d.need):d=U.z:=by
 obtain⟨a,b,c⟩:=d
 unfold U.St.ok at h
 simp only [] at h h0
 obtain⟨rfl,rfl,rfl⟩:a=0/\b=0/\c=0:=by omega
 rfl
theorem pX {p:Int->Prop} [DecidablePred p] (h: ∀n:Fin 12,p ((n.val:Int)+1)) (st:Int) (h0:1<=st) (h1:st<=12):p st:=by
 obtain⟨m,hm⟩:=Int.eq_ofNat_of_zero_le (show 0<=st-1 by omega)
 obtain rfl:st=(m:Int)+1:=by omega
 exact h ⟨m,by omega⟩
theorem Sb {b:Int} (h0:32<=b) (h1:b<=126):take s0 b=(s0, [pr b]):=by
 have k:=U.Dl (p:=fun b=>32<=b/\b<=126->act 1 b=16/\nxt 1 b=1) (by decide+kernel) b (by omega) (by omega) ⟨h0,h1⟩
 have hb:brk s0 b=(s0, []):=by
  unfold brk
  rw [if_neg]
  intro e
  exact absurd e.2 (by decide)
 have hm:mid s0 b=(16,s0):=by
  unfold mid
  show(if act 1 b=192 then _ else ((act 1 b,(⟨nxt 1 b,s0.dec,s0.d⟩:S)):Int × S))=_
  rw [if_neg (by omega),k.1,k.2]
  rfl
 unfold take
 rw [hb,hm]
 rfl
end Go.Proofs.YtoaabebgmdbjeaaGreatDoor.PA
namespace Go.Proofs.YtoaabebgmdbjeaaGreatDoor.PA
theorem Bq {st b a n:Int} (d:D) (ha:act st b=a) (hn:nxt st b=n) (h:a≠192):take ⟨st,U.z,d⟩ b=(clr (doo ⟨n,U.z,d⟩ a b).1,(doo ⟨n,U.z,d⟩ a b).2):=by
 have hb:brk ⟨st,U.z,d⟩ b=(⟨st,U.z,d⟩, []):=by
  unfold brk
  rw [if_neg]
  intro e
  have hh: ¬0<U.z.need:=by decide
  exact hh e.2
 have hm:mid ⟨st,U.z,d⟩ b=(a,⟨n,U.z,d⟩):=by
  unfold mid
  show(if act st b=192 then _ else ((act st b,(⟨nxt st b,U.z,d⟩:S)):Int × S))=_
  rw [if_neg (by rw [ha];exact h),ha,hn]
 unfold take
 rw [hb,hm]
 rfl
def osc (t:List Int):S:=⟨9,U.z,⟨0,0,0, [],t⟩⟩
def oth:S:=⟨11,U.z,d0⟩
theorem ZC {b:Int} (t:List Int) (h0:32<=b) (h1:b<256) (ht:t.length<4096):take (osc t) b=(osc (t++ [b]), []):=by
 have k:=U.Dl (p:=fun b=>32<=b->act 9 b=128/\nxt 9 b=9) (by decide+kernel) b (by omega) h1 h0
 unfold osc
 rw [Bq _ k.1 k.2 (by omega)]
 have:doo ⟨9,U.z,⟨0,0,0, [],t⟩⟩ 128 b=(⟨9,U.z,⟨0,0,0, [],t++ [b]⟩⟩, []):=by
  show((if t.length=4096 then (⟨11,U.z,⟨0,0,0, [],t⟩⟩:S) else ⟨9,U.z,⟨0,0,0, [],t++ [b]⟩⟩),([] :List Ev))=_
  rw [if_neg (by omega)]
 rw [this]
 rfl
theorem ZE {b:Int} (h0:32<=b) (h1:b<256):take oth b=(oth, []):=by
 have k:=U.Dl (p:=fun b=>32<=b->act 11 b=0/\nxt 11 b=11) (by decide+kernel) b (by omega) h1 h0
 unfold oth
 rw [Bq _ k.1 k.2 (by omega)]
 rfl
theorem WG {b:Int} (t:List Int) (h0:32<=b) (h1:b<256) (ht:t.length=4096):take (osc t) b=(oth, []):=by
 have k:=U.Dl (p:=fun b=>32<=b->act 9 b=128/\nxt 9 b=9) (by decide+kernel) b (by omega) h1 h0
 unfold osc
 rw [Bq _ k.1 k.2 (by omega)]
 have:doo ⟨9,U.z,⟨0,0,0, [],t⟩⟩ 128 b=(⟨11,U.z,⟨0,0,0, [],t⟩⟩, []):=by
  show((if t.length=4096 then (⟨11,U.z,⟨0,0,0, [],t⟩⟩:S) else ⟨9,U.z,⟨0,0,0, [],t++ [b]⟩⟩),([] :List Ev))=_
  rw [if_pos ht]
 rw [this]
 rfl
def nine:List Int:=List.replicate 20 57
def many (k:Nat):List Int:=List.replicate (min k 16) 65535
end Go.Proofs.YtoaabebgmdbjeaaGreatDoor.PA
namespace Go.Proofs.YtoaabebgmdbjeaaGreatDoor.U
end Go.Proofs.YtoaabebgmdbjeaaGreatDoor.U
namespace Go.Proofs.YtoaabebgmdbjeaaGreatDoor.PA
def Sd (r:Int):Prop:=(32<=r/\r<=126)\/(128<=r/\r<=1114111/\(r<55296\/57343<r))
def Jt (i:Int):Prop:=i=0\/(32<=i/\i<=47)
def opens (f:Int):Prop:=f=91\/f=93\/f=80\/f=88\/f=94\/f=95
def Sg (p:Int):Prop:=p=0\/(60<=p/\p<=63)
instance (f:Int):Decidable (opens f):=by unfold opens;infer_instance
def Right (e:Ev):Prop:=
 (∃r,e=pr r/\Sd r)\/
 (∃b,e=⟨2,0,0,0,b, [], []⟩/\0<=b/\b<32/\b≠24/\b≠26/\b≠27)\/
 (∃i f,e=⟨3,0,0,i,f, [], []⟩/\Jt i/\48<=f/\f<=126/\(i=0-> ¬opens f))\/
 (∃p i f ps,e=⟨4,0,p,i,f,ps, []⟩/\Sg p/\Jt i/\64<=f/\f<=126/\ps.length<=16/\(∀x∈ps, -1<=x/\x<=65535)/\ps≠ [-1])\/
 (∃t,e=⟨5,0,0,0,0, [],t⟩/\t.length<=4096/\ ∀x∈t,32<=x/\x<256)
theorem Nr (d:U.St) {b:Int} (h0:128<=b) (h1:b<256):take ⟨1,d,d0⟩ b=(⟨1,(U.it d b).1,d0⟩,(U.it d b).2.map pr):=by
 have k:=U.Dl (p:=fun b=>128<=b->act 1 b=48/\nxt 1 b=1) (by decide+kernel) b (by omega) h1 h0
 have hb:brk ⟨1,d,d0⟩ b=(⟨1,d,d0⟩, []):=by
  unfold brk
  rw [if_neg (fun e=>by omega)]
 have hm:mid ⟨1,d,d0⟩ b=(48,⟨1,d,d0⟩):=by
  unfold mid
  show(if act 1 b=192 then _ else ((act 1 b,(⟨nxt 1 b,d,d0⟩:S)):Int × S))=_
  rw [if_neg (by omega),k.1,k.2]
 unfold take
 rw [hb,hm]
 rfl
theorem WJ (l:List Int) (h: ∀x∈l,128<=x/\x<256) (d:U.St):feed ⟨1,d,d0⟩ l=(⟨1,(U.dec d l).1,d0⟩,(U.dec d l).2.map pr):=by
 induction l generalizing d with
 | nil=>rfl
 | cons b l ih=>
  have hb:=h b (by simp)
  rw [feed,Nr d hb.1 hb.2,ih (fun x hx=>h x (by simp [hx]))]
  simp [U.dec]
end Go.Proofs.YtoaabebgmdbjeaaGreatDoor.PA
namespace Go.Proofs.YtoaabebgmdbjeaaGreatDoor.PA
instance (r:Int):Decidable (Sd r):=by unfold Sd;infer_instance
instance (i:Int):Decidable (Jt i):=by unfold Jt;infer_instance
instance (p:Int):Decidable (Sg p):=by unfold Sg;infer_instance
end Go.Proofs.YtoaabebgmdbjeaaGreatDoor.PA
namespace Go.Proofs.YtoaabebgmdbjeaaGreatDoor
open Go.RowKit
namespace U
theorem gu (b:Int) (h0:0<=b) (h1:b<256): ∀r∈(bg b).2,0<=r/\r<=1114111:=by
 intro r hr
 unfold bg at hr
 repeat' (split at hr)
 all_goals simp at hr
 all_goals omega
theorem gy (n a:Int):0<=wh n a/\wh n a<=1114111:=by
 unfold wh isR
 split
 ·rename_i h
  have:=h.1
  simp at this
  omega
 ·omega
theorem iA (s:St) (b:Int) (h0:0<=b) (h1:b<256): ∀r∈(it s b).2,0<=r/\r<=1114111:=by
 intro r hr
 have hb:=gu b h0 h1
 unfold it at hr
 split at hr
 ·exact hb r hr
 split at hr
 ·rcases List.mem_cons.1 hr with rfl | hr
  ·omega
  ·exact hb r hr
 split at hr
 ·simp at hr
 ·simp at hr
  subst hr
  exact gy _ _
end U
namespace PA
structure Fits (e:Ev):Prop where
 rune:e.kind=1->0<=e.rune/\e.rune<=1114111
 len:e.params.length<=16
 nums: ∀x∈e.params, -1<=x/\x<=65535
theorem Ow {r:Int} (h:0<=r/\r<=1114111):Fits (pr r):=⟨fun _=>h,by simp [pr],by simp [pr]⟩
theorem ZF {s:S} (h:s.ok) (a b:Int) (h0:0<=b) (h1:b<256): ∀e∈(doo s a b).2,Fits e:=by
 have hl:=h.d.len
 have hn:=h.d.nums
 have hi:=U.iA s.dec b h0 h1
 refine Ov (P:=fun r=> ∀e∈r.2,Fits e) s a b ?_ ?_ ?_ ?_ ?_ ?_ ?_ ?_ ?_ ?_ ?_ ?_
 ·intro _ e he;simp at he;subst he;exact Ow (by omega)
 ·intro _ e he;simp at he;subst he;exact⟨fun e=>(by cases e),by simp,by simp⟩
 ·intro _ e he
  obtain⟨r,hr,rfl⟩:=List.mem_map.1 he
  exact Ow (hi r hr)
 ·intro _ e he;simp at he
 ·intro _ e he;simp at he
 ·intro _ e he;simp at he
 ·intro _ e he;simp at he
 ·intro _ e he;simp at he
 ·intro _ e he;simp at he;subst he;exact⟨fun e=>(by cases e),by simp,by simp⟩
 ·intro _ e he;simp at he;subst he;exact⟨fun e=>(by cases e),(by simp only [];omega),hn⟩
 ·intro _ e he;simp at he;subst he;exact⟨fun e=>(by cases e),by simp,by simp⟩
 ·intro e he;simp at he
theorem WK {s:S} (h:s.ok) {b:Int} (h0:0<=b) (h1:b<256): ∀e∈(take s b).2,Fits e:=by
 have k:=SX (SV h b) h0 h1
 intro e he
 rcases List.mem_append.1 he with he | he
 ·unfold brk at he
  split at he
  ·simp at he;subst he;exact Ow (by omega)
  ·simp at he
 ·exact ZF k.1 _ _ h0 h1 e he
theorem Ns {s:S} (h:s.ok) (l:List Int) (hl: ∀x∈l,0<=x/\x<256): ∀e∈(feed s l).2,Fits e:=by
 induction l generalizing s with
 | nil=>intro e he;simp [feed] at he
 | cons b l ih=>
  intro e he
  have hb:=hl b (by simp)
  rcases List.mem_append.1 he with he | he
  ·exact WK h hb.1 hb.2 e he
  ·exact ih (Um h hb.1 hb.2) (fun x hx=>hl x (by simp [hx])) e he
end PA
namespace SN
def iB (s:Sc) (e:PA.Ev):Sc:=doS s e.kind e.rune e.priv e.inter e.final e.params
def CR (s:Sc) (es:List PA.Ev):Sc:=es.foldl iB s
theorem Nt (s:Sc) (a b:List PA.Ev):CR s (a++b)=CR (CR s a) b:=by unfold CR;rw [List.foldl_append]
theorem Si (s:Sc) (a:List PA.Ev) (e:PA.Ev):CR s (a++ [e])=iB (CR s a) e:=by rw [Nt];rfl
theorem Sj {s:Sc} (h:Ac s) (e:PA.Ev):Ac (iB s e):=V6 h _ _ _ _ _ _
theorem Ef {s:Sc} (h:Ac s) (es:List PA.Ev):Ac (CR s es):=by
 induction es generalizing s with
 | nil=>exact h
 | cons e es ih=>exact ih (Sj h e)
end SN
end Go.Proofs.YtoaabebgmdbjeaaGreatDoor
namespace Go.Proofs.YtoaabebgmdbjeaaGreatDoor
open Go.RowKit
def KN:Array Value:= #[.int .i32 9670,.int .u8 42,.int .i32 9618,.int .u8 35,.int .i32 9225,.int .u8 72,.int .i32 9228,.int .u8 70,.int .i32 9229,.int .u8 67,.int .i32 9226,.int .u8 76,.int .i32 176,.int .u8 111,.int .i32 177,.int .u8 43,.int .i32 9252,.int .u8 78,.int .i32 9227,.int .u8 86,.int .i32 9496,.int .u8 43,.int .i32 9488,.int .u8 43,.int .i32 9484,.int .u8 43,.int .i32 9492,.int .u8 43,.int .i32 9532,.int .u8 43,.int .i32 9146,.int .u8 45,.int .i32 9147,.int .u8 45,.int .i32 9472,.int .u8 45,.int .i32 9148,.int .u8 45,.int .i32 9149,.int .u8 95,.int .i32 9500,.int .u8 43,.int .i32 9508,.int .u8 43,.int .i32 9524,.int .u8 43,.int .i32 9516,.int .u8 43,.int .i32 9474,.int .u8 124,.int .i32 8804,.int .u8 60,.int .i32 8805,.int .u8 62,.int .i32 960,.int .u8 112,.int .i32 8800,.int .u8 33,.int .i32 163,.int .u8 76,.int .i32 183,.int .u8 46]
def GZ (w:World):Prop:= ∃t,w.heap[1]? =some (.cells KN t (0,0))
theorem GZ.lt {w:World} (h:GZ w):1<w.heap.size:=by
 obtain⟨t,h⟩:=h
 exact(Array.getElem?_eq_some_iff.1 h).1
theorem GZ.below {w w':World} {B:Nat} (h:GZ w) (hb:Below B w w') (hB:1<B):GZ w':=by
 obtain⟨t,h⟩:=h
 exact⟨t,(hb.block _ hB).trans h⟩
theorem GZ.keep {w w':World} (h:GZ w) (hb:Below w.heap.size w w'):GZ w':=h.below hb h.lt
theorem lZ:Tryz.prog.globalNamed "linguist/charset.signs" =some 1:=by kernel_rfl
theorem lq:(Tryz.prog.globals[1]?).map (·.type)=some 161:=by kernel_rfl
theorem Sk:tiled Tryz.prog 4 161=true:=by kernel_rfl
theorem WL:flat (H:=Unit) Rows.laid_linguist_charset_signs=some KN.toList:=by rfl
theorem Sl {w:World} {l:List (String × DataW Unit)} (h:laidMet Tryz.prog l w) (hm:("linguist/charset.signs",Rows.laid_linguist_charset_signs)∈l):GZ w:=by
 obtain⟨t,ht⟩:=Db 4 lZ lq Sk WL (by simp [KN]) h hm
 exact⟨t,by simpa using ht⟩
theorem QT {w:World} (h:GZ w) (k:Nat) (hk:k<31):w.cell? ⟨1,k*2,none⟩=some (.int .i32 (CH.LB k)):=by
 obtain⟨t,h⟩:=h
 rw [cell_of_row w _ (k*2) _ t (0,0) h]
 obtain rfl | rfl | rfl | rfl | rfl | rfl | rfl | rfl | rfl | rfl | rfl | rfl | rfl | rfl | rfl | rfl | rfl | rfl | rfl | rfl | rfl | rfl | rfl | rfl | rfl | rfl | rfl | rfl | rfl | rfl | rfl:k=0\/k=1\/k=2\/k=3\/k=4\/k=5\/k=6\/k=7\/k=8\/k=9\/k=10\/k=11\/k=12\/k=13\/k=14\/k=15\/k=16\/k=17\/k=18\/k=19\/k=20\/k=21\/k=22\/k=23\/k=24\/k=25\/k=26\/k=27\/k=28\/k=29\/k=30:=by omega
 all_goals rfl
theorem NH {k:Nat} (h:k<31):CH.draw (96+(k:Int))=CH.LB k:=by
 unfold CH.draw
 rw [if_neg (by omega),if_pos (by omega)]
 congr 1
 omega
theorem I6 {b:Int} (h:b<95\/126<b):CH.draw b=b:=by
 unfold CH.draw
 rw [if_neg (by omega),if_neg (by omega)]
theorem ZG (b:Int) (w:World) (h0:0<=b) (h1:b<256) (hs:GZ w):Calls Tryz.prog 108 #[.int .u8 b] w fun e w'=>e=.returned (.int .i32 (CH.draw b))/\Below w.heap.size w w':=by
 have cs:b=95\/(96<=b/\b<=126)\/b<95\/126<b:=by omega
 rcases cs with rfl | h | h | h
 ·go_enter Tryz.func108,Tryz.ntmps108
  go_wp2
  go_ret
  exact⟨rfl,Below.refl _ _⟩
 ·have hk:(b-96).toNat<31:=by omega
  have hc:=QT hs (b-96).toNat hk
  have e:=NH hk
  rw [show(96:Int)+((b-96).toNat:Int)=b from by omega] at e
  have E:=hide e
  clear hs e hk
  generalize CH.LB (b-96).toNat=x at hc E
  have hb:(b==95)=false:=by simp;omega
  go_enter Tryz.func108,Tryz.ntmps108
  go_wp2
  go_ret
  exact⟨CV E.out.symm,Below.refl _ _⟩
 ·have E:=hide (I6 (b:=b) (by omega))
  have hb:(b==95)=false:=by simp;omega
  go_enter Tryz.func108,Tryz.ntmps108
  go_wp2
  go_ret
  exact⟨CV E.out.symm,Below.refl _ _⟩
 ·have E:=hide (I6 (b:=b) (by omega))
  have hb:(b==95)=false:=by simp;omega
  have hb':96<=b:=by omega
  go_enter Tryz.func108,Tryz.ntmps108
  go_wp2
  go_ret
  exact⟨CV E.out.symm,Below.refl _ _⟩
end Go.Proofs.YtoaabebgmdbjeaaGreatDoor
namespace Go.Proofs.YtoaabebgmdbjeaaGreatDoor
open Go.RowKit
def MK (l:List Int) (i:Nat):Int:=((PS.pos (l.getD i 0):Nat):Int)
theorem ML {l:List Int} (h:l.length<2):PS.wide l=(none,l.length):=by
 rcases l with _ | ⟨a,_ | ⟨b,l⟩⟩
 ·rfl
 ·rfl
 ·simp only [List.length_cons] at h
  omega
theorem WM {l:List Int} {x:Int} (h:2<=l.length) (h5:l[0]? =some 5) (hx:MK l 1=x) (h2:255<x):PS.wide l=(none,2):=by
 rcases l with _ | ⟨a,_ | ⟨b,l⟩⟩
 ·simp at h
 ·simp at h
 ·have ha:a=5:=by simpa using h5
  have hb:(PS.pos b:Int)=x:=hx
  subst ha
  rcases l with _ | ⟨c,_ | ⟨d,l⟩⟩
  ·show(if (5:Int)=5/\PS.pos b<=255 then some ((PS.pos b:Nat):Int) else none,2)=_
   rw [if_neg (by omega)]
  ·show(if (5:Int)=5 then (if PS.pos b<=255 then some ((PS.pos b:Nat):Int) else none,2) else (none,3))=_
   rw [if_pos rfl,if_neg (by omega)]
  ·rw [PS.Im,if_pos rfl,if_neg (by omega)]
theorem QU {l:List Int} {x:Int} (h:2<=l.length) (h5:l[0]? =some 5) (hx:MK l 1=x) (h2:x<=255):PS.wide l=(some x,2):=by
 rcases l with _ | ⟨a,_ | ⟨b,l⟩⟩
 ·simp at h
 ·simp at h
 ·have ha:a=5:=by simpa using h5
  have hb:(PS.pos b:Int)=x:=hx
  subst ha
  rw [PS.Vv b (by omega),hb]
theorem Sm {l:List Int} {x:Int} (h:2<=l.length) (h0:l[0]? =some x) (h5:x≠5) (h2:l.length<4\/x≠2):PS.wide l=(none,l.length):=by
 rcases l with _ | ⟨a,_ | ⟨b,_ | ⟨c,_ | ⟨d,l⟩⟩⟩⟩
 ·simp at h
 ·simp at h
 ·have ha:a=x:=by simpa using h0
  show(if a=5/\PS.pos b<=255 then some ((PS.pos b:Nat):Int) else none,2)=_
  rw [if_neg (by omega)]
  rfl
 ·have ha:a=x:=by simpa using h0
  show(if a=5 then (if PS.pos b<=255 then some ((PS.pos b:Nat):Int) else none,2) else (none,3))=_
  rw [if_neg (by omega)]
  rfl
 ·have ha:a=x:=by simpa using h0
  have:a≠2:=by
   rcases h2 with h2 | h2
   ·simp only [List.length_cons] at h2
    omega
   ·omega
  rw [PS.Im,if_neg (by omega),if_neg this]
  rfl
theorem ZH {l:List Int} {r g b:Int} (h:4<=l.length) (h0:l[0]? =some 2) (hr:MK l 1=r) (hg:MK l 2=g) (hb:MK l 3=b):PS.wide l=(if r<=255/\g<=255/\b<=255 then some (16777216+r*65536+g*256+b) else none,4):=by
 rcases l with _ | ⟨a,_ | ⟨x,_ | ⟨y,_ | ⟨z,l⟩⟩⟩⟩
 ·simp at h
 ·simp at h
 ·simp at h
 ·simp at h
 ·have ha:a=2:=by simpa using h0
  have e1:(PS.pos x:Int)=r:=hr
  have e2:(PS.pos y:Int)=g:=hg
  have e3:(PS.pos z:Int)=b:=hb
  subst ha
  rw [PS.Im,if_neg (by decide),if_pos rfl,e1,e2,e3]
  by_cases hc:r<=255/\g<=255/\b<=255
  ·rw [if_pos hc,if_pos (by omega)]
  ·rw [if_neg hc,if_neg (by omega)]
end Go.Proofs.YtoaabebgmdbjeaaGreatDoor
namespace Go.Proofs.YtoaabebgmdbjeaaGreatDoor
open Go.RowKit
theorem pY {v u:Value} (h:v=u):Ending.returned v=.returned u:=by rw [h]
theorem ZI (f b g:Int) (A:Option Addr) (n c:Nat) (l:List Int) (w:World) (hA:Seen w w.heap.size A n (l.map (Value.int .i64))) (hn:n<=1099511627776):
  Calls Tryz.prog 227 #[.agg #[.int .i64 f,.int .i64 b,.int .i64 g],.slice A n c] w fun e w'=>e=.returned (.agg #[.int .i64 f,.int .i64 b,.int .i64 (C.ors g l)])/\Below w.heap.size w w':=by
 have hlen:l.length=n:=by simpa using hA.1
 have HA:=hide hA
 have HL:=hide hlen
 clear hA hlen
 go_enter Tryz.func227,Tryz.ntmps227
 go_wp2
 go_loopw [9] (fun i wr=> ∃k:Nat,k<=n/\i=.int .i64 k/\Box wr w.heap.size 38 #[.int .i64 f,.int .i64 b,.int .i64 (C.ors g (l.take k))] /\Box wr (w.heap.size+1) 38 #[.int .i64 0,.int .i64 0,.int .i64 0] /\Below w.heap.size w wr)
  (fun i _=>n-(intOf i).toNat)
 case atStart=>exact⟨0,Nat.zero_le _,rfl,(Box.new w _ _).alloc _,by have h:=Box.new (w.alloc (.cells #[.int .i64 f,.int .i64 b,.int .i64 g] 38)) 38 #[.int .i64 0,.int .i64 0,.int .i64 0];rw [World.size_alloc] at h;exact h,((Below.refl _ _).alloc (Nat.le_refl _) _).alloc (by simp) _⟩
 case round=>
  obtain⟨k,hk,rfl,hb,hr,hbel⟩:=hrel
  by_cases hlt:k<n
  ·obtain⟨ad,u,rfl,_,hu,hc⟩:=(HA.out.below hbel).at_ hlt
   rw [List.getElem?_map] at hu
   obtain⟨x,hx,rfl⟩:=Option.map_eq_some_iff.1 hu
   have ho:=C.Xz g (l.take k) x
   rw [show l.take k++ [x] =l.take (k+1) from by rw [List.take_add_one,hx];rfl] at ho
   have HO:=hide ho
   clear hu hx ho
   generalize C.ors g (l.take k)=z at hb HO
   obtain⟨k0,k1,k2,k3,k4,k5⟩:=hb.three
   go_wp2
   go_roundw
   case rel=>
    refine⟨k+1,by omega,by go_num,?_,Box.far hr (by simp) _,hbel.setCell (Nat.le_refl _) _⟩
    rw [HO.out]
    exact hb.set 2 _
   case measure=>simp [intOf];omega
  ·obtain rfl:k=n:=by omega
   rw [List.take_of_length_le (by rw [HL.out];omega)] at hb
   generalize hz:C.ors g l=z at hb
   have HZ:=hide hz
   clear hz
   obtain⟨k0,k1,k2,k3,k4,k5⟩:=hb.three
   obtain⟨j0,j1,j2,j3,j4,j5⟩:=hr.three
   go_wp2
   refine bodyPost_ret (v:=.agg #[.int .i64 f,.int .i64 b,.int .i64 z]) (by simp [results,Tryz.results227,go_sem,j0,j1,j2]) rfl ⟨pY (by rw [HZ.out]),?_⟩
   repeat(first | exact hbel | refine Below.setCell ?_ (by first | omega | (simp;done) | (simp;omega)) _)
end Go.Proofs.YtoaabebgmdbjeaaGreatDoor
namespace Go.Proofs.YtoaabebgmdbjeaaGreatDoor
open Go.RowKit
def KO:Array Value:= #[.int .i64 0,.int .i64 1,.int .i64 2,.int .i64 4,.int .i64 8,.int .i64 16,.int .i64 0,.int .i64 32,.int .i64 64,.int .i64 128]
def Df (w:World):Prop:= ∃t,w.heap[6]? =some (.cells KO t (0,0))
theorem Df.lt {w:World} (h:Df w):6<w.heap.size:=by
 obtain⟨t,h⟩:=h
 exact(Array.getElem?_eq_some_iff.1 h).1
theorem Df.keep {w w':World} (h:Df w) (hb:Below w.heap.size w w'):Df w':=by
 have hl:=h.lt
 obtain⟨t,h⟩:=h
 exact⟨t,(hb.block _ hl).trans h⟩
theorem Df.kept {w w':World} {B:Nat} (h:Df w) (hb:Below B w w') (hB:6<B):Df w':=by
 obtain⟨t,h⟩:=h
 exact⟨t,(hb.block _ hB).trans h⟩
theorem Df.alloc {w:World} (h:Df w) (o:Obj):Df (w.alloc o):=h.keep ((Below.refl _ _).alloc (Nat.le_refl _) o)
theorem lu:Tryz.prog.globalNamed "linguist/pen.flags" =some 6:=by kernel_rfl
theorem l5:(Tryz.prog.globals[6]?).map (·.type)=some 218:=by kernel_rfl
theorem Sn:tiled Tryz.prog 4 218=true:=by kernel_rfl
theorem WO:flat (H:=Unit) Rows.laid_linguist_pen_flags=some KO.toList:=by rfl
theorem Sr {w:World} {l:List (String × DataW Unit)} (h:laidMet Tryz.prog l w) (hm:("linguist/pen.flags",Rows.laid_linguist_pen_flags)∈l):Df w:=by
 obtain⟨t,ht⟩:=Db 4 lu l5 Sn WO (by simp [KO]) h hm
 exact⟨t,by simpa using ht⟩
theorem QV {w:World} (h:Df w) (k:Nat) (hk:k<10):w.cell? ⟨6,k,none⟩=some (.int .i64 (PS.Gh k:Nat)):=by
 obtain⟨t,h⟩:=h
 rw [cell_of_row w _ k _ t (0,0) h]
 obtain rfl | rfl | rfl | rfl | rfl | rfl | rfl | rfl | rfl | rfl:k=0\/k=1\/k=2\/k=3\/k=4\/k=5\/k=6\/k=7\/k=8\/k=9:=by omega
 all_goals rfl
theorem Da (x:Int) (n:Nat) (hn:PS.pos x=n) (h0: -1<=x) (w:World):Calls Tryz.prog 216 #[.int .i64 x] w fun e w'=>e=.returned (.int .i64 (n:Nat))/\w=w':=by
 unfold PS.pos at hn
 by_cases h:x= -1
 ·subst h
  obtain rfl:n=0:=by omega
  clear hn
  go_enter Tryz.func216,Tryz.ntmps216
  go_wp2
  go_ret
  exact⟨rfl,rfl⟩
 ·have q:(x== -1)=false:=by simp;omega
  obtain rfl:x=(n:Int):=by omega
  clear hn h h0
  go_enter Tryz.func216,Tryz.ntmps216
  go_wp2
  go_ret
  exact⟨rfl,rfl⟩
theorem Dj (n:Nat) (b:Bool) (hb:decide (n<=255)=b) (hn:n<=9223372036854775807) (w:World):Calls Tryz.prog 226 #[.int .i64 (n:Nat)] w fun e w'=>e=.returned (.bool b)/\w=w':=by
 have e1:IntKind.u8.wrap (n:Int)=((n%256:Nat):Int):=by rw [IntKind.wrap_u8];omega
 have e2:IntKind.i64.wrap ((n%256:Nat):Int)=((n%256:Nat):Int):=IntWalk.i64_in _ (by omega)
 have e3:(((n%256:Nat):Int)==(n:Int))=b:=by
  rw [<- hb,Bool.eq_iff_iff]
  simp
  omega
 have E1:=hide e1
 have E2:=hide e2
 have E3:=hide e3
 clear e1 e2 e3 hb
 go_enter Tryz.func226,Tryz.ntmps226
 go_wp2_with (simp only [E1.out,E2.out])
 go_ret
 exact⟨LP (by first | exact E3.out | (rw [E1.out];exact E3.out) | (rw [E1.out,E2.out];exact E3.out)),rfl⟩
def Sw (c:Int) (n s:Nat):Int:=if s<=n/\n<s+8 then (n:Int)-s else if n=s+9 then-1 else if s+60<=n/\n<s+68 then (n:Int)-s-52 else c
theorem MN (c:Int) (n s:Nat) (hs:s=30\/s=40) (hn:n<=9223372036854775807) (z:Int) (hz:Sw c n s=z) (w:World):Calls Tryz.prog 229 #[.int .i64 c,.int .i64 (n:Nat),.int .i64 (s:Nat)] w fun e w'=>e=.returned (.int .i64 z)/\w=w':=by
 subst hz
 unfold Sw
 have cs:n<s\/(s<=n/\n<s+8)\/n=s+8\/n=s+9\/(s+10<=n/\n<s+60)\/(s+60<=n/\n<s+68)\/s+68<=n:=by omega
 rcases cs with h | h | h | h | h | h | h
 ·rw [if_neg (by omega),if_neg (by omega),if_neg (by omega)]
  have q:((n:Int)==(s:Int)+9)=false:=by simp;omega
  rcases hs with rfl | rfl
  all_goals
   go_enter Tryz.func229,Tryz.ntmps229
   go_wp2
   go_ret
   exact⟨rfl,rfl⟩
 ·rw [if_pos (by omega)]
  rcases hs with rfl | rfl
  all_goals
   go_enter Tryz.func229,Tryz.ntmps229
   go_wp2
   go_ret
   exact⟨CV (by omega),rfl⟩
 ·rw [if_neg (by omega),if_neg (by omega),if_neg (by omega)]
  subst h
  rcases hs with rfl | rfl
  all_goals
   go_enter Tryz.func229,Tryz.ntmps229
   go_wp2
   go_ret
   exact⟨rfl,rfl⟩
 ·rw [if_neg (by omega),if_pos (by omega)]
  subst h
  rcases hs with rfl | rfl
  all_goals
   go_enter Tryz.func229,Tryz.ntmps229
   go_wp2
   go_ret
   exact⟨rfl,rfl⟩
 ·rw [if_neg (by omega),if_neg (by omega),if_neg (by omega)]
  have q:((n:Int)==(s:Int)+9)=false:=by simp;omega
  rcases hs with rfl | rfl
  all_goals
   go_enter Tryz.func229,Tryz.ntmps229
   go_wp2
   go_ret
   exact⟨rfl,rfl⟩
 ·rw [if_neg (by omega),if_neg (by omega),if_pos (by omega)]
  have q:((n:Int)==(s:Int)+9)=false:=by simp;omega
  rcases hs with rfl | rfl
  all_goals
   go_enter Tryz.func229,Tryz.ntmps229
   go_wp2
   go_ret
   exact⟨CV (by omega),rfl⟩
 ·rw [if_neg (by omega),if_neg (by omega),if_neg (by omega)]
  have q:((n:Int)==(s:Int)+9)=false:=by simp;omega
  rcases hs with rfl | rfl
  all_goals
   go_enter Tryz.func229,Tryz.ntmps229
   go_wp2
   go_ret
   exact⟨rfl,rfl⟩
def tak (n:Nat):Nat:=if n=22 then 3 else PS.Gh (n-20)
theorem l6 (n:Nat):tak n<256:=by
 unfold tak
 split
 ·omega
 ·exact PS.Oo _
theorem Sy (n z:Nat) (hz:tak n=z) (h0:22<=n) (h1:n<=29) (w:World) (hF:Df w):Calls Tryz.prog 228 #[.int .i64 (n:Nat)] w fun e w'=>e=.returned (.int .i64 (z:Nat))/\w=w':=by
 subst hz
 unfold tak
 by_cases h:n=22
 ·subst h
  rw [if_pos rfl]
  go_enter Tryz.func228,Tryz.ntmps228
  go_wp2
  go_ret
  exact⟨rfl,rfl⟩
 ·rw [if_neg h]
  obtain⟨k,rfl⟩: ∃k,n=k+20:=⟨n-20,by omega⟩
  rw [show k+20-20=k by omega]
  have hc:=QV hF k (by omega)
  have q:(((k+20:Nat):Int)==22)=false:=by simp;omega
  have e:((k+20:Nat):Int)-20=(k:Int):=by omega
  generalize PS.Gh k=f at hc
  go_enter Tryz.func228,Tryz.ntmps228
  go_wp2_with (simp only [e])
  go_ret
  exact⟨rfl,rfl⟩
end Go.Proofs.YtoaabebgmdbjeaaGreatDoor
