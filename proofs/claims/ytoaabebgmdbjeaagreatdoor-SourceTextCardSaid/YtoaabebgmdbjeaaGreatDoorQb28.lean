/- Plain letters printed one behind the other: what the screen is behind so many of them, with wrap and without. -/
import Derived.Test.YtoaabebgmdbjeaaGreatDoorQb10
set_option maxRecDepth 100000
set_option maxHeartbeats 16000000
set_option linter.unusedVariables false
namespace Go.Proofs.YtoaabebgmdbjeaaGreatDoor
open Go.RowKit
namespace PG
theorem Uk {g:Gr} {r c:Nat} {x:Int} {p:Pn} (hr:r<g.rows) (hc:c<g.AB) (hx:C.width x=1) (h1: ∀i j,kd (g.f i j)=0) (i j:Nat):(Du g r c x p).f i j=if i=r/\j=c then (x,0,p) else g.f i j:=by
 have e:Du g r c x p=⟨g.rows,g.AB,fun i j=>if i=r then putRow (g.f r) c x p 1 j else g.f i j⟩:=by
  unfold Du
  rw [hx]
  exact if_pos ⟨hr,by omega,by simp;omega⟩
 rw [e]
 show(if i=r then putRow (g.f r) c x p 1 j else g.f i j)=_
 by_cases hi:i=r
 ·subst hi
  rw [if_pos rfl]
  unfold putRow
  by_cases hj:j=c
  ·rw [if_pos hj,if_neg (show¬(1=2) by omega),if_pos ⟨rfl,hj⟩]
  ·rw [if_neg hj,if_neg (by omega),if_neg (fun h=>by have:=h.2;rw [h1] at this;omega),if_neg (fun h=>by have:=h.2;rw [h1] at this;omega),if_neg (fun h=>hj h.2)]
 ·rw [if_neg hi,if_neg (fun h=>hi h.1)]
end PG
namespace SN
def letter (i:Nat):Int:=97+((i%26:Nat):Int)
theorem Jb (i:Nat):97<=letter i/\letter i<=122:=by
 unfold letter
 omega
theorem Ko (i:Nat):C.width (letter i)=1:=PG.LY (by have:=Jb i;omega) (by have:=Jb i;omega)
def Dt (s:Sc):Nat->Sc
 | 0=>s
 | k+1=>FZ (Dt s k) (letter k)
structure Ee (h w:Nat) (b:Bool) (s:Sc):Prop where
 right:Ad s
 rows:s.g.rows=h
 AB:s.g.AB=w
 top:s.top=0
 bot:s.bot=h-1
 set:TU s=66
 wrap:s.wrap=b
 one: ∀i j,PG.kd (s.g.f i j)=0
theorem Ee.start {h w:Nat} (b:Bool) (h1:1<=h) (h2:h<=40) (h3:1<=w) (h4:w<=60):Ee h w b ((full h w).u15 b):=by
 have r:=IC h1 h2 h3 h4
 exact⟨⟨r.g,r.row,r.col,r.bot,r.top,r.pen,r.tabs,r.set,(fun e=>nomatch e),r.sv⟩,rfl,rfl,rfl,rfl,rfl,rfl,fun _ _=>rfl⟩
theorem Lm {h w:Nat} {b:Bool} {s:Sc} (P:Ee h w b s) (i:Nat):FZ s (letter i)=DJ (Hq s 1) (letter i) 1:=by
 have hx:FY s (letter i)=letter i:=by
  unfold FY
  rw [if_neg (fun hh=>by have:=hh.1;rw [P.set] at this;omega)]
 have hw:=P.right.g.2.2.1
 unfold FZ
 rw [hx,Ko,if_neg (by omega)]
 rfl
theorem J7 {h w:Nat} {b:Bool} {s:Sc} (P:Ee h w b s) (i:Nat):
  Ee h w b (DJ s (letter i) 1)/\(DJ s (letter i) 1).row=s.row/\(s.col+1=w->(DJ s (letter i) 1).col=w-1/\(DJ s (letter i) 1).pend=b)/\(s.col+1<w->(DJ s (letter i) 1).col=s.col+1/\(DJ s (letter i) 1).pend=false)/\
   ∀a c,PG.rn ((DJ s (letter i) 1).g.f a c)=if a=s.row/\c=s.col then letter i else PG.rn (s.g.f a c):=by
 have hr:=NN P.right (letter i) 1
 have hrow:=P.right.row
 have Bz:=P.right.col
 have e:Dv s 1=s.col:=by
  unfold Dv
  omega
 have hz:=Cb s.g s.row s.col (letter i) s.pen
 have hf:=fun a c=>PG.Uk (p:=s.pen) hrow Bz (Ko i) P.one a c
 have hk: ∀a c,PG.kd ((PG.Du s.g s.row s.col (letter i) s.pen).f a c)=0:=fun a c=>by
  rw [hf]
  split
  ·rfl
  ·exact P.one a c
 have hn: ∀a c,PG.rn ((PG.Du s.g s.row s.col (letter i) s.pen).f a c)=if a=s.row/\c=s.col then letter i else PG.rn (s.g.f a c):=fun a c=>by
  rw [hf]
  split<;>rfl
 have hc:=P.AB
 unfold DJ at hr⊢
 rw [e] at hr⊢
 by_cases h1:s.g.AB<=s.col+1
 ·rw [if_pos h1] at hr⊢
  exact⟨⟨hr,hz.1.trans P.rows,hz.2.trans P.AB,P.top,P.bot,P.set,P.wrap,hk⟩,rfl,fun _=>⟨by rw [<- hc];rfl,P.wrap⟩,fun h=>by omega,hn⟩
 ·rw [if_neg h1] at hr⊢
  exact⟨⟨hr,hz.1.trans P.rows,hz.2.trans P.AB,P.top,P.bot,P.set,P.wrap,hk⟩,rfl,fun h=>by omega,fun _=>⟨rfl,rfl⟩,hn⟩
theorem Ul {h w:Nat} {b:Bool} {s:Sc} (P:Ee h w b s):
  Ee h w b (Ci (s.u4 0))/\(Ci (s.u4 0)).col=0/\(s.row=h-1->(Ci (s.u4 0)).row=h-1/\ ∀a c,a<h->PG.rn ((Ci (s.u4 0)).g.f a c)=if a+1<h then PG.rn (s.g.f (a+1) c) else 32)/\
   (s.row<h-1->(Ci (s.u4 0)).row=s.row+1/\ ∀a c,PG.rn ((Ci (s.u4 0)).g.f a c)=PG.rn (s.g.f a c)):=by
 have hr:=JB P.right
 have hz:=Oo (s.u4 0)
 have hrow:=P.right.row
 have hR:=P.rows
 have hR1:=P.right.g.1
 have hK1:=P.right.g.2.2.1
 have hbt:=P.bot
 by_cases h1:s.row=h-1
 ·have e:Ci (s.u4 0)=((s.u4 0).uG (PG.Aq s.g s.top s.bot 1 (BJ s))).u5 false:=if_pos (show(s.u4 0).row=(s.u4 0).bot by show s.row=s.bot;omega)
  rw [e] at hr hz⊢
  have hb:s.bot=s.g.rows-1:=by omega
  have hf: ∀a c,a<h->(PG.Aq s.g s.top s.bot 1 (BJ s)).f a c=if a+1<h then s.g.f (a+1) c else PG.blank (BJ s):=fun a c ha=>by
   rw [P.top,hb,PG.ZO hR1 (by omega)]
   by_cases h2:a+1<h
   ·rw [if_pos (by omega),if_pos h2]
    congr 1
   ·rw [if_neg (by omega),if_neg h2]
  have hk: ∀a c,PG.kd ((PG.Aq s.g s.top s.bot 1 (BJ s)).f a c)=0:=fun a c=>by
   unfold PG.Aq
   split
   ·show PG.kd (if _ then (if _ then _ else _) else _)=0
    split
    ·split
     ·exact P.one _ _
     ·rfl
    ·exact P.one _ _
   ·exact P.one a c
  refine⟨⟨hr,hz.1.trans P.rows,hz.2.trans P.AB,P.top,P.bot,P.set,P.wrap,hk⟩,rfl,fun _=>⟨h1,fun a c ha=>?_⟩,fun h=>by omega⟩
  show PG.rn ((PG.Aq s.g s.top s.bot 1 (BJ s)).f a c)=_
  rw [hf a c ha]
  split<;>rfl
 ·have e:Ci (s.u4 0)=atS (s.u4 0) ((s.row:Int)+1) (0:Nat):=if_neg (show¬(s.u4 0).row=(s.u4 0).bot by show¬s.row=s.bot;omega)
  rw [e] at hr hz⊢
  refine⟨⟨hr,P.rows,P.AB,P.top,P.bot,P.set,P.wrap,P.one⟩,KX (r:=0) hK1,fun h=>absurd h h1,fun h=>⟨?_,fun a c=>rfl⟩⟩
  show pin ((s.row:Int)+1) s.g.rows=s.row+1
  exact KX (r:=s.row+1) (by omega)
structure PW (h w k:Nat) (s:Sc):Prop where
 p:Ee h w true s
 none_:k=0->s.row=0/\s.col=0/\s.pend=false/\ ∀i j,PG.rn (s.g.f i j)=32
 some_: ∀q t,t<w->k=q*w+t+1->s.row=min q (h-1)/\(t+1=w->s.col=w-1/\s.pend=true)/\(t+1<w->s.col=t+1/\s.pend=false)/\
  ∀i j,i<h->j<w->PG.rn (s.g.f i j)=if (q-(h-1))+i<q\/((q-(h-1))+i=q/\j<=t) then letter (((q-(h-1))+i)*w+j) else 32
theorem PW.next {h w k:Nat} {s:Sc} (hh:1<=h) (hw:1<=w) (T:PW h w k s):PW h w (k+1) (FZ s (letter k)):=by
 rw [Lm T.p]
 have P:=T.p
 have Bz:=P.right.col
 have hcc:=P.AB
 by_cases hp:s.pend=true
 ·-- it wraps
  have hk0:k≠0:=fun h=>by
   have:=(T.none_ h).2.2.1
   rw [hp] at this
   cases this
  have e:Hq s 1=Ci (s.u4 0):=if_pos ⟨P.wrap,.inl hp⟩
  rw [e]
  obtain⟨F,f1,f2,f3⟩:=Ul P
  obtain⟨G,g1,g2,g3,g4⟩:=J7 F k
  generalize DJ (Ci (s.u4 0)) (letter k) 1=u at G g1 g2 g3 g4⊢
  refine⟨G,fun h=>by omega,fun q t ht hq=>?_⟩
  rw [f1] at g2 g3 g4
  have hq':k=q*w+t:=by omega
  have ht0:t=0:=by
   by_cases h0:t=0
   ·exact h0
   ·have:=(T.some_ q (t-1) (by omega) (by omega)).2.2.1 (by omega)
    rw [hp] at this
    cases this.2
  subst ht0
  obtain⟨q0,rfl⟩: ∃q0,q=q0+1:=⟨q-1,by
   have:q≠0:=fun h=>by subst h;simp at hq';exact hk0 hq'
   omega⟩
  have hk:k=q0*w+(w-1)+1:=by rw [hq',Nat.add_mul];omega
  obtain⟨s1,s2,s3,s4⟩:=T.some_ q0 (w-1) (by omega) hk
  have hsub: ∀i j,i<h->j<w->PG.rn (s.g.f i j)=if (q0-(h-1))+i<=q0 then letter (((q0-(h-1))+i)*w+j) else 32:=fun i j hi hj=>by
   rw [s4 i j hi hj]
   by_cases c:(q0-(h-1))+i<=q0
   ·rw [if_pos (by omega),if_pos c]
   ·rw [if_neg (by omega),if_neg c]
  by_cases hs:q0<h-1
  ·obtain⟨r1,r2⟩:=f3 (by omega)
   rw [r1] at g1 g4
   refine⟨by omega,fun h=>g2 (by omega),fun h=>g3 (by omega),fun i j hi hj=>?_⟩
   rw [g4]
   have z0:q0-(h-1)=0:=by omega
   have z1:q0+1-(h-1)=0:=by omega
   rw [z1]
   by_cases c:i=s.row+1/\j=0
   ·have hi1:i=q0+1:=by omega
    rw [if_pos c,if_pos (by omega),hk,hi1,c.2]
    congr 1
    rw [Nat.zero_add,Nat.add_mul]
    omega
   ·rw [if_neg c,r2,hsub i j hi hj,z0]
    by_cases d:i<=q0
    ·rw [if_pos (by omega),if_pos (by omega)]
    ·rw [if_neg (by omega),if_neg (by omega)]
  ·obtain⟨r1,r2⟩:=f2 (by omega)
   rw [r1] at g1 g4
   refine⟨by omega,fun h=>g2 (by omega),fun h=>g3 (by omega),fun i j hi hj=>?_⟩
   rw [g4]
   have z1:q0+1-(h-1)=q0-(h-1)+1:=by omega
   rw [z1]
   by_cases c:i=h-1/\j=0
   ·rw [if_pos c,if_pos (by omega),hk,c.1,c.2]
    congr 1
    rw [show q0-(h-1)+1+(h-1)=q0+1 by omega,Nat.add_mul]
    omega
   ·rw [if_neg c,r2 i j hi]
    by_cases d:i+1<h
    ·rw [if_pos d,hsub (i+1) j d hj,if_pos (by omega),if_pos (by omega),show q0-(h-1)+(i+1)=q0-(h-1)+1+i by omega]
    ·rw [if_neg d,if_neg (by omega)]
 ·-- it stays in its row
  have hpf:s.pend=false:=by simpa using hp
  have e:Hq s 1=s:=if_neg (fun h=>by rcases h.2 with h | h;exact hp h;omega)
  rw [e]
  obtain⟨G,g1,g2,g3,g4⟩:=J7 P k
  generalize DJ s (letter k) 1=u at G g1 g2 g3 g4⊢
  refine⟨G,fun h=>by omega,fun q t ht hq=>?_⟩
  have hq':k=q*w+t:=by omega
  by_cases h0:k=0
  ·obtain⟨n1,n2,n3,n4⟩:=T.none_ h0
   have hq0:q=0:=by
    rcases Nat.eq_zero_or_pos q with h | h
    ·exact h
    ·have:=Nat.mul_le_mul h hw
     omega
   subst hq0
   have ht0:t=0:=by omega
   subst ht0
   rw [n1] at g1 g4
   rw [n2] at g2 g3 g4
   refine⟨by omega,fun h=>g2 (by omega),fun h=>g3 (by omega),fun i j hi hj=>?_⟩
   rw [g4]
   have z1:0-(h-1)=0:=by omega
   rw [z1]
   by_cases c:i=0/\j=0
   ·rw [if_pos c,if_pos (by omega),h0,c.1,c.2]
    simp
   ·rw [if_neg c,n4,if_neg (by omega)]
  ·have ht1:t≠0:=fun h=>by
    subst h
    have hq1:q≠0:=fun h=>by subst h;simp at hq';exact h0 hq'
    obtain⟨q0,rfl⟩: ∃q0,q=q0+1:=⟨q-1,by omega⟩
    have:=(T.some_ q0 (w-1) (by omega) (by rw [hq',Nat.add_mul];omega)).2.1 (by omega)
    rw [hpf] at this
    cases this.2
   obtain⟨s1,s2,s3,s4⟩:=T.some_ q (t-1) (by omega) (by omega)
   obtain⟨c1,c2⟩:=s3 (by omega)
   rw [s1] at g1 g4
   rw [c1] at g2 g3 g4
   refine⟨g1,fun h=>g2 (by omega),fun h=>by have:=g3 (by omega);exact⟨by omega,this.2⟩,fun i j hi hj=>?_⟩
   rw [g4]
   by_cases c:i=min q (h-1)/\j=t-1+1
   ·rw [if_pos c,if_pos (by omega),hq',show q-(h-1)+i=q by omega,show j=t by omega]
   ·rw [if_neg c,s4 i j hi hj]
    by_cases d:q-(h-1)+i<q\/(q-(h-1)+i=q/\j<=t)
    ·rw [if_pos d,if_pos (by omega)]
    ·rw [if_neg d,if_neg (by omega)]
theorem SB {h w:Nat} (h1:1<=h) (h2:h<=40) (h3:1<=w) (h4:w<=60): ∀k,PW h w k (Dt ((full h w).u15 true) k)
 | 0=>⟨Ee.start true h1 h2 h3 h4,fun _=>⟨rfl,rfl,rfl,fun _ _=>rfl⟩,fun q t ht hq=>by omega⟩
 | k+1=>(SB h1 h2 h3 h4 k).next h1 h3
structure SE (h w k:Nat) (s:Sc):Prop where
 p:Ee h w false s
 row:s.row=0
 col:s.col=min k (w-1)
 pend:s.pend=false
 last:0<k->PG.rn (s.g.f 0 (min k w-1))=letter (k-1)
theorem SE.next {h w k:Nat} {s:Sc} (hh:1<=h) (hw:1<=w) (T:SE h w k s):SE h w (k+1) (FZ s (letter k)):=by
 rw [Lm T.p]
 have P:=T.p
 have e:Hq s 1=s:=if_neg (fun h=>by have:=h.1;rw [P.wrap] at this;cases this)
 rw [e]
 obtain⟨G,g1,g2,g3,g4⟩:=J7 P k
 have hc:=T.col
 have Bz:=P.right.col
 have hcc:=P.AB
 generalize DJ s (letter k) 1=u at G g1 g2 g3 g4⊢
 by_cases h1:s.col+1=w
 ·obtain⟨a1,a2⟩:=g2 h1
  refine⟨G,g1.trans T.row,by omega,a2,fun _=>?_⟩
  rw [g4,T.row,if_pos ⟨rfl,by omega⟩]
  rfl
 ·obtain⟨a1,a2⟩:=g3 (by omega)
  refine⟨G,g1.trans T.row,by omega,a2,fun _=>?_⟩
  rw [g4,T.row,if_pos ⟨rfl,by omega⟩]
  rfl
theorem PX {h w:Nat} (h1:1<=h) (h2:h<=40) (h3:1<=w) (h4:w<=60): ∀k,SE h w k (Dt ((full h w).u15 false) k)
 | 0=>⟨Ee.start false h1 h2 h3 h4,rfl,(by show 0=_;omega),rfl,fun h=>by omega⟩
 | k+1=>(PX h1 h2 h3 h4 k).next h1 h3
end SN
end Go.Proofs.YtoaabebgmdbjeaaGreatDoor
