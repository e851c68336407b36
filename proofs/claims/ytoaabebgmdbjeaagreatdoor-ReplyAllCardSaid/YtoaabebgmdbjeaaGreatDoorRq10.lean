/- A part of the proof: GridShift, CursorSpec, ModesSpec, ParseSpec, ParseMore, UtfLemmas, SeqSpec, ReplySpec, UtfSmall, ParseTab, ParseMove, ParseMem, ParseFeed, Same64, ParseEvents, ParseConst, StrConv. -/
import Derived.Test.YtoaabebgmdbjeaaGreatDoorRq08
import Derived.Laws.BytesArg
import Derived.Deep.AppendLies
import Derived.Lib.SlBytesConst
import Derived.Laws.IdiomStrings
set_option maxRecDepth 100000
set_option maxHeartbeats 16000000
set_option linter.unusedVariables false
namespace Go.Proofs.YtoaabebgmdbjeaaGreatDoor.PG
def Loose (h:Nat->Cl) (m:Nat):Prop:= ∀j,j<m->Cc (pn (h j))/\
 ((kd (h j)=0/\C.width (rn (h j))=1)\/(kd (h j)=1/\C.width (rn (h j))=2/\(j+1<m->kd (h (j+1))=2->pn (h (j+1))=pn (h j)))\/(kd (h j)=2/\rn (h j)=0))
theorem Qo {h:Nat->Cl} {m:Nat} (hl:Loose h m):CZ (mend h m) m:=by
 intro j hj
 have hkind: ∀i,kd (mend h m i)=(if (kd (h i)=1/\ ¬(i+1<m/\kd (h (i+1))=2))\/(kd (h i)=2/\ ¬(0<i/\kd (h (i-1))=1)) then 0 else kd (h i)):=fun i=>by
  unfold mend
  split<;>rfl
 have hpn: ∀i,pn (mend h m i)=pn (h i):=fun i=>by
  unfold mend
  split<;>rfl
 refine⟨by rw [hpn];exact(hl j hj).1,?_⟩
 by_cases hb:(kd (h j)=1/\ ¬(j+1<m/\kd (h (j+1))=2))\/(kd (h j)=2/\ ¬(0<j/\kd (h (j-1))=1))
 ·left
  refine⟨by rw [hkind,if_pos hb],?_⟩
  unfold mend
  rw [if_pos hb]
  exact Dk
 ·have hm:mend h m j=h j:=by unfold mend;rw [if_neg hb]
  rw [hm]
  rcases(hl j hj).2 with ⟨h0,h1⟩ | ⟨h1,h2,h3⟩ | ⟨h1,h2⟩
  ·exact .inl ⟨h0,h1⟩
  ·right;left
   have hn:j+1<m/\kd (h (j+1))=2:=by
    by_cases hx:j+1<m/\kd (h (j+1))=2
    ·exact hx
    ·exact absurd (.inl ⟨h1,hx⟩) hb
   refine⟨h1,h2,hn.1,?_,by rw [hpn];exact h3 hn.1 hn.2⟩
   rw [hkind,if_neg,hn.2]
   rintro (⟨a,_⟩ | ⟨_,b⟩)
   ·omega
   ·exact b ⟨by omega,by rw [Nat.add_sub_cancel];exact h1⟩
  ·right;right
   have hn:0<j/\kd (h (j-1))=1:=by
    by_cases hx:0<j/\kd (h (j-1))=1
    ·exact hx
    ·exact absurd (.inr ⟨h1,hx⟩) hb
   refine⟨h1,h2,hn.1,?_⟩
   rw [hkind,if_neg,hn.2]
   rintro (⟨_,b⟩ | ⟨a,_⟩)
   ·exact b ⟨by omega,by rw [show j-1+1=j from by omega];exact h1⟩
   ·omega
def parted (f:Nat->Cl) (c:Nat) (j:Nat):Cl:=if kd (f c)=2/\0<c/\(j=c\/j+1=c) then blank (pn (f j)) else f j
def shifted (f:Nat->Cl) (K c:Nat) (n:Int) (p:Pn) (j:Nat):Cl:=if j<c then parted f c j else if (c:Int)<=j-n/\(j:Int)-n<K then parted f c ((j:Int)-n).toNat else blank p
def Cb (g:Gr) (r c:Nat) (n:Int) (p:Pn):Gr:=if r<g.rows/\c<g.AB then ⟨g.rows,g.AB,fun i j=>if i=r then mend (shifted (g.f r) g.AB c n p) g.AB j else g.f i j⟩ else g
def Ay (g:Gr) (t b:Nat) (n:Int) (p:Pn):Gr:=if b<g.rows/\t<=b then ⟨g.rows,g.AB,fun i j=>if t<=i/\i<=b then (if (t:Int)<=i+n/\(i:Int)+n<=b then g.f ((i:Int)+n).toNat j else blank p) else g.f i j⟩ else g
theorem PV {f:Nat->Cl} {K c:Nat} (hf:CZ f K) (hc:c<K):Loose (parted f c) K/\ ∀j,j+1=c->kd (parted f c j)≠1:=by
 constructor
 ·intro j hj
  have hr:=hf j hj
  unfold parted
  by_cases h:kd (f c)=2/\0<c/\(j=c\/j+1=c)
  ·rw [if_pos h]
   exact⟨hr.1,.inl ⟨rfl,Dk⟩⟩
  ·rw [if_neg h]
   refine⟨hr.1,?_⟩
   rcases hr.2 with k | ⟨k1,k2,k3,k4,k5⟩ | ⟨k1,k2,k3,k4⟩
   ·exact .inl k
   ·refine .inr (.inl ⟨k1,k2,fun _=>?_⟩)
    split
    ·intro h0;rw [Ic] at h0;omega
    ·exact fun _=>k5
   ·exact .inr (.inr ⟨k1,k2⟩)
 ·intro j hj hk
  unfold parted at hk
  by_cases h:kd (f c)=2/\0<c/\(j=c\/j+1=c)
  ·rw [if_pos h,Ic] at hk
   omega
  ·rw [if_neg h] at hk
   have:=hf.left (j:=j) (by omega) hk
   rw [hj] at this
   exact h ⟨this.2.2.1,by omega,.inr hj⟩
theorem Ni {f:Nat->Cl} {K c:Nat} (n:Int) {p:Pn} (hf:CZ f K) (hc:c<K) (hp:Cc p):Loose (shifted f K c n p) K:=by
 obtain⟨hl,hn⟩:=PV hf hc
 intro j hj
 by_cases h1:j<c
 ·have e:shifted f K c n p j=parted f c j:=if_pos h1
  rw [e]
  have hr:=hl j hj
  refine⟨hr.1,?_⟩
  rcases hr.2 with k | ⟨k1,k2,k3⟩ | k
  ·exact .inl k
  ·refine .inr (.inl ⟨k1,k2,fun hj1=>?_⟩)
   by_cases h2:j+1<c
   ·have e2:shifted f K c n p (j+1)=parted f c (j+1):=if_pos h2
    rw [e2]
    exact k3 hj1
   ·exact absurd k1 (hn j (by omega))
  ·exact .inr (.inr k)
 ·by_cases h2:(c:Int)<=j-n/\(j:Int)-n<K
  ·have e:shifted f K c n p j=parted f c ((j:Int)-n).toNat:=by unfold shifted;rw [if_neg h1,if_pos h2]
   rw [e]
   have hr:=hl ((j:Int)-n).toNat (by omega)
   refine⟨hr.1,?_⟩
   rcases hr.2 with k | ⟨k1,k2,k3⟩ | k
   ·exact .inl k
   ·refine .inr (.inl ⟨k1,k2,fun hj1=>?_⟩)
    by_cases h3:(c:Int)<=(j+1:Nat)-n/\((j+1:Nat):Int)-n<K
    ·have e2:shifted f K c n p (j+1)=parted f c (((j:Int)-n).toNat+1):=by
      unfold shifted
      rw [if_neg (by omega),if_pos h3,show(((j+1:Nat):Int)-n).toNat=((j:Int)-n).toNat+1 from by omega]
     rw [e2]
     exact k3 (by omega)
    ·have e2:shifted f K c n p (j+1)=blank p:=by unfold shifted;rw [if_neg (by omega),if_neg h3]
     rw [e2,Ic]
     intro h0
     omega
   ·exact .inr (.inr k)
  ·have e:shifted f K c n p j=blank p:=by unfold shifted;rw [if_neg h1,if_neg h2]
   rw [e]
   exact⟨hp,.inl ⟨rfl,Dk⟩⟩
theorem PW {g:Gr} (h:BL g) {p:Pn} (hp:Cc p) (r c:Nat) (n:Int):BL (Cb g r c n p):=by
 unfold Cb
 by_cases hc:r<g.rows/\c<g.AB
 ·rw [if_pos hc]
  refine⟨h.1,h.2.1,h.2.2.1,h.2.2.2.1,fun i hi=>?_⟩
  by_cases hir:i=r
  ·subst hir
   simp only [if_true]
   exact Qo (Ni n (h.2.2.2.2 i hi) hc.2 hp)
  ·simp only [if_neg hir]
   exact h.2.2.2.2 i hi
 ·rw [if_neg hc];exact h
theorem FP {g:Gr} (h:BL g) {p:Pn} (hp:Cc p) (t b:Nat) (n:Int):BL (Ay g t b n p):=by
 unfold Ay
 by_cases hc:b<g.rows/\t<=b
 ·rw [if_pos hc]
  refine⟨h.1,h.2.1,h.2.2.1,h.2.2.2.1,fun i hi=>?_⟩
  by_cases hir:t<=i/\i<=b
  ·simp only [if_pos hir]
   by_cases hn:(t:Int)<=i+n/\(i:Int)+n<=b
   ·simp only [if_pos hn]
    exact h.2.2.2.2 _ (by omega)
   ·simp only [if_neg hn]
    exact Ie p hp g.AB
  ·simp only [if_neg hir]
   exact h.2.2.2.2 i hi
 ·rw [if_neg hc];exact h
theorem Hz (g:Gr) (r c:Nat) (n:Int) (p:Pn):(Cb g r c n p).rows=g.rows/\(Cb g r c n p).AB=g.AB:=by
 unfold Cb
 split<;>exact⟨rfl,rfl⟩
theorem Dn (g:Gr) (t b:Nat) (n:Int) (p:Pn):(Ay g t b n p).rows=g.rows/\(Ay g t b n p).AB=g.AB:=by
 unfold Ay
 split<;>exact⟨rfl,rfl⟩
theorem WQ {g:Gr} {r c:Nat} {n:Int} {p:Pn} (h: ¬(r<g.rows/\c<g.AB)):Cb g r c n p=g:=if_neg h
theorem TL {g:Gr} {t b:Nat} {n:Int} {p:Pn} (h: ¬(b<g.rows/\t<=b)):Ay g t b n p=g:=if_neg h
def Er (g:Gr) (r c n:Int) (p:Pn):Gr:=if 0<=r/\0<=c then Cb g r.toNat c.toNat n p else g
def DF (g:Gr) (t b n:Int) (p:Pn):Gr:=if 0<=t/\0<=b then Ay g t.toNat b.toNat n p else g
theorem Mg {g:Gr} {r c n:Int} {p:Pn} (h: ¬(0<=r/\r<g.rows/\0<=c/\c<g.AB)):Er g r c n p=g:=by
 unfold Er
 split
 ·exact WQ (by omega)
 ·rfl
theorem LG {g:Gr} {t b n:Int} {p:Pn} (h: ¬(0<=t/\t<=b/\b<g.rows)):DF g t b n p=g:=by
 unfold DF
 split
 ·exact TL (by omega)
 ·rfl
def CQ (g:Gr) (r c what:Nat) (p:Pn):Gr:=⟨g.rows,g.AB,fun i j=>
 if what=2\/(what=0/\r<i)\/(what=1/\i<r) then blank p
 else if i=r then mend (FU (g.f r) (if what=0 then c else 0) (if what=1 then c+1 else g.AB) p) g.AB j else g.f i j⟩
theorem PX {g:Gr} (h:BL g) {p:Pn} (hp:Cc p) (r c what:Nat):BL (CQ g r c what p):=by
 refine⟨h.1,h.2.1,h.2.2.1,h.2.2.2.1,fun i hi=>?_⟩
 show CZ (fun j=>if what=2\/(what=0/\r<i)\/(what=1/\i<r) then blank p else if i=r then _ else g.f i j) g.AB
 by_cases h1:what=2\/(what=0/\r<i)\/(what=1/\i<r)
 ·simp only [if_pos h1]
  exact Ie p hp _
 ·simp only [if_neg h1]
  by_cases h2:i=r
  ·subst h2
   simp only [if_true]
   exact ME (h.2.2.2.2 i hi) _ _ hp
  ·simp only [if_neg h2]
   exact h.2.2.2.2 i hi
theorem WS (g:Gr) (r c:Nat) (p:Pn):Alike (CQ g r c 2 p) (newG g.rows g.AB p):=by
 refine⟨rfl,rfl,fun i j _ _=>?_⟩
 unfold CQ newG
 simp
def Bq (g:Gr) (r c what:Int) (p:Pn):Gr:=if (0<=r/\r<g.rows/\0<=c/\c<g.AB)/\0<=what/\what<=2 then DL g r.toNat (if what=0 then c.toNat else 0) (if what=1 then c.toNat+1 else g.AB) p else g
def GD (g:Gr) (r c what:Int) (p:Pn):Gr:=if (0<=r/\r<g.rows/\0<=c/\c<g.AB)/\0<=what/\what<=2 then CQ g r.toNat c.toNat what.toNat p else g
theorem Qp {g:Gr} (h:BL g) {p:Pn} (hp:Cc p) (r c what:Int):BL (Bq g r c what p):=by
 unfold Bq
 split
 ·exact K7 h hp _ _ _
 ·exact h
theorem PY {g:Gr} (h:BL g) {p:Pn} (hp:Cc p) (r c what:Int):BL (GD g r c what p):=by
 unfold GD
 split
 ·exact PX h hp _ _ _
 ·exact h
theorem Ji (g:Gr) (r c what:Int) (p:Pn):(Bq g r c what p).rows=g.rows/\(Bq g r c what p).AB=g.AB:=by
 unfold Bq
 split
 ·exact DI ..
 ·exact⟨rfl,rfl⟩
theorem LH (g:Gr) (r c what:Int) (p:Pn):(GD g r c what p).rows=g.rows/\(GD g r c what p).AB=g.AB:=by
 unfold GD
 split<;>exact⟨rfl,rfl⟩
end Go.Proofs.YtoaabebgmdbjeaaGreatDoor.PG
namespace Go.Proofs.YtoaabebgmdbjeaaGreatDoor.PG
end Go.Proofs.YtoaabebgmdbjeaaGreatDoor.PG
namespace Go.Proofs.YtoaabebgmdbjeaaGreatDoor
open Go.RowKit
namespace SN
def BI (s:Sc):PG.Pn:=(-1,s.pen.2.1,0)
def Du (s:Sc):Sc:=if s.row=s.bot then (s.uG (PG.Ay s.g s.top s.bot 1 (BI s))).u5 false else atS s ((s.row:Int)+1) s.col
def KI (s:Sc):Sc:=if s.row=s.top then (s.uG (PG.Ay s.g s.top s.bot (-1) (BI s))).u5 false else atS s ((s.row:Int)-1) s.col
def upR (s:Sc) (n:Nat):Int:=if s.top<=s.row then max ((s.row:Int)-n) s.top else (s.row:Int)-n
def VD (s:Sc) (n:Nat):Int:=if s.row<=s.bot then min ((s.row:Int)+n) s.bot else (s.row:Int)+n
def upS (s:Sc) (n:Nat):Sc:=atS s (upR s n) s.col
def JU (s:Sc) (n:Nat):Sc:=atS s (VD s n) s.col
def goR (s:Sc) (r:Int):Int:=if s.org=true then min ((s.top:Int)+r) s.bot else r
def goS (s:Sc) (r c:Int):Sc:=atS s (goR s r) c
def JV (s:Sc):Sc:=goS s 0 0
def jL (s:Sc):Sv:=⟨s.row,s.col,s.pen,s.s0,s.s1,s.sh,s.org⟩
def LJ (s:Sc):Sc:=s.uV (jL s)
def Mh (s:Sc):Sc:=atS ((((s.uP s.sv.pen).uS s.sv.s0 s.sv.s1).u14 s.sv.sh).u16 s.sv.org) s.sv.row s.sv.col
theorem Mi (z:Int) {R:Nat} (h:1<=R):pin z R<R:=by
 unfold pin
 omega
theorem PZ {r R:Nat} (h:r<R):pin r R=r:=by
 unfold pin
 omega
theorem Dh {s:Sc} (h:Ad s) (r c:Int):Ad (atS s r c) where
 g:=h.g
 row:=Mi r h.g.1
 col:=Mi c h.g.2.2.1
 bot:=h.bot
 top:=h.top
 pen:=h.pen
 tabs:=h.tabs
 set:=h.set
 pend:=fun h=>nomatch h
 sv:=h.sv
theorem CR {s:Sc} (h:Ad s):PG.Cc (BI s):=by
 have:=C.Ej.1 h.pen
 exact C.Ej.2 ⟨(by decide:C.col (-1)=true),this.2.1,by show(0:Int)<=0;omega,by show(0:Int)<=255;omega⟩
theorem Iq {s:Sc} (h:Ad s) (n:Int):Ad ((s.uG (PG.Ay s.g s.top s.bot n (BI s))).u5 false):=by
 obtain⟨e1,e2⟩:=PG.Dn s.g s.top s.bot n (BI s)
 generalize hG:PG.Ay s.g s.top s.bot n (BI s)=G at e1 e2
 have hg:PG.BL G:=hG▸PG.FP h.g (CR h) _ _ _
 refine⟨hg,?_,?_,?_,?_,h.pen,h.tabs,h.set,(fun h=>nomatch h),?_⟩
 ·show s.row<G.rows
  rw [e1]
  exact h.row
 ·show s.col<G.AB
  rw [e2]
  exact h.col
 ·show s.bot<G.rows
  rw [e1]
  exact h.bot
 ·show s.top<s.bot\/(G.rows=1/\s.top=0/\s.bot=0)
  rw [e1]
  exact h.top
 ·show Jw G.rows G.AB s.sv
  rw [e1,e2]
  exact h.sv
theorem Jj {s:Sc} (h:Ad s):Ad (Du s):=by
 unfold Du
 split
 ·exact Iq h 1
 ·exact Dh h _ _
theorem TM {s:Sc} (h:Ad s):Ad (KI s):=by
 unfold KI
 split
 ·exact Iq h (-1)
 ·exact Dh h _ _
theorem Mj {s:Sc} (h:Ad s):Ad (LJ s):={h with sv:=⟨h.row,h.col,h.pen,h.set⟩}
theorem Mk {s:Sc} (h:Ad s):Ad (Mh s) where
 g:=h.g
 row:=Mi _ h.g.1
 col:=Mi _ h.g.2.2.1
 bot:=h.bot
 top:=h.top
 pen:=h.sv.pen
 tabs:=h.tabs
 set:=h.sv.set
 pend:=fun h=>nomatch h
 sv:=h.sv
theorem DT {s:Sc} (h:Ad s):s.top<=s.bot:=by
 rcases h.top with h | ⟨_,h1,h2⟩<;>omega
end SN
end Go.Proofs.YtoaabebgmdbjeaaGreatDoor
namespace Go.Proofs.YtoaabebgmdbjeaaGreatDoor
open Go.RowKit
namespace SN
def Gn (s:Sc) (n:Int) (on:Bool):Sc:=if n=1 then s.u18 on else if n=6 then JV (s.u16 on) else if n=7 then (s.u15 on).u5 (s.pend&&on) else if n=25 then s.u17 on else s
def VE (s:Sc) (n:Int):Bool:=if n=1 then s.keys else if n=6 then s.org else if n=7 then s.wrap else s.shown
def D8 (n:Int):Prop:=n=1\/n=6\/n=7\/n=25
instance (n:Int):Decidable (D8 n):=inferInstanceAs (Decidable (n=1\/n=6\/n=7\/n=25))
def Dr (s:Sc) (n:Int):Int:=if D8 n then (if VE s n then 1 else 2) else 0
theorem Pb (s:Sc) (on:Bool):Gn s 7 on=(s.u15 on).u5 (s.pend&&on):=rfl
theorem dL (s:Sc) {n:Int} (on:Bool) (h: ¬D8 n):Gn s n on=s:=by
 unfold D8 at h
 unfold Gn
 rw [if_neg (by omega),if_neg (by omega),if_neg (by omega),if_neg (by omega)]
theorem OU {s:Sc} (h:Ad s) (b:Bool):Ad (s.u16 b):=⟨h.g,h.row,h.col,h.bot,h.top,h.pen,h.tabs,h.set,h.pend,h.sv⟩
theorem GI {s:Sc} (h:Ad s) (n:Int) (on:Bool):Ad (Gn s n on):=by
 unfold Gn
 split
 ·exact⟨h.g,h.row,h.col,h.bot,h.top,h.pen,h.tabs,h.set,h.pend,h.sv⟩
 ·split
  ·exact Dh (OU h on) _ _
  ·split
   ·refine⟨h.g,h.row,h.col,h.bot,h.top,h.pen,h.tabs,h.set,fun e=>?_,h.sv⟩
    have e':(s.pend&&on)=true:=e
    rw [Bool.and_eq_true] at e'
    exact⟨e'.2,(h.pend e'.1).2⟩
   ·split
    ·exact⟨h.g,h.row,h.col,h.bot,h.top,h.pen,h.tabs,h.set,h.pend,h.sv⟩
    ·exact h
end SN
end Go.Proofs.YtoaabebgmdbjeaaGreatDoor
namespace Go.Proofs.YtoaabebgmdbjeaaGreatDoor.PA
def lasts:List Int:= [6,7,23,24,25,26,27,31,47,57,58,59,63,79,80,87,88,90,91,92,93,95,126,127]
def kinds:List Int:= [0,1,0,2,0,2,3,0,4,5,6,7,8,13,11,13,11,13,9,12,10,11,13,14]
def TN (k:Nat):Int:=lasts.getD k 0
def Y4 (k:Nat):Int:=kinds.getD k 15
def place (b:Int):Nat:=(lasts.takeWhile (fun l=>l<b)).length
def cls (b:Int):Int:=Y4 (place b)
def tab:List Int:= [
 0,0,0,0,0,0,0,0,0,0,0,0,0,0,0,0,
 32,32,0,2,16,16,16,16,16,16,16,16,16,16,0,48,
 32,32,1,2,115,145,145,145,145,5,9,11,145,145,0,49,
 32,32,1,2,4,145,145,145,145,145,145,145,145,145,0,49,
 32,32,1,2,0,1,1,1,1,1,1,1,1,1,0,49,
 32,32,1,2,119,86,8,102,70,161,161,161,161,161,0,49,
 32,32,1,2,119,80,8,96,8,161,161,161,161,161,0,49,
 32,32,1,2,8,8,8,8,8,161,161,161,161,161,0,49,
 32,32,1,2,0,0,0,0,0,1,1,1,1,1,0,49,
 0,177,1,10,128,128,128,128,128,128,128,128,128,128,128,128,
 194,194,194,194,194,194,194,194,194,194,194,194,177,194,194,194,
 0,1,1,12,0,0,0,0,0,0,0,0,0,0,0,0,
 194,194,194,194,194,194,194,194,194,194,194,194,1,194,194,194]
def cellAt (st c:Int):Int:=tab.getD (st.toNat*16+c.toNat) 0
def mv (st b:Int):Int:=cellAt st (cls b)
def act (st b:Int):Int:=mv st b-mv st b%16
def nxt (st b:Int):Int:=if mv st b%16=0 then st else mv st b%16
structure D where
 priv:Int
 inter:Int
 parts:Nat
 params:List Int
 text:List Int
def d0:D:=⟨0,0,0, [], []⟩
structure S where
 st:Int
 dec:U.St
 d:D
def s0:S:=⟨1,U.z,d0⟩
structure Ev where
 kind:Int
 rune:Int
 priv:Int
 inter:Int
 final:Int
 params:List Int
 text:List Int
def pr (r:Int):Ev:=⟨1,r,0,0,0, [], []⟩
def D.begin_ (d:D):D:=⟨d.priv,d.inter,d.parts+1,if d.parts<16 then d.params++ [-1] else d.params,d.text⟩
def up (x n:Int):Int:=if (if x<0 then 0 else x)*10+n<65535 then (if x<0 then 0 else x)*10+n else 65535
def D.first (d:D):D:=if d.parts=0 then d.begin_ else d
def D.put (d:D) (n:Int):D:=if 16<d.parts then d else ⟨d.priv,d.inter,d.parts,d.params.set (d.parts-1) (up (d.params.getD (d.parts-1) 0) n),d.text⟩
def D.digit (d:D) (n:Int):D:=d.first.put n
def D.semi (d:D):D:=d.first.begin_
def doo (s:S) (a b:Int):S × List Ev:=
 if a=16 then (s, [pr b])
 else if a=32 then (s, [⟨2,0,0,0,b, [], []⟩])
 else if a=48 then (⟨s.st,(U.it s.dec b).1,s.d⟩,(U.it s.dec b).2.map pr)
 else if a=64 then (⟨s.st,s.dec,⟨b,s.d.inter,s.d.parts,s.d.params,s.d.text⟩⟩, [])
 else if a=80 then (⟨s.st,s.dec,s.d.digit (b-48)⟩, [])
 else if a=96 then (⟨s.st,s.dec,s.d.semi⟩, [])
 else if a=112 then (⟨s.st,s.dec,⟨s.d.priv,b,s.d.parts,s.d.params,s.d.text⟩⟩, [])
 else if a=128 then ((if s.d.text.length=4096 then ⟨11,s.dec,s.d⟩ else ⟨s.st,s.dec,⟨s.d.priv,s.d.inter,s.d.parts,s.d.params,s.d.text++ [b]⟩⟩), [])
 else if a=144 then (s, [⟨3,0,0,s.d.inter,b, [], []⟩])
 else if a=160 then (s, [⟨4,0,s.d.priv,s.d.inter,b,s.d.params, []⟩])
 else if a=176 then (s, [⟨5,0,0,0,0, [],s.d.text⟩])
 else (s, [])
def brk (s:S) (b:Int):S × List Ev:=if b<128/\0<s.dec.need then (⟨s.st,U.z,s.d⟩, [pr 65533]) else (s, [])
def lets (st:Int):Bool:=decide (st=1\/st=2\/st=4\/st=8\/st=11)
def clr (s:S):S:=if lets s.st=true then ⟨s.st,s.dec,d0⟩ else s
def mid (s:S) (b:Int):Int × S:=
 if act s.st b=192 then (act (nxt s.st b) b,⟨nxt (nxt s.st b) b,s.dec,d0⟩) else (act s.st b,⟨nxt s.st b,s.dec,s.d⟩)
def take (s:S) (b:Int):S × List Ev:=
 (clr (doo (mid (brk s b).1 b).2 (mid (brk s b).1 b).1 b).1,(brk s b).2++(doo (mid (brk s b).1 b).2 (mid (brk s b).1 b).1 b).2)
structure D.ok (d:D):Prop where
 priv:0<=d.priv/\d.priv<256
 inter:0<=d.inter/\d.inter<256
 len:d.params.length=min d.parts 16
 nums: ∀x∈d.params, -1<=x/\x<=65535
 tlen:d.text.length<=4096
 bytes: ∀x∈d.text,0<=x/\x<256
structure S.ok (s:S):Prop where
 st:1<=s.st/\s.st<=12
 dec:s.dec.ok
 d:s.d.ok
def iK (a:Int):Prop:=a=0\/a=16\/a=32\/a=48\/a=64\/a=80\/a=96\/a=112\/a=128\/a=144\/a=160\/a=176
instance (a:Int):Decidable (iK a):=by unfold iK;infer_instance
theorem Y5 (b:Int):place b<=24:=by
 have:=List.takeWhile_sublist (l:=lasts) (fun l=>decide (l<b))
 exact this.length_le
theorem Ca {b:Int} {k:Nat} (h0:0<=b) (h1:b<256) (hk:k<place b):TN k<b:=by
 have h: ∀b:Fin 256, ∀k:Fin 24,k.val<place (b.val:Int)->TN k.val<(b.val:Int):=by decide+kernel
 obtain⟨n,rfl⟩:=Int.eq_ofNat_of_zero_le h0
 have:=Y5 (n:Int)
 exact h ⟨n,by omega⟩ ⟨k,by omega⟩ hk
end Go.Proofs.YtoaabebgmdbjeaaGreatDoor.PA
namespace Go.Proofs.YtoaabebgmdbjeaaGreatDoor.PA
end Go.Proofs.YtoaabebgmdbjeaaGreatDoor.PA
namespace Go.Proofs.YtoaabebgmdbjeaaGreatDoor.PA
end Go.Proofs.YtoaabebgmdbjeaaGreatDoor.PA
namespace Go.Proofs.YtoaabebgmdbjeaaGreatDoor.PA
end Go.Proofs.YtoaabebgmdbjeaaGreatDoor.PA
namespace Go.Proofs.YtoaabebgmdbjeaaGreatDoor.U
end Go.Proofs.YtoaabebgmdbjeaaGreatDoor.U
namespace Go.Proofs.YtoaabebgmdbjeaaGreatDoor.PA
def Ee (r:Int):Prop:=(32<=r/\r<=126)\/(128<=r/\r<=1114111/\(r<55296\/57343<r))
def Cj (i:Int):Prop:=i=0\/(32<=i/\i<=47)
def opens (f:Int):Prop:=f=91\/f=93\/f=80\/f=88\/f=94\/f=95
def ES (p:Int):Prop:=p=0\/(60<=p/\p<=63)
instance (f:Int):Decidable (opens f):=by unfold opens;infer_instance
def Right (e:Ev):Prop:=
 (∃r,e=pr r/\Ee r)\/
 (∃b,e=⟨2,0,0,0,b, [], []⟩/\0<=b/\b<32/\b≠24/\b≠26/\b≠27)\/
 (∃i f,e=⟨3,0,0,i,f, [], []⟩/\Cj i/\48<=f/\f<=126/\(i=0-> ¬opens f))\/
 (∃p i f ps,e=⟨4,0,p,i,f,ps, []⟩/\ES p/\Cj i/\64<=f/\f<=126/\ps.length<=16/\(∀x∈ps, -1<=x/\x<=65535)/\ps≠ [-1])\/
 (∃t,e=⟨5,0,0,0,0, [],t⟩/\t.length<=4096/\ ∀x∈t,32<=x/\x<256)
def Gw:Nat->Nat->List Int
 | 0,n=> [48+(n:Int)]
 | k+1,n=>if n<10 then [48+(n:Int)] else Gw k (n / 10)++ [48+((n%10:Nat):Int)]
def FY (n:Nat):List Int:=Gw 20 n
def num (x:Int):List Int:=if x= -1 then [] else FY x.toNat
def joined:List Int->List Int
 | [] => []
 | [x] =>num x
 | x::y::l=>num x++59::joined (y::l)
def Bn (i:Int):List Int:=if i=0 then [] else [i]
def bytesOf (e:Ev):List Int:=
 if e.kind=1 then U.en e.rune
 else if e.kind=2 then [e.final]
 else if e.kind=3 then 27::Bn e.inter++ [e.final]
 else if e.kind=4 then 27::91::Bn e.priv++joined e.params++Bn e.inter++ [e.final]
 else 27::93::e.text++ [7]
def CU (es:List Ev):List Int:=es.flatMap bytesOf
end Go.Proofs.YtoaabebgmdbjeaaGreatDoor.PA
namespace Go.Proofs.YtoaabebgmdbjeaaGreatDoor.PA
instance (r:Int):Decidable (Ee r):=by unfold Ee;infer_instance
instance (i:Int):Decidable (Cj i):=by unfold Cj;infer_instance
instance (p:Int):Decidable (ES p):=by unfold ES;infer_instance
def Bd (e:Ev):Bool:=
 if e.kind=1 then decide (Ee e.rune/\e.priv=0/\e.inter=0/\e.final=0/\e.params= [] /\e.text= [])
 else if e.kind=2 then decide (e.rune=0/\e.priv=0/\e.inter=0/\e.params= [] /\e.text= [] /\0<=e.final/\e.final<32/\e.final≠24/\e.final≠26/\e.final≠27)
 else if e.kind=3 then decide (e.rune=0/\e.priv=0/\e.params= [] /\e.text= [] /\Cj e.inter/\48<=e.final/\e.final<=126/\(e.inter=0-> ¬opens e.final))
 else if e.kind=4 then decide (e.rune=0/\e.text= [] /\ES e.priv/\Cj e.inter/\64<=e.final/\e.final<=126/\e.params.length<=16/\(∀x∈e.params, -1<=x/\x<=65535)/\e.params≠ [-1])
 else if e.kind=5 then decide (e.rune=0/\e.priv=0/\e.inter=0/\e.final=0/\e.params= [] /\e.text.length<=4096/\ ∀x∈e.text,32<=x/\x<256)
 else false
theorem KJ {e:Ev} (h:Bd e=true):Right e:=by
 obtain⟨k,r,p,i,f,ps,t⟩:=e
 unfold Bd at h
 simp only [] at h
 by_cases h1:k=1
 ·rw [if_pos h1] at h
  obtain⟨a,rfl,rfl,rfl,rfl,rfl⟩:=of_decide_eq_true h
  subst h1
  exact .inl ⟨r,rfl,a⟩
 rw [if_neg h1] at h
 by_cases h2:k=2
 ·rw [if_pos h2] at h
  obtain⟨rfl,rfl,rfl,rfl,rfl,a⟩:=of_decide_eq_true h
  subst h2
  exact .inr (.inl ⟨f,rfl,a⟩)
 rw [if_neg h2] at h
 by_cases h3:k=3
 ·rw [if_pos h3] at h
  obtain⟨rfl,rfl,rfl,rfl,a⟩:=of_decide_eq_true h
  subst h3
  exact .inr (.inr (.inl ⟨i,f,rfl,a⟩))
 rw [if_neg h3] at h
 by_cases h4:k=4
 ·rw [if_pos h4] at h
  obtain⟨rfl,rfl,a⟩:=of_decide_eq_true h
  subst h4
  exact .inr (.inr (.inr (.inl ⟨p,i,f,ps,rfl,a⟩)))
 rw [if_neg h4] at h
 by_cases h5:k=5
 ·rw [if_pos h5] at h
  obtain⟨rfl,rfl,rfl,rfl,rfl,a⟩:=of_decide_eq_true h
  subst h5
  exact .inr (.inr (.inr (.inr ⟨t,rfl,a⟩)))
 rw [if_neg h5] at h
 cases h
end Go.Proofs.YtoaabebgmdbjeaaGreatDoor.PA
namespace Go.Proofs.YtoaabebgmdbjeaaGreatDoor
open Go.RowKit
namespace RP
open SN
def first(l:List Int):Int:=if l.getD 0 0<1 then 0 else l.getD 0 0
def no:PA.Ev:=⟨0,0,0,0,0, [], []⟩
def place (s:Sc):PA.Ev:=⟨4,0,0,0,82, [((if s.org then s.row-s.top else s.row:Nat):Int)+1,(s.col:Int)+1], []⟩
def ans (s:Sc) (k p i f:Int) (l:List Int):PA.Ev:=
 if k≠4 then no
 else if (p=0/\i=0)/\f=110/\first l=5 then ⟨4,0,0,0,110, [0], []⟩
 else if (p=0/\i=0)/\f=110/\first l=6 then place s
 else if (p=0/\i=0)/\f=99/\first l=0 then ⟨4,0,63,0,99, [6], []⟩
 else if p=63/\i=36/\f=112 then ⟨4,0,63,36,121, [first l,Dr s (first l)], []⟩
 else no
def said (s:Sc) (k p i f:Int) (l:List Int):List Int:=
 if k≠4 then []
 else if p=63/\i=36/\f=112 then [27,91,63] ++PA.FY (first l).toNat++ [59] ++ [48+Dr s (first l)] ++ [36,121]
 else if¬(p=0/\i=0) then []
 else if f=110/\first l=5 then [27,91,48,110]
 else if f=110/\first l=6 then [27,91] ++PA.FY ((if s.org then s.row-s.top else s.row)+1)++ [59] ++PA.FY (s.col+1)++ [82]
 else if f=99/\first l=0 then [27,91,63,54,99]
 else []
theorem Ml {l:List Int} (h: ∀x∈l,x<=65535):0<=first l/\first l<=65535:=by
 have:l.getD 0 0<=65535:=by
  cases l with
  | nil=>simp
  | cons a l=>simpa using h a (by simp)
 unfold first
 split<;>omega
theorem OV (s:Sc) (n:Int):0<=Dr s n/\Dr s n<=2:=by
 unfold Dr
 split
 ·split<;>omega
 ·omega
theorem LK {s:Sc} (h1:s.row<=60000) (h2:s.col<=60000):PA.Bd (place s)=true:=by
 unfold PA.Bd place
 simp [PA.ES,PA.Cj]
 split<;>omega
theorem Ko (s:Sc) (k p i f:Int) (l:List Int):
  (ans s k p i f l=no/\said s k p i f l= [])\/
  (k=4/\p=0/\i=0/\f=110/\first l=5/\ans s k p i f l=⟨4,0,0,0,110, [0], []⟩/\said s k p i f l= [27,91,48,110])\/
  (k=4/\p=0/\i=0/\f=110/\first l=6/\ans s k p i f l=place s/\said s k p i f l= [27,91] ++PA.FY ((if s.org then s.row-s.top else s.row)+1)++ [59] ++PA.FY (s.col+1)++ [82])\/
  (k=4/\p=0/\i=0/\f=99/\first l=0/\ans s k p i f l=⟨4,0,63,0,99, [6], []⟩/\said s k p i f l= [27,91,63,54,99])\/
  (k=4/\p=63/\i=36/\f=112/\ans s k p i f l=⟨4,0,63,36,121, [first l,Dr s (first l)], []⟩/\said s k p i f l= [27,91,63] ++PA.FY (first l).toNat++ [59] ++ [48+Dr s (first l)] ++ [36,121]):=by
 have n4: ¬(k≠4)<->k=4:=by omega
 by_cases hk:k=4
 ·by_cases hq:p=63/\i=36/\f=112
  ·right;right;right;right
   refine⟨hk,hq.1,hq.2.1,hq.2.2,?_,?_⟩
   ·unfold ans
    obtain⟨rfl,rfl,rfl⟩:=hq
    simp [hk]
   ·unfold said
    rw [if_neg (n4.2 hk),if_pos hq]
  ·by_cases h0:p=0/\i=0
   ·obtain⟨rfl,rfl⟩:=h0
    by_cases h5:f=110/\first l=5
    ·right;left
     exact⟨hk,rfl,rfl,h5.1,h5.2,by unfold ans;simp [hk,h5],by unfold said;simp [hk,h5]⟩
    ·by_cases h6:f=110/\first l=6
     ·right;right;left
      exact⟨hk,rfl,rfl,h6.1,h6.2,by unfold ans;simp [hk,h6],by unfold said;simp [hk,h6]⟩
     ·by_cases h9:f=99/\first l=0
      ·right;right;right;left
       exact⟨hk,rfl,rfl,h9.1,h9.2,by unfold ans;simp [hk,h9],by unfold said;simp [hk,h9]⟩
      ·left
       exact⟨by unfold ans;simp [hk,h5,h6,h9],by unfold said;simp [hk,h5,h6,h9]⟩
   ·left
    exact⟨by unfold ans;simp [hk,h0,hq],by unfold said;simp [hk,h0,hq]⟩
 ·left
  exact⟨by unfold ans;simp [hk],by unfold said;simp [hk]⟩
theorem Lj {x:Int} (h:0<=x):PA.num x=PA.FY x.toNat:=by
 unfold PA.num
 rw [if_neg (by omega)]
theorem dM {x:Int} (h0:0<=x) (h:x<=9):PA.FY x.toNat= [48+x] :=by
 unfold PA.FY
 show PA.Gw (19+1) x.toNat=_
 unfold PA.Gw
 rw [if_pos (by omega)]
 congr 1
 omega
theorem Mq (s:Sc) (k p i f:Int) (l:List Int) (h1:s.row<=60000) (h2:s.col<=60000) (hl: ∀x∈l,x<=65535):
  (PA.Bd (ans s k p i f l)=true/\PA.bytesOf (ans s k p i f l)=said s k p i f l/\said s k p i f l≠ [])\/(PA.Bd (ans s k p i f l)=false/\said s k p i f l= []):=by
 have hf:=Ml hl
 have hr:=OV s (first l)
 rcases Ko s k p i f l with ⟨e1,e2⟩ | ⟨_,_,_,_,_,e1,e2⟩ | ⟨_,_,_,_,_,e1,e2⟩ | ⟨_,_,_,_,_,e1,e2⟩ | ⟨_,_,_,_,e1,e2⟩<;>rw [e1,e2]
 ·right;exact⟨rfl,rfl⟩
 ·left;refine⟨by decide,by decide,by simp⟩
 ·left
  refine⟨LK h1 h2,?_,by simp⟩
  unfold PA.bytesOf place
  simp [PA.Bn,PA.joined]
  rw [Lj (by split<;>omega),Lj (by omega)]
  split<;>simp
 ·left;refine⟨by decide,by decide,by simp⟩
 ·left
  refine⟨?_,?_,by simp⟩
  ·unfold PA.Bd
   simp [PA.ES,PA.Cj]
   omega
  ·unfold PA.bytesOf
   simp [PA.Bn,PA.joined]
   rw [Lj hf.1,Lj hr.1,dM hr.1 (by omega)]
   simp
theorem Qq (s t:Sc) (k p i f:Int) (l:List Int):(ans s k p i f l=no<->ans t k p i f l=no):=by
 unfold ans
 split<;>(try split)<;>(try split)<;>(try split)<;>(try split)<;>simp [no,place]
theorem Nj (s t:Sc) (k p i f:Int) (l:List Int) (h1:s.row<=60000) (h2:s.col<=60000) (h3:t.row<=60000) (h4:t.col<=60000) (hl: ∀x∈l,x<=65535):
  PA.Bd (ans t k p i f l)=decide (said s k p i f l≠ []):=by
 have hx: ∀u:Sc,PA.Bd (ans u k p i f l)=true->ans u k p i f l≠no:=fun u h e=>by rw [e] at h;exact absurd h (by decide)
 have hz: ∀u:Sc,u.row<=60000->u.col<=60000->PA.Bd (ans u k p i f l)=false->ans u k p i f l=no:=fun u g1 g2 h=>by
  have hf:=Ml hl
  have hr:=OV u (first l)
  rcases Ko u k p i f l with ⟨e1,e2⟩ | ⟨_,_,_,_,_,e1,e2⟩ | ⟨_,_,_,_,_,e1,e2⟩ | ⟨_,_,_,_,_,e1,e2⟩ | ⟨_,_,_,_,e1,e2⟩
  ·exact e1
  ·rw [e1] at h;exact absurd h (by decide)
  ·rw [e1,LK g1 g2] at h;exact absurd h (by decide)
  ·rw [e1] at h;exact absurd h (by decide)
  ·rcases Mq u k p i f l g1 g2 hl with ⟨h',_,_⟩ | ⟨_,h'⟩
   ·rw [h'] at h;exact absurd h (by decide)
   ·rw [e2] at h';simp at h'
 rcases Mq s k p i f l h1 h2 hl with ⟨a,_,b⟩ | ⟨a,b⟩
 ·rw [decide_eq_true b]
  by_cases ht:PA.Bd (ans t k p i f l)=true
  ·exact ht
  ·exact absurd ((Qq t s k p i f l).1 (hz t h3 h4 (by simpa using ht))) (hx s a)
 ·rw [b]
  simp only [ne_eq,not_true_eq_false,decide_false]
  by_cases ht:PA.Bd (ans t k p i f l)=true
  ·exact absurd ((Qq s t k p i f l).1 (hz s h1 h2 a)) (hx t ht)
  ·simpa using ht
theorem Qr (s:Sc) (k p i f:Int) (l:List Int):(ans s k p i f l).rune=0/\(ans s k p i f l).text= [] /\0<=(ans s k p i f l).final/\(ans s k p i f l).params.length<=2:=by
 rcases Ko s k p i f l with ⟨e1,e2⟩ | ⟨_,_,_,_,_,e1,e2⟩ | ⟨_,_,_,_,_,e1,e2⟩ | ⟨_,_,_,_,_,e1,e2⟩ | ⟨_,_,_,_,e1,e2⟩<;>rw [e1] <;>simp [no,place]
end RP
end Go.Proofs.YtoaabebgmdbjeaaGreatDoor
namespace Go.Proofs.YtoaabebgmdbjeaaGreatDoor
open Go.RowKit
theorem dN {k:IntKind} {a b:Int} (h:a=b):Ending.returned (.int k a)=.returned (.int k b):=by rw [h]
theorem TP {k:IntKind} {a b:Int} (h:a=b):Ending.returned (.int k a)=.returned (.int k b):=by rw [h]
theorem Y6 {a b:Bool} (h:a=b):Ending.returned (.bool a)=.returned (.bool b):=by rw [h]
theorem GK (n:Int) (w:World):Calls Tryz.prog 204 #[.int .i64 n] w fun e w'=>e=.returned (.bool (U.isR n))/\w=w':=by
 have cs:n<0\/1114111<n\/(0<=n/\n<55296)\/(55296<=n/\n<=57343)\/(57343<n/\n<=1114111):=by omega
 have hr: ∀b:Bool,(b=true<->(0<=n/\n<=1114111/\(n<55296\/57343<n)))->Ending.returned (.bool b)=.returned (.bool (U.isR n)):=fun b hb=>Y6 (by unfold U.isR;rw [Bool.eq_iff_iff,hb,decide_eq_true_iff])
 have HR:=Lib.hid hr
 clear hr
 rcases cs with h | h | h | h | h
 all_goals
  go_enter Tryz.func204,Tryz.ntmps204
  go_wp2
  go_ret
  exact⟨HR.out _ (by simp;omega),rfl⟩
theorem Ir (r:Int) (w:World):Calls Tryz.prog 205 #[.int .i32 r] w fun e w'=>e=.returned (.int .i64 (U.sz r))/\w=w':=by
 have hr: ∀k:Int,U.sz r=k->Ending.returned (.int .i64 k)=.returned (.int .i64 (U.sz r)):=fun k hb=>dN hb.symm
 have HR:=Lib.hid hr
 clear hr
 have cs:r<128\/(128<=r/\r<2048)\/(2048<=r/\r<65536)\/65536<=r:=by omega
 rcases cs with h | h | h | h
 all_goals
  go_enter Tryz.func205,Tryz.ntmps205
  go_wp2
  go_ret
  exact⟨HR.out _ (by unfold U.sz;repeat(first | rw [if_pos (by omega)] | rw [if_neg (by omega)])),rfl⟩
end Go.Proofs.YtoaabebgmdbjeaaGreatDoor
namespace Go.Proofs.YtoaabebgmdbjeaaGreatDoor
open Go.RowKit
end Go.Proofs.YtoaabebgmdbjeaaGreatDoor
namespace Go.Proofs.YtoaabebgmdbjeaaGreatDoor
open Go.RowKit
end Go.Proofs.YtoaabebgmdbjeaaGreatDoor
namespace Go.Proofs.YtoaabebgmdbjeaaGreatDoor
open Go.RowKit
end Go.Proofs.YtoaabebgmdbjeaaGreatDoor
namespace Go.Proofs.YtoaabebgmdbjeaaGreatDoor
open Go.RowKit
def Y7:Array Value:=((List.range 24).flatMap fun k=> [Value.int .u8 (PA.TN k),Value.int .u8 (PA.Y4 k)]).toArray
def WU:Array Value:=(PA.tab.map (Value.int .u8)).toArray
structure Mr (w:World):Prop where
 runs: ∃t,w.heap[5]? =some (.cells Y7 t (0,0))
 moves: ∃t,w.heap[2]? =some (.cells WU t (0,0))
theorem Mr.below {w w':World} {B:Nat} (h:Mr w) (hb:Below B w w') (hB:6<=B):Mr w':=by
 obtain⟨⟨t,h⟩,⟨u,k⟩⟩:=h
 exact⟨⟨t,(hb.block _ (by omega)).trans h⟩,⟨u,(hb.block _ (by omega)).trans k⟩⟩
theorem Mr.lt {w:World} (h:Mr w):6<=w.heap.size:=by
 obtain⟨⟨t,h⟩,⟨u,k⟩⟩:=h
 have a:=(Array.getElem?_eq_some_iff.1 h).1
 have b:=(Array.getElem?_eq_some_iff.1 k).1
 omega
theorem Mr.keep {w w':World} (h:Mr w) (hb:Below w.heap.size w w'):Mr w':=h.below hb h.lt
end Go.Proofs.YtoaabebgmdbjeaaGreatDoor
namespace Go.Proofs.YtoaabebgmdbjeaaGreatDoor
open Go.RowKit
end Go.Proofs.YtoaabebgmdbjeaaGreatDoor
namespace Go.Proofs.YtoaabebgmdbjeaaGreatDoor
open Go.RowKit
def Br (l:List Int):List Value:=l.map (Value.int .i64)
theorem Qs:(Tryz.prog.info? 3).map (fun i=>(i.zero,i.size,i.bytes))=some (some (.int .i64 0),1,8):=by kernel_rfl
def TQ (s:PA.S) (vp vt:Value):Array Value:= #[.int .u8 s.st,.int .i64 s.dec.need,.int .i64 s.dec.have_,.int .i64 s.dec.acc,.int .u8 s.d.priv,.int .u8 s.d.inter,.int .i64 s.d.parts,vp,vt]
structure PB (w:World) (B g:Nat) (s:PA.S) (vp vt:Value):Prop where
 box:Box w g 99 (TQ s vp vt)
 par:w.ownsRow B 3 1 vp s.d.params.length (Br s.d.params)
 txt:w.ownsRow B 5 1 vt s.d.text.length (u8s s.d.text)
 low:B<=g
 pn:s.d.params= [] ->vp=.slice none 0 0
 tn:s.d.text= [] ->vt=.slice none 0 0
theorem PB.lt {w:World} {B g:Nat} {s:PA.S} {vp vt:Value} (h:PB w B g s vp vt):g<w.heap.size:=h.box.lt
theorem PB.kept {w w':World} {L:List (Option Nat)} {B g:Nat} {s:PA.S} {vp vt:Value} (h:PB w B g s vp vt) (k:Kept L w w') (hg:some g∉L) (hp: ∀b,vp.ownBlock=some b->some b∉L) (ht: ∀b,vt.ownBlock=some b->some b∉L):PB w' B g s vp vt:=
 ⟨h.box.kept k hg,Bl h.par k hp,Bl h.txt k ht,h.low,h.pn,h.tn⟩
theorem PB.below {w w':World} {B g:Nat} {s:PA.S} {vp vt:Value} (h:PB w B g s vp vt) (hb:Below w.heap.size w w'):PB w' B g s vp vt:=
 h.kept (Kept.of_below (L:= []) hb) (by simp) (by simp) (by simp)
theorem PB.alloc {w:World} {B g:Nat} {s:PA.S} {vp vt:Value} (h:PB w B g s vp vt) (o:Obj):PB (w.alloc o) B g s vp vt:=h.below ((Below.refl _ _).alloc (Nat.le_refl _) _)
theorem PB.drewN {w:World} {B g:Nat} {s:PA.S} {vp vt:Value} (h:PB w B g s vp vt) (n:Nat):PB (w.drewN n) B g s vp vt:=⟨h.box,h.par,h.txt,h.low,h.pn,h.tn⟩
theorem PB.store {w:World} {B g:Nat} {s s':PA.S} {vp vt vp' vt':Value} (h:PB w B g s vp vt) (i:Nat) (u:Value) (hc:(TQ s vp vt).setIfInBounds i u=TQ s' vp' vt')
  (hp:w.ownsRow B 3 1 vp' s'.d.params.length (Br s'.d.params)) (ht:w.ownsRow B 5 1 vt' s'.d.text.length (u8s s'.d.text)) (pn:s'.d.params= [] ->vp'=.slice none 0 0) (tn:s'.d.text= [] ->vt'=.slice none 0 0):
  PB (w.setCell ⟨g,i,none⟩ u) B g s' vp' vt':=
 ⟨by rw [<- hc];exact h.box.set i u,Dc hp (Ac hp h.box (by decide)) u,Dc ht (Ac ht h.box (by decide)) u,h.low,pn,tn⟩
end Go.Proofs.YtoaabebgmdbjeaaGreatDoor
namespace Go.Proofs.YtoaabebgmdbjeaaGreatDoor
open Go.RowKit
def Fe (e:PA.Ev) (u:Value):List Value:= [.int .i64 e.kind,.int .i32 e.rune,.int .u8 e.priv,.int .u8 e.inter,.int .u8 e.final,u,.string (strOfNums e.text)]
def Fg (M:List (PA.Ev × Value)):List Value:=M.flatMap fun p=>Fe p.1 p.2
def WV (w:World) (B:Nat) (M:List (PA.Ev × Value)):Prop:= ∀p∈M,w.ownsRow B 3 1 p.2 p.1.params.length (Br p.1.params)
theorem WV.kept {w w':World} {B:Nat} {M:List (PA.Ev × Value)} {L:List (Option Nat)} (h:WV w B M) (k:Kept L w w') (hn: ∀p∈M, ∀b,p.2.ownBlock=some b->some b∉L):WV w' B M:=
 fun p hp=>Bl (h p hp) k (hn p hp)
theorem WV.nil (w:World) (B:Nat):WV w B [] :=fun p hp=>by cases hp
def zev:Value:=.agg #[.int .i64 0,.int .i32 0,.int .u8 0,.int .u8 0,.int .u8 0,.slice none 0 0,.string ⟨#[]⟩]
theorem dO:(Tryz.prog.info? 34).map (fun i=>(i.zero,i.size,i.bytes))=some (some zev,7,56):=by kernel_rfl
theorem Y8:zev.cells.size=7:=rfl
end Go.Proofs.YtoaabebgmdbjeaaGreatDoor
namespace Go.Proofs.YtoaabebgmdbjeaaGreatDoor
open Go.RowKit
end Go.Proofs.YtoaabebgmdbjeaaGreatDoor
namespace Go.Proofs.YtoaabebgmdbjeaaGreatDoor
open Go.RowKit
end Go.Proofs.YtoaabebgmdbjeaaGreatDoor
namespace Go.Proofs.YtoaabebgmdbjeaaGreatDoor
open Go.RowKit
end Go.Proofs.YtoaabebgmdbjeaaGreatDoor
namespace Go.Proofs.YtoaabebgmdbjeaaGreatDoor
open Go.RowKit
theorem Mr.kept {w w':World} {L:List (Option Nat)} (h:Mr w) (k:Kept L w w') (hL: ∀b,some b∈L->6<=b):Mr w':=by
 have hlt:=h.lt
 obtain⟨⟨t,h⟩,⟨u,g⟩⟩:=h
 exact⟨⟨t,(k.block _ (by omega) (fun e=>by have:=hL _ e;omega)).trans h⟩,⟨u,(k.block _ (by omega) (fun e=>by have:=hL _ e;omega)).trans g⟩⟩
end Go.Proofs.YtoaabebgmdbjeaaGreatDoor
namespace Go.Proofs.YtoaabebgmdbjeaaGreatDoor
open Go.RowKit
def Fed (B g:Nat) (s':PA.S) (evs:List PA.Ev) (vp vt:Value) (w:World) (e:Ending) (w':World):Prop:=
 ∃v' vp' vt' M,e=.returned v'/\M.map (·.1)=evs/\PB w' B g s' vp' vt'/\w'.ownsRow B 34 7 v' M.length (Fg M)/\WV w' B M/\(∀p∈M, ∀q,p.2.ownBlock=some q->vp'.ownBlock≠some q/\(vp.ownBlock=some q\/w.heap.size<=q))/\
  Kept [some g,vp.ownBlock,vt.ownBlock] w w'/\(∀q,v'.ownBlock=some q->w.heap.size<=q)/\From w [vp.ownBlock] vp'.ownBlock/\From w [vt.ownBlock] vt'.ownBlock
end Go.Proofs.YtoaabebgmdbjeaaGreatDoor
namespace Go.Proofs.YtoaabebgmdbjeaaGreatDoor
open Go.RowKit
end Go.Proofs.YtoaabebgmdbjeaaGreatDoor
namespace Go.Proofs.YtoaabebgmdbjeaaGreatDoor
open Go.RowKit
def Gp (w:World) (A:Option Addr) (n:Nat) (M:List (PA.Ev × Value)):Prop:=
 M.length=n/\ ∀k p,M[k]? =some p-> ∃gb,A=some ⟨gb,0,none⟩/\gb<w.heap.size/\(∀j u,(Fe p.1 p.2)[j]? =some u->w.cell? ⟨gb,k*7+j,none⟩=some u)/\
  ∃Ap cp,p.2=.slice Ap p.1.params.length cp/\Seen w w.heap.size Ap p.1.params.length (Br p.1.params)/\p.1.params.length<=1024
theorem Jk (e:PA.Ev) (u:Value):(Fe e u).length=7:=rfl
theorem JJ: ∀(M:List (PA.Ev × Value)) (k j:Nat) (p:PA.Ev × Value) (u:Value),M[k]? =some p->(Fe p.1 p.2)[j]? =some u->(Fg M)[k*7+j]? =some u
 | [],k,j,p,u,h,_=>by simp at h
 | q::M,0,j,p,u,h,hu=>by
  simp at h
  subst h
  have hj:j<7:=(List.getElem?_eq_some_iff.1 hu).1
  show(Fe q.1 q.2++Fg M)[0*7+j]? =some u
  rw [Nat.zero_mul,Nat.zero_add,List.getElem?_append_left (by rw [Jk];exact hj)]
  exact hu
 | q::M,k+1,j,p,u,h,hu=>by
  have ih:=JJ M k j p u (by simpa using h) hu
  show(Fe q.1 q.2++Fg M)[(k+1)*7+j]? =some u
  rw [List.getElem?_append_right (by rw [Jk];omega),Jk,show(k+1)*7+j-7=k*7+j by omega]
  exact ih
theorem Gp.kept {w w':World} {A:Option Addr} {n:Nat} {M:List (PA.Ev × Value)} (h:Gp w A n M) (hb:Below w.heap.size w w'):Gp w' A n M:=
 ⟨h.1,fun k p hp=>by
  obtain⟨gb,h1,h2,h3,Ap,cp,h4,h5,h6⟩:=h.2 k p hp
  exact⟨gb,h1,Nat.lt_of_lt_of_le h2 hb.size,fun j u hu=>(hb.cell (p:=⟨gb,k*7+j,none⟩) h2).trans (h3 j u hu),Ap,cp,h4,(h5.below hb).more hb.size,h6⟩⟩
theorem Box.seven {w:World} {g:Nat} {t:TypeId} {a b c d e f h:Value} (x:Box w g t #[a,b,c,d,e,f,h]):
  w.cell? ⟨g,0,none⟩=some a/\w.cell? ⟨g,1,none⟩=some b/\w.cell? ⟨g,2,none⟩=some c/\w.cell? ⟨g,3,none⟩=some d/\w.cell? ⟨g,4,none⟩=some e/\w.cell? ⟨g,5,none⟩=some f/\w.cell? ⟨g,6,none⟩=some h:=
 ⟨x.cell 0,x.cell 1,x.cell 2,x.cell 3,x.cell 4,x.cell 5,x.cell 6⟩
end Go.Proofs.YtoaabebgmdbjeaaGreatDoor
namespace Go.Proofs.YtoaabebgmdbjeaaGreatDoor
open Go.RowKit
theorem Fed.below {B g:Nat} {s':PA.S} {evs:List PA.Ev} {w w':World} {e:Ending} (h:Fed B g s' evs (.slice none 0 0) (.slice none 0 0) w e w') {C:Nat} (hC:C<=g) (hw:C<=w.heap.size):Below C w w':=by
 obtain⟨v',vp',vt',M,_,_,_,_,_,_,hK,_⟩:=h
 refine hK.toBelow hw (fun k hk=>?_)
 simp [Value.ownBlock] at hk
 omega
theorem Qt (w:World) (s:ByteArray):(convert 9 30 (.string s)).run Tryz.prog w=.ok (.slice (some ⟨w.heap.size,0,none⟩) s.size (grownCap w s.size 0 5))
   (w.drew.alloc (.cells (bytesRow s (grownCap w s.size 0 5)) 5 ((bytesRow s (grownCap w s.size 0 5)).size,(bytesRow s (grownCap w s.size 0 5)).size+1))):=
 run_bytes_of_string w _ _ _ s Tryz.underlying9 Tryz.underlying30 Tryz.underlying5
theorem Qu {w:World} {t:TypeId} {cs:Array Value} {lo hi n g B:Nat} {xs:List Value} (hg:g=w.heap.size) (hB:w.heap.size<B) (hn:xs.length=n) (hx: ∀(j:Nat) (u:Value),xs[j]? =some u->cs[j]? =some u):Seen (w.alloc (.cells cs t (lo,hi))) B (some ⟨g,0,none⟩) n xs:=by
 subst hg
 refine⟨hn,fun j u hu=>⟨_,rfl,hB,?_⟩⟩
 rw [Addr.add_lit,Nat.zero_add,World.cell?_alloc_mark]
 exact hx j u hu
theorem Qv {w:World} {l:List Int} {cap lo hi n g B:Nat} (hl: ∀x∈l,0<=x/\x<256) (hg:g=w.heap.size) (hB:w.heap.size<B) (hn:l.length=n):Seen (w.alloc (.cells (bytesRow (strOfNums l) cap) 5 (lo,hi))) B (some ⟨g,0,none⟩) n (u8s l):=by
 refine Qu hg hB (by simpa [u8s] using hn) (fun j u hu=>?_)
 rw [u8s,List.getElem?_map] at hu
 obtain⟨x,hx,rfl⟩:=Option.map_eq_some_iff.1 hu
 have hj:j<l.length:=(List.getElem?_eq_some_iff.1 hx).1
 have hxr:=hl x (List.mem_of_getElem? hx)
 have hjs:j<(strOfNums l).data.size:=by simpa [strOfNums] using hj
 rw [bytesRow_at _ _ _ hjs]
 have hx':l[j] =x:=by rw [List.getElem?_eq_getElem hj] at hx;exact Option.some.inj hx
 have:(strOfNums l).data[j] =UInt8.ofNat x.toNat:=by simp [strOfNums,hx']
 rw [this]
 simp
 omega
end Go.Proofs.YtoaabebgmdbjeaaGreatDoor
namespace Go.Proofs.YtoaabebgmdbjeaaGreatDoor
open Go.RowKit
theorem Fy {w:World} {B n c:Nat} {A:Option Addr} {l:List Int} (h:Seen w B A n (u8s l)):(convert 30 9 (.slice A n c)).run Tryz.prog w=.ok (.string (strOfNums l)) w:=by
 have hl:l.length=n:=by simpa [u8s] using h.1
 rcases A with _ | ad
 ·have:l= [] :=by
   rcases l with _ | ⟨x,l⟩
   ·rfl
   ·obtain⟨ad,h0,_⟩:=h.2 0 _ rfl
    cases h0
  subst this
  exact run_convert_bytes_nil w _ _ Tryz.underlying30 Tryz.underlying5 _ _ _ Tryz.underlying9
 ·have hh:(loadCells ad n).run Tryz.prog w=.ok ((l.map (Value.int .u8)).toArray) w:=by
   have:=run_loadCells_list (P:=Tryz.prog) w ad (l.map (Value.int .u8)) (fun j v hj=>by
    obtain⟨ad',h1,_,h3⟩:=h.2 j v hj
    injection h1 with h1
    subst h1
    exact h3)
   simpa [hl] using this
  rw [run_convert_bytes_string w _ _ _ _ n c Tryz.underlying30 Tryz.underlying5 Tryz.underlying9,run_bytesToString w _ n c l hh,foldl_push_bytes]
  simp [strOfNums,ByteArray.empty,ByteArray.emptyWithCapacity]
  rfl
def Ms (w:World) (s:ByteArray):Nat:=grownCap w s.size 0 5
def Es (w:World) (s:ByteArray):World:=w.drew.alloc (.cells (bytesRow s (Ms w s)) 5 ((bytesRow s (Ms w s)).size,(bytesRow s (Ms w s)).size+1))
theorem Y9 (w:World) (s:ByteArray):(convert 9 30 (.string s)).run Tryz.prog w=.ok (.slice (some ⟨w.heap.size,0,none⟩) s.size (Ms w s)) (Es w s):=Qt w s
theorem Mt (w:World) (s:ByteArray):Below w.heap.size w (Es w s):=(Below.refl _ _).drew.alloc (Nat.le_refl _) _
theorem Nk (w:World) (s:ByteArray):(Es w s).heap.size=w.heap.size+1:=by simp [Es]
theorem Nl {w:World} {s:ByteArray} {l:List Int} {n:Nat} (hs:s=strOfNums l) (hl: ∀x∈l,0<=x/\x<256) (hn:l.length=n):Seen (Es w s) (Es w s).heap.size (some ⟨w.heap.size,0,none⟩) n (u8s l):=by
 subst hs
 exact Qv hl rfl (by rw [Nk];exact Nat.lt_succ_self _) hn
theorem strOfNums_size (l:List Int):(strOfNums l).size=l.length:=by simp [strOfNums,ByteArray.size]
end Go.Proofs.YtoaabebgmdbjeaaGreatDoor
