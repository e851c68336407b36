/- A part of the proof: GridShift, CursorSpec, ModesSpec, PenSpec, CharsetSpec, SourceSpec, ParseSpec, ParseMore, UtfLemmas, SeqSpec, EventSpec. -/
import Derived.Test.YtoaabebgmdbjeaaGreatDoorTa07
set_option maxRecDepth 100000
set_option maxHeartbeats 16000000
set_option linter.unusedVariables false
namespace Go.Proofs.YtoaabebgmdbjeaaGreatDoor.PG
def Loose (h:Nat->Cl) (m:Nat):Prop:= ∀j,j<m->CX (pn (h j))/\
 ((kd (h j)=0/\C.width (rn (h j))=1)\/(kd (h j)=1/\C.width (rn (h j))=2/\(j+1<m->kd (h (j+1))=2->pn (h (j+1))=pn (h j)))\/(kd (h j)=2/\rn (h j)=0))
theorem OG {h:Nat->Cl} {m:Nat} (hl:Loose h m):Bd (mend h m) m:=by
 intro j hj
 have hkind: ∀i,kd (mend h m i)=(if (kd (h i)=1/\ ¬(i+1<m/\kd (h (i+1))=2))\/(kd (h i)=2/\ ¬(0<i/\kd (h (i-1))=1)) then 0 else kd (h i)):=fun i=>by
  unfold mend
  split<;>rfl
 have hpn: ∀i,pn (mend h m i)=pn (h i):=fun i=>by
  unfold mend
  split<;>rfl
 refine⟨by rw [hpn];exact(hl j hj).1,?_⟩
 by_cases hb:(kd (h j)=1/\ ¬(j+1<m/\kd (h (j+1))=2))\/(kd (h j)=2/\ ¬(0<j/\kd (h (j-1))=1))
 ·left
  refine⟨by rw [hkind,if_pos hb],?_⟩
  unfold mend
  rw [if_pos hb]
  exact C8
 ·have hm:mend h m j=h j:=by unfold mend;rw [if_neg hb]
  rw [hm]
  rcases(hl j hj).2 with ⟨h0,h1⟩ | ⟨h1,h2,h3⟩ | ⟨h1,h2⟩
  ·exact .inl ⟨h0,h1⟩
  ·right;left
   have hn:j+1<m/\kd (h (j+1))=2:=by
    by_cases hx:j+1<m/\kd (h (j+1))=2
    ·exact hx
    ·exact absurd (.inl ⟨h1,hx⟩) hb
   refine⟨h1,h2,hn.1,?_,by rw [hpn];exact h3 hn.1 hn.2⟩
   rw [hkind,if_neg,hn.2]
   rintro (⟨a,_⟩ | ⟨_,b⟩)
   ·omega
   ·exact b ⟨by omega,by rw [Nat.add_sub_cancel];exact h1⟩
  ·right;right
   have hn:0<j/\kd (h (j-1))=1:=by
    by_cases hx:0<j/\kd (h (j-1))=1
    ·exact hx
    ·exact absurd (.inr ⟨h1,hx⟩) hb
   refine⟨h1,h2,hn.1,?_⟩
   rw [hkind,if_neg,hn.2]
   rintro (⟨_,b⟩ | ⟨a,_⟩)
   ·exact b ⟨by omega,by rw [show j-1+1=j from by omega];exact h1⟩
   ·omega
def parted (f:Nat->Cl) (c:Nat) (j:Nat):Cl:=if kd (f c)=2/\0<c/\(j=c\/j+1=c) then blank (pn (f j)) else f j
def shifted (f:Nat->Cl) (K c:Nat) (n:Int) (p:Pn) (j:Nat):Cl:=if j<c then parted f c j else if (c:Int)<=j-n/\(j:Int)-n<K then parted f c ((j:Int)-n).toNat else blank p
def Bq (g:Gr) (r c:Nat) (n:Int) (p:Pn):Gr:=if r<g.rows/\c<g.AB then ⟨g.rows,g.AB,fun i j=>if i=r then mend (shifted (g.f r) g.AB c n p) g.AB j else g.f i j⟩ else g
def Al (g:Gr) (t b:Nat) (n:Int) (p:Pn):Gr:=if b<g.rows/\t<=b then ⟨g.rows,g.AB,fun i j=>if t<=i/\i<=b then (if (t:Int)<=i+n/\(i:Int)+n<=b then g.f ((i:Int)+n).toNat j else blank p) else g.f i j⟩ else g
theorem Ms {f:Nat->Cl} {K c:Nat} (hf:Bd f K) (hc:c<K):Loose (parted f c) K/\ ∀j,j+1=c->kd (parted f c j)≠1:=by
 constructor
 ·intro j hj
  have hr:=hf j hj
  unfold parted
  by_cases h:kd (f c)=2/\0<c/\(j=c\/j+1=c)
  ·rw [if_pos h]
   exact⟨hr.1,.inl ⟨rfl,C8⟩⟩
  ·rw [if_neg h]
   refine⟨hr.1,?_⟩
   rcases hr.2 with k | ⟨k1,k2,k3,k4,k5⟩ | ⟨k1,k2,k3,k4⟩
   ·exact .inl k
   ·refine .inr (.inl ⟨k1,k2,fun _=>?_⟩)
    split
    ·intro h0;rw [Gp] at h0;omega
    ·exact fun _=>k5
   ·exact .inr (.inr ⟨k1,k2⟩)
 ·intro j hj hk
  unfold parted at hk
  by_cases h:kd (f c)=2/\0<c/\(j=c\/j+1=c)
  ·rw [if_pos h,Gp] at hk
   omega
  ·rw [if_neg h] at hk
   have:=hf.left (j:=j) (by omega) hk
   rw [hj] at this
   exact h ⟨this.2.2.1,by omega,.inr hj⟩
theorem LW {f:Nat->Cl} {K c:Nat} (n:Int) {p:Pn} (hf:Bd f K) (hc:c<K) (hp:CX p):Loose (shifted f K c n p) K:=by
 obtain⟨hl,hn⟩:=Ms hf hc
 intro j hj
 by_cases h1:j<c
 ·have e:shifted f K c n p j=parted f c j:=if_pos h1
  rw [e]
  have hr:=hl j hj
  refine⟨hr.1,?_⟩
  rcases hr.2 with k | ⟨k1,k2,k3⟩ | k
  ·exact .inl k
  ·refine .inr (.inl ⟨k1,k2,fun hj1=>?_⟩)
   by_cases h2:j+1<c
   ·have e2:shifted f K c n p (j+1)=parted f c (j+1):=if_pos h2
    rw [e2]
    exact k3 hj1
   ·exact absurd k1 (hn j (by omega))
  ·exact .inr (.inr k)
 ·by_cases h2:(c:Int)<=j-n/\(j:Int)-n<K
  ·have e:shifted f K c n p j=parted f c ((j:Int)-n).toNat:=by unfold shifted;rw [if_neg h1,if_pos h2]
   rw [e]
   have hr:=hl ((j:Int)-n).toNat (by omega)
   refine⟨hr.1,?_⟩
   rcases hr.2 with k | ⟨k1,k2,k3⟩ | k
   ·exact .inl k
   ·refine .inr (.inl ⟨k1,k2,fun hj1=>?_⟩)
    by_cases h3:(c:Int)<=(j+1:Nat)-n/\((j+1:Nat):Int)-n<K
    ·have e2:shifted f K c n p (j+1)=parted f c (((j:Int)-n).toNat+1):=by
      unfold shifted
      rw [if_neg (by omega),if_pos h3,show(((j+1:Nat):Int)-n).toNat=((j:Int)-n).toNat+1 from by omega]
     rw [e2]
     exact k3 (by omega)
    ·have e2:shifted f K c n p (j+1)=blank p:=by unfold shifted;rw [if_neg (by omega),if_neg h3]
     rw [e2,Gp]
     intro h0
     omega
   ·exact .inr (.inr k)
  ·have e:shifted f K c n p j=blank p:=by unfold shifted;rw [if_neg h1,if_neg h2]
   rw [e]
   exact⟨hp,.inl ⟨rfl,C8⟩⟩
theorem Mt {g:Gr} (h:BF g) {p:Pn} (hp:CX p) (r c:Nat) (n:Int):BF (Bq g r c n p):=by
 unfold Bq
 by_cases hc:r<g.rows/\c<g.AB
 ·rw [if_pos hc]
  refine⟨h.1,h.2.1,h.2.2.1,h.2.2.2.1,fun i hi=>?_⟩
  by_cases hir:i=r
  ·subst hir
   simp only [if_true]
   exact OG (LW n (h.2.2.2.2 i hi) hc.2 hp)
  ·simp only [if_neg hir]
   exact h.2.2.2.2 i hi
 ·rw [if_neg hc];exact h
theorem EU {g:Gr} (h:BF g) {p:Pn} (hp:CX p) (t b:Nat) (n:Int):BF (Al g t b n p):=by
 unfold Al
 by_cases hc:b<g.rows/\t<=b
 ·rw [if_pos hc]
  refine⟨h.1,h.2.1,h.2.2.1,h.2.2.2.1,fun i hi=>?_⟩
  by_cases hir:t<=i/\i<=b
  ·simp only [if_pos hir]
   by_cases hn:(t:Int)<=i+n/\(i:Int)+n<=b
   ·simp only [if_pos hn]
    exact h.2.2.2.2 _ (by omega)
   ·simp only [if_neg hn]
    exact Gq p hp g.AB
  ·simp only [if_neg hir]
   exact h.2.2.2.2 i hi
 ·rw [if_neg hc];exact h
theorem Gd (g:Gr) (r c:Nat) (n:Int) (p:Pn):(Bq g r c n p).rows=g.rows/\(Bq g r c n p).AB=g.AB:=by
 unfold Bq
 split<;>exact⟨rfl,rfl⟩
theorem DJ (g:Gr) (t b:Nat) (n:Int) (p:Pn):(Al g t b n p).rows=g.rows/\(Al g t b n p).AB=g.AB:=by
 unfold Al
 split<;>exact⟨rfl,rfl⟩
theorem TU {g:Gr} {r c:Nat} {n:Int} {p:Pn} (h: ¬(r<g.rows/\c<g.AB)):Bq g r c n p=g:=if_neg h
theorem QE {g:Gr} {t b:Nat} {n:Int} {p:Pn} (h: ¬(b<g.rows/\t<=b)):Al g t b n p=g:=if_neg h
def Dy (g:Gr) (r c n:Int) (p:Pn):Gr:=if 0<=r/\0<=c then Bq g r.toNat c.toNat n p else g
def Cc (g:Gr) (t b n:Int) (p:Pn):Gr:=if 0<=t/\0<=b then Al g t.toNat b.toNat n p else g
theorem Kn {g:Gr} {r c n:Int} {p:Pn} (h: ¬(0<=r/\r<g.rows/\0<=c/\c<g.AB)):Dy g r c n p=g:=by
 unfold Dy
 split
 ·exact TU (by omega)
 ·rfl
theorem Jt {g:Gr} {t b n:Int} {p:Pn} (h: ¬(0<=t/\t<=b/\b<g.rows)):Cc g t b n p=g:=by
 unfold Cc
 split
 ·exact QE (by omega)
 ·rfl
def Bh (g:Gr) (r c what:Nat) (p:Pn):Gr:=⟨g.rows,g.AB,fun i j=>
 if what=2\/(what=0/\r<i)\/(what=1/\i<r) then blank p
 else if i=r then mend (EY (g.f r) (if what=0 then c else 0) (if what=1 then c+1 else g.AB) p) g.AB j else g.f i j⟩
theorem Mv {g:Gr} (h:BF g) {p:Pn} (hp:CX p) (r c what:Nat):BF (Bh g r c what p):=by
 refine⟨h.1,h.2.1,h.2.2.1,h.2.2.2.1,fun i hi=>?_⟩
 show Bd (fun j=>if what=2\/(what=0/\r<i)\/(what=1/\i<r) then blank p else if i=r then _ else g.f i j) g.AB
 by_cases h1:what=2\/(what=0/\r<i)\/(what=1/\i<r)
 ·simp only [if_pos h1]
  exact Gq p hp _
 ·simp only [if_neg h1]
  by_cases h2:i=r
  ·subst h2
   simp only [if_true]
   exact KN (h.2.2.2.2 i hi) _ _ hp
  ·simp only [if_neg h2]
   exact h.2.2.2.2 i hi
theorem TV (g:Gr) (r c:Nat) (p:Pn):Alike (Bh g r c 2 p) (newG g.rows g.AB p):=by
 refine⟨rfl,rfl,fun i j _ _=>?_⟩
 unfold Bh newG
 simp
def Ri (f:Nat->Cl) (n:Nat):Prop:= ∀j,j<n->kd (f j)=0
def Bb (g:Gr) (r c what:Int) (p:Pn):Gr:=if (0<=r/\r<g.rows/\0<=c/\c<g.AB)/\0<=what/\what<=2 then Cm g r.toNat (if what=0 then c.toNat else 0) (if what=1 then c.toNat+1 else g.AB) p else g
def E9 (g:Gr) (r c what:Int) (p:Pn):Gr:=if (0<=r/\r<g.rows/\0<=c/\c<g.AB)/\0<=what/\what<=2 then Bh g r.toNat c.toNat what.toNat p else g
theorem OH {g:Gr} (h:BF g) {p:Pn} (hp:CX p) (r c what:Int):BF (Bb g r c what p):=by
 unfold Bb
 split
 ·exact Jm h hp _ _ _
 ·exact h
theorem Mw {g:Gr} (h:BF g) {p:Pn} (hp:CX p) (r c what:Int):BF (E9 g r c what p):=by
 unfold E9
 split
 ·exact Mv h hp _ _ _
 ·exact h
theorem Ia (g:Gr) (r c what:Int) (p:Pn):(Bb g r c what p).rows=g.rows/\(Bb g r c what p).AB=g.AB:=by
 unfold Bb
 split
 ·exact Ch ..
 ·exact⟨rfl,rfl⟩
theorem Ju (g:Gr) (r c what:Int) (p:Pn):(E9 g r c what p).rows=g.rows/\(E9 g r c what p).AB=g.AB:=by
 unfold E9
 split<;>exact⟨rfl,rfl⟩
end Go.Proofs.YtoaabebgmdbjeaaGreatDoor.PG
namespace Go.Proofs.YtoaabebgmdbjeaaGreatDoor.PG
theorem LX {f:Nat->Cl} {n:Nat} (h:Ri f n):runes f n=(List.range n).map fun j=>rn (f j):=by
 unfold runes
 rw [List.filter_eq_self.2 fun j hj=>by
  have:=h j (List.mem_range.1 hj)
  simp [this]]
def Rj (f:Nat->Cl) (s:List Int):Prop:= ∀j x,s[j]? =some x->f j=(x,0,plain)
theorem Rj.Yo {f:Nat->Cl} {s:List Int} (h:Rj f s):Ri f s.length:=fun j hj=>by
 rw [h j _ (List.getElem?_eq_getElem hj)]
 rfl
theorem Rj.runes {f:Nat->Cl} {s:List Int} (h:Rj f s):runes f s.length=s:=by
 rw [LX h.Yo]
 refine List.ext_getElem? fun j=>?_
 by_cases hj:j<s.length
 ·rw [List.getElem?_map,List.getElem?_range hj,List.getElem?_eq_getElem hj]
  simp only [Option.map_some]
  rw [h j _ (List.getElem?_eq_getElem hj)]
  rfl
 ·rw [List.getElem?_eq_none (by simp;omega),List.getElem?_eq_none (by omega)]
end Go.Proofs.YtoaabebgmdbjeaaGreatDoor.PG
namespace Go.Proofs.YtoaabebgmdbjeaaGreatDoor
open Go.RowKit
namespace SN
def Au (s:Sc):PG.Pn:=(-1,s.pen.2.1,0)
def DL (s:Sc):Sc:=if s.row=s.bot then (s.uG (PG.Al s.g s.top s.bot 1 (Au s))).u5 false else atS s ((s.row:Int)+1) s.col
def JE (s:Sc):Sc:=if s.row=s.top then (s.uG (PG.Al s.g s.top s.bot (-1) (Au s))).u5 false else atS s ((s.row:Int)-1) s.col
def upR (s:Sc) (n:Nat):Int:=if s.top<=s.row then max ((s.row:Int)-n) s.top else (s.row:Int)-n
def Rk (s:Sc) (n:Nat):Int:=if s.row<=s.bot then min ((s.row:Int)+n) s.bot else (s.row:Int)+n
def upS (s:Sc) (n:Nat):Sc:=atS s (upR s n) s.col
def II (s:Sc) (n:Nat):Sc:=atS s (Rk s n) s.col
def goR (s:Sc) (r:Int):Int:=if s.org=true then min ((s.top:Int)+r) s.bot else r
def goS (s:Sc) (r c:Int):Sc:=atS s (goR s r) c
def IJ (s:Sc):Sc:=goS s 0 0
def bA (s:Sc):Sv:=⟨s.row,s.col,s.pen,s.s0,s.s1,s.sh,s.org⟩
def Jv (s:Sc):Sc:=s.uV (bA s)
def Ko (s:Sc):Sc:=atS ((((s.uP s.sv.pen).uS s.sv.s0 s.sv.s1).u14 s.sv.sh).u16 s.sv.org) s.sv.row s.sv.col
theorem Kq (z:Int) {R:Nat} (h:1<=R):pin z R<R:=by
 unfold pin
 omega
theorem Mx {r R:Nat} (h:r<R):pin r R=r:=by
 unfold pin
 omega
theorem Cw {s:Sc} (h:Ac s) (r c:Int):Ac (atS s r c) where
 g:=h.g
 row:=Kq r h.g.1
 col:=Kq c h.g.2.2.1
 bot:=h.bot
 top:=h.top
 pen:=h.pen
 tabs:=h.tabs
 set:=h.set
 pend:=fun h=>nomatch h
 sv:=h.sv
theorem Bj {s:Sc} (h:Ac s):PG.CX (Au s):=by
 have:=C.F6.1 h.pen
 exact C.F6.2 ⟨(by decide:C.col (-1)=true),this.2.1,by show(0:Int)<=0;omega,by show(0:Int)<=255;omega⟩
theorem G7 {s:Sc} (h:Ac s) (n:Int):Ac ((s.uG (PG.Al s.g s.top s.bot n (Au s))).u5 false):=by
 obtain⟨e1,e2⟩:=PG.DJ s.g s.top s.bot n (Au s)
 generalize hG:PG.Al s.g s.top s.bot n (Au s)=G at e1 e2
 have hg:PG.BF G:=hG▸PG.EU h.g (Bj h) _ _ _
 refine⟨hg,?_,?_,?_,?_,h.pen,h.tabs,h.set,(fun h=>nomatch h),?_⟩
 ·show s.row<G.rows
  rw [e1]
  exact h.row
 ·show s.col<G.AB
  rw [e2]
  exact h.col
 ·show s.bot<G.rows
  rw [e1]
  exact h.bot
 ·show s.top<s.bot\/(G.rows=1/\s.top=0/\s.bot=0)
  rw [e1]
  exact h.top
 ·show Iu G.rows G.AB s.sv
  rw [e1,e2]
  exact h.sv
theorem Ib {s:Sc} (h:Ac s):Ac (DL s):=by
 unfold DL
 split
 ·exact G7 h 1
 ·exact Cw h _ _
theorem QF {s:Sc} (h:Ac s):Ac (JE s):=by
 unfold JE
 split
 ·exact G7 h (-1)
 ·exact Cw h _ _
theorem Kr {s:Sc} (h:Ac s):Ac (Jv s):={h with sv:=⟨h.row,h.col,h.pen,h.set⟩}
theorem Kt {s:Sc} (h:Ac s):Ac (Ko s) where
 g:=h.g
 row:=Kq _ h.g.1
 col:=Kq _ h.g.2.2.1
 bot:=h.bot
 top:=h.top
 pen:=h.sv.pen
 tabs:=h.tabs
 set:=h.sv.set
 pend:=fun h=>nomatch h
 sv:=h.sv
theorem Cn {s:Sc} (h:Ac s):s.top<=s.bot:=by
 rcases h.top with h | ⟨_,h1,h2⟩<;>omega
end SN
end Go.Proofs.YtoaabebgmdbjeaaGreatDoor
namespace Go.Proofs.YtoaabebgmdbjeaaGreatDoor
open Go.RowKit
namespace SN
def Eb (s:Sc) (n:Int) (on:Bool):Sc:=if n=1 then s.u18 on else if n=6 then IJ (s.u16 on) else if n=7 then (s.u15 on).u5 (s.pend&&on) else if n=25 then s.u17 on else s
def Rl (s:Sc) (n:Int):Bool:=if n=1 then s.keys else if n=6 then s.org else if n=7 then s.wrap else s.shown
def DZ (n:Int):Prop:=n=1\/n=6\/n=7\/n=25
instance (n:Int):Decidable (DZ n):=inferInstanceAs (Decidable (n=1\/n=6\/n=7\/n=25))
theorem M0 (s:Sc) (on:Bool):Eb s 7 on=(s.u15 on).u5 (s.pend&&on):=rfl
theorem Yp (s:Sc) {n:Int} (on:Bool) (h: ¬DZ n):Eb s n on=s:=by
 unfold DZ at h
 unfold Eb
 rw [if_neg (by omega),if_neg (by omega),if_neg (by omega),if_neg (by omega)]
theorem Lx {s:Sc} (h:Ac s) (b:Bool):Ac (s.u16 b):=⟨h.g,h.row,h.col,h.bot,h.top,h.pen,h.tabs,h.set,h.pend,h.sv⟩
theorem FC {s:Sc} (h:Ac s) (n:Int) (on:Bool):Ac (Eb s n on):=by
 unfold Eb
 split
 ·exact⟨h.g,h.row,h.col,h.bot,h.top,h.pen,h.tabs,h.set,h.pend,h.sv⟩
 ·split
  ·exact Cw (Lx h on) _ _
  ·split
   ·refine⟨h.g,h.row,h.col,h.bot,h.top,h.pen,h.tabs,h.set,fun e=>?_,h.sv⟩
    have e':(s.pend&&on)=true:=e
    rw [Bool.and_eq_true] at e'
    exact⟨e'.2,(h.pend e'.1).2⟩
   ·split
    ·exact⟨h.g,h.row,h.col,h.bot,h.top,h.pen,h.tabs,h.set,h.pend,h.sv⟩
    ·exact h
theorem TW {n:Int} (h:DZ n) (s:Sc) (on:Bool):Rl (Eb s n on) n=on:=by
 rcases h with rfl | rfl | rfl | rfl<;>rfl
theorem OI {n m:Int} (h:DZ n) (h':DZ m) (hne:m≠n) (s:Sc) (on:Bool):Rl (Eb s n on) m=Rl s m:=by
 rcases h with rfl | rfl | rfl | rfl<;>rcases h' with rfl | rfl | rfl | rfl<;>first | rfl | exact absurd rfl hne
end SN
end Go.Proofs.YtoaabebgmdbjeaaGreatDoor
namespace Go.Proofs.YtoaabebgmdbjeaaGreatDoor.PS
structure Pn where
 fo:Int
 ba:Int
 fl:Nat
def plain:Pn:=⟨-1, -1,0⟩
def F4 (n:Nat):Nat:= [0,1,2,4,8,16,0,32,64,128].getD n 0
theorem M4 (n:Nat):F4 n<256:=by
 unfold F4
 rcases Nat.lt_or_ge n 10 with h | h
 ·have: ∀m,m<10-> [0,1,2,4,8,16,0,32,64,128].getD m 0<256:=by decide
  exact this n h
 ·rw [List.getD_eq_getElem?_getD,List.getElem?_eq_none (by simpa using h)]
  decide
def pos (x:Int):Nat:=(max x 0).toNat
def one (p:Pn) (n:Nat):Pn:=
 if n=0 then plain
 else if n<=9 then ⟨p.fo,p.ba,p.fl||| F4 n⟩
 else if n=22 then ⟨p.fo,p.ba,p.fl&&& 252⟩
 else if 23<=n/\n<=29 then ⟨p.fo,p.ba,p.fl&&& (255-F4 (n-20))⟩
 else if 30<=n/\n<=37 then ⟨(n:Int)-30,p.ba,p.fl⟩
 else if 40<=n/\n<=47 then ⟨p.fo,(n:Int)-40,p.fl⟩
 else if 90<=n/\n<=97 then ⟨(n:Int)-82,p.ba,p.fl⟩
 else if 100<=n/\n<=107 then ⟨p.fo,(n:Int)-92,p.fl⟩
 else if n=39 then ⟨-1,p.ba,p.fl⟩
 else if n=49 then ⟨p.fo, -1,p.fl⟩
 else p
def Ok (p:Pn):Prop:=p.fl<256
theorem fu {a b:Nat} (ha:a<256) (hb:b<256):a||| b<256:=Nat.or_lt_two_pow (n:=8) ha hb
theorem WU {a b:Nat} (ha:a<256):a&&& b<256:=Nat.lt_of_le_of_lt Nat.and_le_left ha
theorem F7:Ok plain:=by unfold Ok plain;decide
theorem WV {p:Pn} (h:Ok p) (n:Nat):Ok (one p n):=by
 unfold one
 repeat' split
 all_goals first | exact F7 | exact fu h (M4 _) | exact WU h | exact h
def wide:List Int->Option Int × Nat
 | [] =>(none,0)
 | [_] =>(none,1)
 | [a,b] =>(if a=5/\pos b<=255 then some (pos b:Nat) else none,2)
 | [a,b,c] =>if a=5 then (if pos b<=255 then some (pos b:Nat) else none,2) else (none,3)
 | a::b::c::d::r=>if a=5 then (if pos b<=255 then some (pos b:Nat) else none,2)
  else if a=2 then (if pos b<=255/\pos c<=255/\pos d<=255 then some (16777216+(pos b:Nat)*65536+(pos c:Nat)*256+(pos d:Nat)) else none,4)
  else (none,r.length+4)
theorem Hz (a b c d:Int) (r:List Int):wide (a::b::c::d::r)=(if a=5 then (if pos b<=255 then some ((pos b:Nat):Int) else none,2) else if a=2 then (if pos b<=255/\pos c<=255/\pos d<=255 then some (16777216+((pos b:Nat):Int)*65536+((pos c:Nat):Int)*256+((pos d:Nat):Int)) else none,4) else (none,r.length+4):Option Int × Nat):=rfl
theorem TY (b:Int) (hb:pos b<=255): ∀r:List Int,wide (5::b::r)=(some ((pos b:Nat):Int),2)
 | [] =>by
  show(if (5:Int)=5/\pos b<=255 then some ((pos b:Nat):Int) else none,2)=_
  rw [if_pos ⟨rfl,hb⟩]
 | [_] =>by
  show(if (5:Int)=5 then (if pos b<=255 then some ((pos b:Nat):Int) else none,2) else (none,3))=_
  rw [if_pos rfl,if_pos hb]
 | c::d::r=>by rw [Hz,if_pos rfl,if_pos hb]
def QG (p:Pn):Option Int->Pn
 | none=>p
 | some c=>⟨c,p.ba,p.fl⟩
def back (p:Pn):Option Int->Pn
 | none=>p
 | some c=>⟨p.fo,c,p.fl⟩
theorem Yq {p:Pn} (h:Ok p): ∀o,Ok (QG p o)
 | none=>h
 | some _=>h
theorem Yr {p:Pn} (h:Ok p): ∀o,Ok (back p o)
 | none=>h
 | some _=>h
def app:Nat->Pn->List Int->Pn
 | _,p, [] =>p
 | 0,p,_::_=>p
 | k+1,p,x::l=>if pos x=38 then app k (QG p (wide l).1) (l.drop (wide l).2)
  else if pos x=48 then app k (back p (wide l).1) (l.drop (wide l).2)
  else app k (one p (pos x)) l
theorem FE (k:Nat) (p:Pn) (x:Int) (l:List Int):app (k+1) p (x::l)=if pos x=38 then app k (QG p (wide l).1) (l.drop (wide l).2) else if pos x=48 then app k (back p (wide l).1) (l.drop (wide l).2) else app k (one p (pos x)) l:=rfl
theorem KF (k:Nat) (p:Pn):app k p [] =p:=by cases k<;>rfl
theorem M5: ∀(k:Nat) {p:Pn} (l:List Int),Ok p->Ok (app k p l)
 | _,p, [],h=>by rw [KF];exact h
 | 0,p,_::_,h=>h
 | k+1,p,x::l,h=>by
  rw [FE]
  split
  ·exact M5 k _ (Yq h _)
  ·split
   ·exact M5 k _ (Yr h _)
   ·exact M5 k _ (WV h _)
theorem G8: ∀(k j:Nat) (p:Pn) (l:List Int),l.length<=k->l.length<=j->app k p l=app j p l
 | k,j,p, [],_,_=>by rw [KF,KF]
 | 0,j,p,x::l,h,_=>by simp at h
 | k+1,0,p,x::l,_,h=>by simp at h
 | k+1,j+1,p,x::l,h1,h2=>by
  simp only [List.length_cons] at h1 h2
  rw [FE,FE]
  split
  ·exact G8 k j _ _ (by rw [List.length_drop];omega) (by rw [List.length_drop];omega)
  ·split
   ·exact G8 k j _ _ (by rw [List.length_drop];omega) (by rw [List.length_drop];omega)
   ·exact G8 k j _ _ (by omega) (by omega)
def sgr (p:Pn) (l:List Int):Pn:=app l.length p l
def apply (p:Pn) (l:List Int):Pn:=if l= [] then plain else sgr p l
theorem bB {p:Pn} (h:Ok p) (l:List Int):Ok (sgr p l):=M5 _ _ h
theorem WW {p:Pn} (h:Ok p) (l:List Int):Ok (apply p l):=by
 unfold apply
 split
 ·exact F7
 ·exact bB h l
theorem Yt {x:Int} (h1:pos x≠38) (h2:pos x≠48) (p:Pn) (l:List Int):sgr p (x::l)=sgr (one p (pos x)) l:=by
 unfold sgr
 show app (l.length+1) p (x::l)=_
 rw [FE]
 rw [if_neg h1,if_neg h2]
theorem WX {x:Int} (h1:pos x=38) (p:Pn) (l:List Int):sgr p (x::l)=sgr (QG p (wide l).1) (l.drop (wide l).2):=by
 unfold sgr
 show app (l.length+1) p (x::l)=_
 rw [FE]
 rw [if_pos h1]
 exact G8 _ _ _ _ (by rw [List.length_drop];exact Nat.sub_le _ _) (Nat.le_refl _)
theorem WY {x:Int} (h1:pos x=48) (p:Pn) (l:List Int):sgr p (x::l)=sgr (back p (wide l).1) (l.drop (wide l).2):=by
 unfold sgr
 show app (l.length+1) p (x::l)=_
 rw [FE]
 rw [if_neg (by omega),if_pos h1]
 exact G8 _ _ _ _ (by rw [List.length_drop];exact Nat.sub_le _ _) (Nat.le_refl _)
def Col (c:Int):Prop:=c= -1\/(0<=c/\c<=255)\/(16777216<=c/\c<33554432)
end Go.Proofs.YtoaabebgmdbjeaaGreatDoor.PS
namespace Go.Proofs.YtoaabebgmdbjeaaGreatDoor
namespace CH
def drawn:List Int:= [9670,9618,9225,9228,9229,9226,176,177,9252,9227,9496,9488,9484,9492,9532,9146,9147,9472,9148,9149,9500,9508,9524,9516,9474,8804,8805,960,8800,163,183]
def bD:List Int:= [42,35,72,70,67,76,111,43,78,86,43,43,43,43,43,45,45,45,45,95,43,43,43,43,124,60,62,112,33,76,46]
def KG (k:Nat):Int:=drawn.getD k 0
def Yu (k:Nat):Int:=bD.getD k 0
def draw (b:Int):Int:=if b=95 then 32 else if 96<=b/\b<=126 then KG (b-96).toNat else b
def KH:List Int->Int->Nat
 | [],_=>0
 | d::l,r=>if d=r then 0 else KH l r+1
def place (r:Int):Nat:=KH drawn r
def plain (r:Int):Int:=if 32<=r/\r<127 then r else if place r<31 then Yu (place r) else 63
theorem Ku: ∀(l:List Int) (r:Int),KH l r<=l.length
 | [],_=>Nat.le_refl _
 | d::l,r=>by
  unfold KH
  split
  ·exact Nat.zero_le _
  ·have:=Ku l r
   simp only [List.length_cons]
   omega
theorem Kv (r:Int):place r<=31:=Ku drawn r
end CH
end Go.Proofs.YtoaabebgmdbjeaaGreatDoor
namespace Go.Proofs.YtoaabebgmdbjeaaGreatDoor
open Go.RowKit
namespace PS
theorem M6 {n:Int} (h0:0<=n) (h:n<=255):Col n:=.inr (.inl ⟨h0,h⟩)
theorem QH:Col (-1):=.inl rfl
theorem Yv {p:Pn} (h1:Col p.fo) (h2:Col p.ba) (n:Nat):Col (one p n).fo/\Col (one p n).ba:=by
 unfold one
 repeat' split
 all_goals (refine⟨?_,?_⟩<;>(try dsimp only [plain])<;>first | exact h1 | exact h2 | exact QH | exact M6 (by omega) (by omega))
theorem OJ: ∀(l:List Int) (c:Int),(wide l).1=some c->Col c
 | [],c,h=>by simp [wide] at h
 | [_],c,h=>by simp [wide] at h
 | [a,b],c,h=>by
  simp only [wide] at h
  split at h
  ·rename_i hh
   simp only [Option.some.injEq] at h
   subst h
   exact M6 (by omega) (by omega)
  ·cases h
 | [a,b,d],c,h=>by
  simp only [wide] at h
  split at h
  ·split at h
   ·simp only [Option.some.injEq] at h
    subst h
    exact M6 (by omega) (by omega)
   ·cases h
  ·cases h
 | a::b::d::e::r,c,h=>by
  simp only [wide] at h
  split at h
  ·split at h
   ·simp only [Option.some.injEq] at h
    subst h
    exact M6 (by omega) (by omega)
   ·cases h
  ·repeat' (split at h)
   all_goals first | (cases h;done) | (simp only [Option.some.injEq] at h;subst h;exact .inr (.inr (by omega)))
theorem WZ {p:Pn} (h1:Col p.fo) (h2:Col p.ba) {o:Option Int} (ho: ∀c,o=some c->Col c):Col (QG p o).fo/\Col (QG p o).ba:=by
 cases o with
 | none=>exact⟨h1,h2⟩
 | some c=>exact⟨ho c rfl,h2⟩
theorem Wd {p:Pn} (h1:Col p.fo) (h2:Col p.ba) {o:Option Int} (ho: ∀c,o=some c->Col c):Col (back p o).fo/\Col (back p o).ba:=by
 cases o with
 | none=>exact⟨h1,h2⟩
 | some c=>exact⟨h1,ho c rfl⟩
theorem KI: ∀(k:Nat) {p:Pn} (l:List Int),Col p.fo->Col p.ba->Col (app k p l).fo/\Col (app k p l).ba
 | _,p, [],h1,h2=>by rw [KF];exact⟨h1,h2⟩
 | 0,p,_::_,h1,h2=>⟨h1,h2⟩
 | k+1,p,x::l,h1,h2=>by
  rw [FE]
  split
  ·have:=WZ h1 h2 (OJ l)
   exact KI k _ this.1 this.2
  ·split
   ·have:=Wd h1 h2 (OJ l)
    exact KI k _ this.1 this.2
   ·have:=Yv h1 h2 (pos x)
    exact KI k _ this.1 this.2
theorem Ta {p:Pn} (h1:Col p.fo) (h2:Col p.ba) (l:List Int):Col (apply p l).fo/\Col (apply p l).ba:=by
 unfold apply
 split
 ·exact⟨QH,QH⟩
 ·exact KI _ _ h1 h2
end PS
namespace SN
def Wh (p:PG.Pn) (l:List Int):PG.Pn:=((PS.apply ⟨p.1,p.2.1,p.2.2.toNat⟩ l).fo,(PS.apply ⟨p.1,p.2.1,p.2.2.toNat⟩ l).ba,((PS.apply ⟨p.1,p.2.1,p.2.2.toNat⟩ l).fl:Nat))
theorem KJ {c:Int}:C.col c=true<->PS.Col c:=by
 unfold C.col PS.Col
 simp
theorem Tc {p:PG.Pn} (h:PG.CX p) (l:List Int):PG.CX (Wh p l):=by
 obtain⟨h1,h2,h3,h4⟩:=C.F6.1 h
 have c:=PS.Ta (p:=⟨p.1,p.2.1,p.2.2.toNat⟩) (KJ.1 h1) (KJ.1 h2) l
 have o:=PS.WW (p:=⟨p.1,p.2.1,p.2.2.toNat⟩) (show p.2.2.toNat<256 by omega) l
 unfold PS.Ok at o
 refine C.F6.2 ⟨KJ.2 c.1,KJ.2 c.2,?_,?_⟩
 ·show(0:Int)<=((PS.apply ⟨p.1,p.2.1,p.2.2.toNat⟩ l).fl:Nat)
  omega
 ·show(((PS.apply ⟨p.1,p.2.1,p.2.2.toNat⟩ l).fl:Nat):Int)<=255
  omega
def Wi (s:Sc):Int:=if s.sh=0 then s.s0 else s.s1
def F5 (s:Sc) (x:Int):Int:=if Wi s=48/\95<=x/\x<=126 then CH.draw x else x
theorem Td {s:Sc} {r p:Int} (h0:0<=r) (h1:r<=1114111) (h:F5 s r=p): -2147483648<=p/\p<=2147483647:=by
 subst h
 unfold F5
 split
 ·rename_i hh
  have e: ∀k:Fin 32, -2147483648<=CH.draw (95+(k.val:Int))/\CH.draw (95+(k.val:Int))<=2147483647:=by decide
  have:=e ⟨(r-95).toNat,by omega⟩
  rw [show(95+(((⟨(r-95).toNat,by omega⟩:Fin 32).val:Nat):Int))=r by show(95+(((r-95).toNat:Nat):Int))=r;omega] at this
  exact this
 ·omega
def JF (s:Sc) (w:Nat):Sc:=if s.wrap=true/\(s.pend=true\/s.g.AB<s.col+w) then DL (s.u4 0) else s
def Da (s:Sc) (w:Nat):Nat:=min s.col (s.g.AB-w)
def Di (s:Sc) (x:Int) (w:Nat):Sc:=
 if s.g.AB<=Da s w+w then ((s.uG (PG.Dj s.g s.row (Da s w) x s.pen)).u4 (s.g.AB-1)).u5 s.wrap
 else ((s.uG (PG.Dj s.g s.row (Da s w) x s.pen)).u4 (Da s w+w)).u5 false
def Ic (s:Sc) (r:Int):Sc:=if C.width (F5 s r)=0\/(s.g.AB:Int)<C.width (F5 s r) then s else Di (JF s (C.width (F5 s r)).toNat) (F5 s r) (C.width (F5 s r)).toNat
def Ec (s:Sc) (b:Int):Sc:=
 if b=8 then atS s s.row ((s.col:Int)-1)
 else if b=9 then atS s s.row (TB.next s.tabs s.col s.g.AB)
 else if b=10\/b=11\/b=12 then DL s
 else if b=13 then atS s s.row 0
 else if b=14 then s.u14 1
 else if b=15 then s.u14 0
 else s
def Eh (s:Sc) (it fn:Int):Sc:=
 if it=40\/it=41 then (if fn=48\/fn=66 then (if it=40 then s.u12 fn else s.u13 fn) else s)
 else if it≠0 then s
 else if fn=55 then Jv s
 else if fn=56 then Ko s
 else if fn=68 then DL s
 else if fn=69 then DL (s.u4 0)
 else if fn=77 then JE s
 else if fn=72 then s.u11 (TB.F9 s.tabs s.col)
 else if fn=99 then full s.g.rows s.g.AB
 else if fn=61 then s.u19 true
 else if fn=62 then s.u19 false
 else s
def BO (l:List Int) (i:Nat) (d:Int):Int:=if l.getD i 0<1 then d else l.getD i 0
def IK (s:Sc) (fn:Int) (l:List Int):Option Sc:=
 if fn=65 then some (upS s (BO l 0 1).toNat)
 else if fn=66 then some (II s (BO l 0 1).toNat)
 else if fn=67 then some (atS s s.row ((s.col:Int)+BO l 0 1))
 else if fn=68 then some (atS s s.row ((s.col:Int)-BO l 0 1))
 else if fn=69 then some (atS s (Rk s (BO l 0 1).toNat) 0)
 else if fn=70 then some (atS s (upR s (BO l 0 1).toNat) 0)
 else if fn=71\/fn=96 then some (atS s s.row (BO l 0 1-1))
 else if fn=100 then some (goS s (BO l 0 1-1) s.col)
 else if fn=72\/fn=102 then some (goS s (BO l 0 1-1) (BO l 1 1-1))
 else none
def InM (s:Sc):Prop:=s.top<=s.row/\s.row<=s.bot
instance (s:Sc):Decidable (InM s):=inferInstanceAs (Decidable (_/\_))
def marginTop (l:List Int):Int:=BO l 0 1-1
def CQ (s:Sc) (l:List Int):Int:=min (BO l 1 s.g.rows) s.g.rows-1
def Ed (s:Sc) (fn:Int) (l:List Int):Sc:=
 if fn=74 then (s.uG (PG.E9 s.g s.row s.col (BO l 0 0) (Au s))).u5 false
 else if fn=75 then (s.uG (PG.Bb s.g s.row s.col (BO l 0 0) (Au s))).u5 false
 else if fn=76 then (if InM s then atS (s.uG (PG.Al s.g s.row s.bot (-(BO l 0 1)) (Au s))) s.row 0 else s)
 else if fn=77 then (if InM s then atS (s.uG (PG.Al s.g s.row s.bot (BO l 0 1) (Au s))) s.row 0 else s)
 else if fn=64 then (s.uG (PG.Bq s.g s.row s.col (BO l 0 1) (Au s))).u5 false
 else if fn=80 then (s.uG (PG.Bq s.g s.row s.col (-(BO l 0 1)) (Au s))).u5 false
 else if fn=88 then (s.uG (PG.Cm s.g s.row s.col (s.col+(BO l 0 1).toNat) (Au s))).u5 false
 else if fn=83 then s.uG (PG.Al s.g s.top s.bot (BO l 0 1) (Au s))
 else if fn=84 then s.uG (PG.Al s.g s.top s.bot (-(BO l 0 1)) (Au s))
 else if fn=109 then s.uP (Wh s.pen l)
 else if fn=114 then (if marginTop l<CQ s l then IJ ((s.u6 (marginTop l).toNat).u7 (CQ s l).toNat) else s)
 else if fn=103 then (if BO l 0 0=0 then s.u11 (TB.drop1 s.tabs s.col) else if BO l 0 0=3 then s.u11 0 else s)
 else if fn=115 then Jv s
 else if fn=117 then Ko s
 else s
def CS (s:Sc) (on:Bool) (l:List Int):Sc:=l.foldl (fun t n=>Eb t n on) s
def M7 (s:Sc) (pv it fn:Int) (l:List Int):Sc:=
 if it≠0\/(pv≠0/\pv≠63) then s
 else if pv=63 then (if fn=104 then CS s true l else if fn=108 then CS s false l else s)
 else (IK s fn l).getD (Ed s fn l)
def doS (s:Sc) (kd rn pv it fn:Int) (l:List Int):Sc:=
 if kd=1 then Ic s rn else if kd=2 then Ec s fn else if kd=3 then Eh s it fn else if kd=4 then M7 s pv it fn l else s
theorem FH {s:Sc} (h:Ac s) {G:PG.Gr} (hG:PG.BF G) (h1:G.rows=s.g.rows) (h2:G.AB=s.g.AB):Ac (s.uG G):=by
 refine⟨hG,?_,?_,?_,?_,h.pen,h.tabs,h.set,?_,?_⟩
 ·show s.row<G.rows
  rw [h1];exact h.row
 ·show s.col<G.AB
  rw [h2];exact h.col
 ·show s.bot<G.rows
  rw [h1];exact h.bot
 ·show s.top<s.bot\/(G.rows=1/\s.top=0/\s.bot=0)
  rw [h1];exact h.top
 ·show s.pend=true->s.wrap=true/\s.col+1=G.AB
  rw [h2];exact h.pend
 ·show Iu G.rows G.AB s.sv
  rw [h1,h2];exact h.sv
theorem JG {s:Sc} (h:Ac s):Ac (s.u5 false):=⟨h.g,h.row,h.col,h.bot,h.top,h.pen,h.tabs,h.set,(fun e=>nomatch e),h.sv⟩
theorem Wj {s:Sc} (h:Ac s) {c:Nat} (hc:c<s.g.AB):Ac ((s.u5 false).u4 c):=⟨h.g,h.row,hc,h.bot,h.top,h.pen,h.tabs,h.set,(fun e=>nomatch e),h.sv⟩
theorem L6 {s:Sc} (h:Ac s) {v:Int} (hv:v=0\/v=1):Ac (s.u14 v):=⟨h.g,h.row,h.col,h.bot,h.top,h.pen,h.tabs,⟨h.set.1,h.set.2.1,hv⟩,h.pend,h.sv⟩
theorem Jc {s:Sc} (h:Ac s) {t:Nat} (ht:TB.Ok t):Ac (s.u11 t):=⟨h.g,h.row,h.col,h.bot,h.top,h.pen,ht,h.set,h.pend,h.sv⟩
theorem L8 {s:Sc} (h:Ac s) (b:Bool):Ac (s.u19 b):=⟨h.g,h.row,h.col,h.bot,h.top,h.pen,h.tabs,h.set,h.pend,h.sv⟩
theorem Wl {s:Sc} (h:Ac s) {p:PG.Pn} (hp:PG.CX p):Ac (s.uP p):=⟨h.g,h.row,h.col,h.bot,h.top,hp,h.tabs,h.set,h.pend,h.sv⟩
theorem Rm (s:Sc):DL (s.u4 0)=DL ((s.u5 false).u4 0):=by
 unfold DL
 rfl
theorem Jw {s:Sc} (h:Ac s):Ac (DL (s.u4 0)):=by
 rw [Rm]
 exact Ib (Wj h h.g.2.2.1)
theorem Te (s:Sc):(DL s).g.rows=s.g.rows/\(DL s).g.AB=s.g.AB:=by
 unfold DL
 split
 ·exact PG.DJ s.g s.top s.bot 1 (Au s)
 ·exact⟨rfl,rfl⟩
theorem Kw {s:Sc} (h:Ac s) (w:Nat):Ac (JF s w):=by
 unfold JF
 split
 ·exact Jw h
 ·exact h
theorem Tf (s:Sc) (w:Nat):(JF s w).g.AB=s.g.AB:=by
 unfold JF
 split
 ·exact(Te (s.u4 0)).2
 ·rfl
theorem Ca (g:PG.Gr) (r c:Nat) (x:Int) (p:PG.Pn):(PG.Dj g r c x p).rows=g.rows/\(PG.Dj g r c x p).AB=g.AB:=by
 unfold PG.Dj
 split<;>exact⟨rfl,rfl⟩
theorem Ch (g:PG.Gr) (r a b:Nat) (p:PG.Pn):(PG.Cm g r a b p).rows=g.rows/\(PG.Cm g r a b p).AB=g.AB:=by
 unfold PG.Cm
 split<;>exact⟨rfl,rfl⟩
theorem QI {s:Sc} (h:Ac s) (x:Int) (w:Nat):Ac (Di s x w):=by
 obtain⟨e1,e2⟩:=Ca s.g s.row (Da s w) x s.pen
 have hg:=PG.Pb h.g h.pen s.row (Da s w) x
 have hc:=h.g.2.2.1
 unfold Di
 split
 ·refine⟨hg,?_,?_,?_,?_,h.pen,h.tabs,h.set,?_,?_⟩
  ·show s.row<(PG.Dj s.g s.row (Da s w) x s.pen).rows
   rw [e1];exact h.row
  ·show s.g.AB-1<(PG.Dj s.g s.row (Da s w) x s.pen).AB
   rw [e2];omega
  ·show s.bot<(PG.Dj s.g s.row (Da s w) x s.pen).rows
   rw [e1];exact h.bot
  ·show s.top<s.bot\/((PG.Dj s.g s.row (Da s w) x s.pen).rows=1/\s.top=0/\s.bot=0)
   rw [e1];exact h.top
  ·show s.wrap=true->s.wrap=true/\s.g.AB-1+1=(PG.Dj s.g s.row (Da s w) x s.pen).AB
   intro e
   rw [e2];exact⟨e,by omega⟩
  ·show Iu (PG.Dj s.g s.row (Da s w) x s.pen).rows (PG.Dj s.g s.row (Da s w) x s.pen).AB s.sv
   rw [e1,e2];exact h.sv
 ·refine⟨hg,?_,?_,?_,?_,h.pen,h.tabs,h.set,(fun e=>nomatch e),?_⟩
  ·show s.row<(PG.Dj s.g s.row (Da s w) x s.pen).rows
   rw [e1];exact h.row
  ·show Da s w+w<(PG.Dj s.g s.row (Da s w) x s.pen).AB
   rw [e2];omega
  ·show s.bot<(PG.Dj s.g s.row (Da s w) x s.pen).rows
   rw [e1];exact h.bot
  ·show s.top<s.bot\/((PG.Dj s.g s.row (Da s w) x s.pen).rows=1/\s.top=0/\s.bot=0)
   rw [e1];exact h.top
  ·show Iu (PG.Dj s.g s.row (Da s w) x s.pen).rows (PG.Dj s.g s.row (Da s w) x s.pen).AB s.sv
   rw [e1,e2];exact h.sv
theorem M8 {s:Sc} (h:Ac s) (r:Int):Ac (Ic s r):=by
 unfold Ic
 split
 ·exact h
 ·exact QI (Kw h _) _ _
theorem OL {s:Sc} (h:Ac s) (b:Int):Ac (Ec s b):=by
 unfold Ec
 split
 ·exact Cw h _ _
 split
 ·exact Cw h _ _
 split
 ·exact Ib h
 split
 ·exact Cw h _ _
 split
 ·exact L6 h (.inr rfl)
 split
 ·exact L6 h (.inl rfl)
 ·exact h
theorem Dz {P:Sc->Prop} {c:Prop} [Decidable c] {a:Sc} {o:Option Sc} (h1:P a) (h2: ∀t,o=some t->P t): ∀t,(if c then some a else o)=some t->P t:=by
 intro t ht
 split at ht
 ·cases ht
  exact h1
 ·exact h2 t ht
theorem Tg {t c:Nat} (h:TB.Ok t) (hc:c<60):TB.Ok (TB.F9 t c):=by
 unfold TB.Ok TB.F9 at*
 exact Nat.or_lt_two_pow (n:=64) h (Nat.pow_lt_pow_right (by omega) (by omega))
theorem QJ {t c:Nat} (h:TB.Ok t):TB.Ok (TB.drop1 t c):=Nat.lt_of_le_of_lt Nat.and_le_left h
theorem QK {s:Sc} (h:Ac s) (it fn:Int):Ac (Eh s it fn):=by
 have hfull:Ac (full s.g.rows s.g.AB):=IV h.g.1 h.g.2.1 h.g.2.2.1 h.g.2.2.2.1
 have Bp:=h.col
 have hk:=h.g.2.2.2.1
 unfold Eh
 split
 ·split
  ·rename_i hf
   split
   ·exact⟨h.g,h.row,h.col,h.bot,h.top,h.pen,h.tabs,⟨hf.symm,h.set.2.1,h.set.2.2⟩,h.pend,h.sv⟩
   ·exact⟨h.g,h.row,h.col,h.bot,h.top,h.pen,h.tabs,⟨h.set.1,hf.symm,h.set.2.2⟩,h.pend,h.sv⟩
  ·exact h
 split
 ·exact h
 split
 ·exact Kr h
 split
 ·exact Kt h
 split
 ·exact Ib h
 split
 ·exact Jw h
 split
 ·exact QF h
 split
 ·exact Jc h (Tg h.tabs (by omega))
 split
 ·exact hfull
 split
 ·exact L8 h _
 split
 ·exact L8 h _
 ·exact h
theorem OM {s:Sc} (h:Ac s) (fn:Int) (l:List Int): ∀t,IK s fn l=some t->Ac t:=by
 have hn: ∀t,(none:Option Sc)=some t->Ac t:=fun t e=>nomatch e
 have ha:=fun (r c:Int)=>Cw h r c
 unfold IK
 exact Dz (ha _ _) (Dz (ha _ _) (Dz (ha _ _) (Dz (ha _ _) (Dz (ha _ _) (Dz (ha _ _) (Dz (ha _ _) (Dz (ha _ _) (Dz (ha _ _) hn))))))))
theorem D9 {c:Prop} [Decidable c] {a b:Sc} (h1:Ac a) (h2:Ac b):Ac (if c then a else b):=by
 split
 ·exact h1
 ·exact h2
theorem OO {s:Sc} (h:Ac s) (fn:Int) (l:List Int):Ac (Ed s fn l):=by
 have hp:=Bj h
 have Bp:=h.col
 have hk:=h.g.2.2.2.1
 have sc:=fun (t b:Nat) (n:Int)=>FH h (PG.EU h.g hp t b n) (PG.DJ s.g t b n (Au s)).1 (PG.DJ s.g t b n (Au s)).2
 have sh:=fun (r c:Nat) (n:Int)=>JG (FH h (PG.Mt h.g hp r c n) (PG.Gd s.g r c n (Au s)).1 (PG.Gd s.g r c n (Au s)).2)
 have wi:=fun (r a b:Nat)=>JG (FH h (PG.Jm h.g hp r a b) (Ch s.g r a b (Au s)).1 (Ch s.g r a b (Au s)).2)
 have er:=fun (r c k:Int)=>JG (FH h (PG.Mw h.g hp r c k) (PG.Ju s.g r c k (Au s)).1 (PG.Ju s.g r c k (Au s)).2)
 have li:=fun (r c k:Int)=>JG (FH h (PG.OH h.g hp r c k) (PG.Ia s.g r c k (Au s)).1 (PG.Ia s.g r c k (Au s)).2)
 have hm:Ac (if marginTop l<CQ s l then IJ ((s.u6 (marginTop l).toNat).u7 (CQ s l).toNat) else s):=by
  split
  ·rename_i hm
   have h1:0<=marginTop l:=by
    unfold marginTop BO
    split<;>omega
   have h2:CQ s l<=(s.g.rows:Int)-1:=by
    unfold CQ
    omega
   have hR:=h.g.1
   exact Cw (s:=(s.u6 (marginTop l).toNat).u7 (CQ s l).toNat) ⟨h.g,h.row,h.col,(by show(CQ s l).toNat<s.g.rows;omega),.inl (by show(marginTop l).toNat<(CQ s l).toNat;omega),h.pen,h.tabs,h.set,h.pend,h.sv⟩ _ _
  ·exact h
 have h0:TB.Ok 0:=by unfold TB.Ok;omega
 unfold Ed
 exact D9 (er _ _ _) (D9 (li _ _ _) (D9 (D9 (Cw (sc _ _ _) _ _) h) (D9 (D9 (Cw (sc _ _ _) _ _) h) (D9 (sh _ _ _) (D9 (sh _ _ _) (D9 (wi _ _ _) (D9 (sc _ _ _) (D9 (sc _ _ _) (D9 (Wl h (Tc h.pen l)) (D9 hm (D9 (D9 (Jc h (QJ h.tabs)) (D9 (Jc h h0) h)) (D9 (Kr h) (D9 (Kt h) h)))))))))))))
theorem Gf {s:Sc} (h:Ac s) (on:Bool): ∀l:List Int,Ac (CS s on l):=by
 intro l
 unfold CS
 induction l generalizing s with
 | nil=>exact h
 | cons x l ih=>exact ih (FC h x on)
theorem QL {s:Sc} (h:Ac s) (pv it fn:Int) (l:List Int):Ac (M7 s pv it fn l):=by
 unfold M7
 split
 ·exact h
 split
 ·split
  ·exact Gf h true l
  ·split
   ·exact Gf h false l
   ·exact h
 ·cases e:IK s fn l with
  | none=>exact OO h fn l
  | some t=>exact OM h fn l t e
theorem EH {s:Sc} (h:Ac s) (kd rn pv it fn:Int) (l:List Int):Ac (doS s kd rn pv it fn l):=by
 unfold doS
 split
 ·exact M8 h rn
 split
 ·exact OL h fn
 split
 ·exact QK h it fn
 split
 ·exact QL h pv it fn l
 ·exact h
end SN
end Go.Proofs.YtoaabebgmdbjeaaGreatDoor
namespace Go.Proofs.YtoaabebgmdbjeaaGreatDoor.PA
def lasts:List Int:= [6,7,23,24,25,26,27,31,47,57,58,59,63,79,80,87,88,90,91,92,93,95,126,127]
def kinds:List Int:= [0,1,0,2,0,2,3,0,4,5,6,7,8,13,11,13,11,13,9,12,10,11,13,14]
def FI (k:Nat):Int:=lasts.getD k 0
def Jd (k:Nat):Int:=kinds.getD k 15
def place (b:Int):Nat:=(lasts.takeWhile (fun l=>l<b)).length
def cls (b:Int):Int:=Jd (place b)
def tab:List Int:= [
 0,0,0,0,0,0,0,0,0,0,0,0,0,0,0,0,
 32,32,0,2,16,16,16,16,16,16,16,16,16,16,0,48,
 32,32,1,2,115,145,145,145,145,5,9,11,145,145,0,49,
 32,32,1,2,4,145,145,145,145,145,145,145,145,145,0,49,
 32,32,1,2,0,1,1,1,1,1,1,1,1,1,0,49,
 32,32,1,2,119,86,8,102,70,161,161,161,161,161,0,49,
 32,32,1,2,119,80,8,96,8,161,161,161,161,161,0,49,
 32,32,1,2,8,8,8,8,8,161,161,161,161,161,0,49,
 32,32,1,2,0,0,0,0,0,1,1,1,1,1,0,49,
 0,177,1,10,128,128,128,128,128,128,128,128,128,128,128,128,
 194,194,194,194,194,194,194,194,194,194,194,194,177,194,194,194,
 0,1,1,12,0,0,0,0,0,0,0,0,0,0,0,0,
 194,194,194,194,194,194,194,194,194,194,194,194,1,194,194,194]
def cellAt (st c:Int):Int:=tab.getD (st.toNat*16+c.toNat) 0
def mv (st b:Int):Int:=cellAt st (cls b)
def act (st b:Int):Int:=mv st b-mv st b%16
def nxt (st b:Int):Int:=if mv st b%16=0 then st else mv st b%16
structure D where
 priv:Int
 inter:Int
 parts:Nat
 params:List Int
 text:List Int
def d0:D:=⟨0,0,0, [], []⟩
structure S where
 st:Int
 dec:U.St
 d:D
def s0:S:=⟨1,U.z,d0⟩
structure Ev where
 kind:Int
 rune:Int
 priv:Int
 inter:Int
 final:Int
 params:List Int
 text:List Int
def pr (r:Int):Ev:=⟨1,r,0,0,0, [], []⟩
def D.begin_ (d:D):D:=⟨d.priv,d.inter,d.parts+1,if d.parts<16 then d.params++ [-1] else d.params,d.text⟩
def up (x n:Int):Int:=if (if x<0 then 0 else x)*10+n<65535 then (if x<0 then 0 else x)*10+n else 65535
def D.first (d:D):D:=if d.parts=0 then d.begin_ else d
def D.put (d:D) (n:Int):D:=if 16<d.parts then d else ⟨d.priv,d.inter,d.parts,d.params.set (d.parts-1) (up (d.params.getD (d.parts-1) 0) n),d.text⟩
def D.digit (d:D) (n:Int):D:=d.first.put n
def D.semi (d:D):D:=d.first.begin_
def doo (s:S) (a b:Int):S × List Ev:=
 if a=16 then (s, [pr b])
 else if a=32 then (s, [⟨2,0,0,0,b, [], []⟩])
 else if a=48 then (⟨s.st,(U.it s.dec b).1,s.d⟩,(U.it s.dec b).2.map pr)
 else if a=64 then (⟨s.st,s.dec,⟨b,s.d.inter,s.d.parts,s.d.params,s.d.text⟩⟩, [])
 else if a=80 then (⟨s.st,s.dec,s.d.digit (b-48)⟩, [])
 else if a=96 then (⟨s.st,s.dec,s.d.semi⟩, [])
 else if a=112 then (⟨s.st,s.dec,⟨s.d.priv,b,s.d.parts,s.d.params,s.d.text⟩⟩, [])
 else if a=128 then ((if s.d.text.length=4096 then ⟨11,s.dec,s.d⟩ else ⟨s.st,s.dec,⟨s.d.priv,s.d.inter,s.d.parts,s.d.params,s.d.text++ [b]⟩⟩), [])
 else if a=144 then (s, [⟨3,0,0,s.d.inter,b, [], []⟩])
 else if a=160 then (s, [⟨4,0,s.d.priv,s.d.inter,b,s.d.params, []⟩])
 else if a=176 then (s, [⟨5,0,0,0,0, [],s.d.text⟩])
 else (s, [])
def brk (s:S) (b:Int):S × List Ev:=if b<128/\0<s.dec.need then (⟨s.st,U.z,s.d⟩, [pr 65533]) else (s, [])
def lets (st:Int):Bool:=decide (st=1\/st=2\/st=4\/st=8\/st=11)
def clr (s:S):S:=if lets s.st=true then ⟨s.st,s.dec,d0⟩ else s
def mid (s:S) (b:Int):Int × S:=
 if act s.st b=192 then (act (nxt s.st b) b,⟨nxt (nxt s.st b) b,s.dec,d0⟩) else (act s.st b,⟨nxt s.st b,s.dec,s.d⟩)
def take (s:S) (b:Int):S × List Ev:=
 (clr (doo (mid (brk s b).1 b).2 (mid (brk s b).1 b).1 b).1,(brk s b).2++(doo (mid (brk s b).1 b).2 (mid (brk s b).1 b).1 b).2)
def feed:S->List Int->S × List Ev
 | s, [] =>(s, [])
 | s,b::l=>((feed (take s b).1 l).1,(take s b).2++(feed (take s b).1 l).2)
structure D.ok (d:D):Prop where
 priv:0<=d.priv/\d.priv<256
 inter:0<=d.inter/\d.inter<256
 len:d.params.length=min d.parts 16
 nums: ∀x∈d.params, -1<=x/\x<=65535
 Yw:d.text.length<=4096
 bytes: ∀x∈d.text,0<=x/\x<256
structure S.ok (s:S):Prop where
 st:1<=s.st/\s.st<=12
 dec:s.dec.ok
 d:s.d.ok
theorem Wm:d0.ok:=⟨by simp [d0],by simp [d0],by simp [d0],by simp [d0],by simp [d0],by simp [d0]⟩
theorem aB:s0.ok:=⟨by simp [s0],U.SF,Wm⟩
theorem Ky {p:Int->Int->Prop} [∀a b,Decidable (p a b)] (h: ∀(s:Fin 12) (n:Fin 256),p ((s.val:Int)+1) (n.val:Int)) (st b:Int) (h0:1<=st) (h1:st<=12) (h2:0<=b) (h3:b<256):p st b:=by
 obtain⟨n,rfl⟩:=Int.eq_ofNat_of_zero_le h2
 obtain⟨m,hm⟩:=Int.eq_ofNat_of_zero_le (show 0<=st-1 by omega)
 obtain rfl:st=(m:Int)+1:=by omega
 exact h ⟨m,by omega⟩ ⟨n,by omega⟩
theorem gB (st b:Int) (h0:1<=st) (h1:st<=12) (h2:0<=b) (h3:b<256):0<=mv st b/\mv st b<256:=
 Ky (p:=fun st b=>0<=mv st b/\mv st b<256) (by decide+kernel) st b h0 h1 h2 h3
theorem bE (b:Int) (h2:0<=b) (h3:b<256):0<=cls b/\cls b<16:=
 U.Jl (p:=fun b=>0<=cls b/\cls b<16) (by decide+kernel) b h2 h3
theorem QM (st b:Int) (h0:1<=st) (h1:st<=12) (h2:0<=b) (h3:b<256):1<=nxt st b/\nxt st b<=12:=
 Ky (p:=fun st b=>1<=nxt st b/\nxt st b<=12) (by decide+kernel) st b h0 h1 h2 h3
def JH (a:Int):Prop:=a=0\/a=16\/a=32\/a=48\/a=64\/a=80\/a=96\/a=112\/a=128\/a=144\/a=160\/a=176
instance (a:Int):Decidable (JH a):=by unfold JH;infer_instance
theorem bF (st b:Int) (h0:1<=st) (h1:st<=12) (h2:0<=b) (h3:b<256):JH (act st b)\/act st b=192:=
 Ky (p:=fun st b=>JH (act st b)\/act st b=192) (by decide+kernel) st b h0 h1 h2 h3
theorem Ti (st b:Int) (h0:1<=st) (h1:st<=12) (h2:0<=b) (h3:b<256):act st b=192->nxt st b=2/\JH (act 2 b):=
 Ky (p:=fun st b=>act st b=192->nxt st b=2/\JH (act 2 b)) (by decide+kernel) st b h0 h1 h2 h3
theorem L9 (st b:Int) (h0:1<=st) (h1:st<=12) (h2:0<=b) (h3:b<256):(act st b=80->48<=b/\b<=57)/\(act st b=160->nxt st b=1)/\(act st b=16->b<128):=
 Ky (p:=fun st b=>(act st b=80->48<=b/\b<=57)/\(act st b=160->nxt st b=1)/\(act st b=16->b<128)) (by decide+kernel) st b h0 h1 h2 h3
theorem OP {d:D} (h:d.ok):d.begin_.ok:=by
 obtain⟨h1,h2,h3,h4,h5,h6⟩:=h
 unfold D.begin_
 refine⟨h1,h2,?_,?_,h5,h6⟩
 ·simp only []
  split
  ·rw [List.length_append,h3];simp;omega
  ·rw [h3];omega
 ·simp only []
  intro x hx
  split at hx
  ·rcases List.mem_append.1 hx with hx | hx
   ·exact h4 x hx
   ·simp at hx;omega
  ·exact h4 x hx
theorem JI {d:D} (h:d.ok):d.first.ok:=by
 unfold D.first
 split
 ·exact OP h
 ·exact h
theorem Fu (d:D):1<=d.first.parts/\d.parts<=d.first.parts/\d.first.parts<=d.parts+1:=by
 unfold D.first
 split
 ·simp [D.begin_]
 ·omega
theorem gD {x n:Int} (hx:x<=65535) (h0:0<=n) (h1:n<=9):0<=up x n/\up x n<=65535:=by
 unfold up
 by_cases hx0:x<0
 ·simp only [if_pos hx0]
  split<;>omega
 ·simp only [if_neg hx0]
  split<;>omega
theorem bG {d:D} (h:d.ok) {n:Int} (h0:0<=n) (h1:n<=9):(d.put n).ok:=by
 unfold D.put
 split
 ·exact h
 ·obtain⟨a1,a2,a3,a4,a5,a6⟩:=h
  refine⟨a1,a2,by simpa using a3,?_,a5,a6⟩
  intro x hx
  rcases List.mem_or_eq_of_mem_set hx with hx | rfl
  ·exact a4 x hx
  ·have:d.params.getD (d.parts-1) 0<=65535:=by
    rw [List.getD_eq_getElem?_getD]
    rcases hq:d.params[d.parts-1]? with _ | y
    ·simp
    ·simpa using (a4 y (List.mem_of_getElem? hq)).2
   have:=gD this h0 h1
   omega
theorem Wn {d:D} (h:d.ok) {n:Int} (h0:0<=n) (h1:n<=9):(d.digit n).ok:=bG (JI h) h0 h1
theorem Yx {d:D} (h:d.ok):d.semi.ok:=OP (JI h)
theorem Tj (d:D) (n:Int):(d.put n).parts=d.parts:=by unfold D.put;split<;>rfl
theorem OQ (d:D) (n:Int):(d.digit n).parts<=d.parts+1:=by
 unfold D.digit;rw [Tj];exact(Fu d).2.2
theorem QN (d:D):d.semi.parts<=d.parts+2:=by
 have:=(Fu d).2.2
 unfold D.semi D.begin_
 simp only []
 omega
theorem M9 {P:S × List Ev->Prop} (s:S) (a b:Int)
  (h16:a=16->P (s, [pr b]))
  (h32:a=32->P (s, [⟨2,0,0,0,b, [], []⟩]))
  (h48:a=48->P (⟨s.st,(U.it s.dec b).1,s.d⟩,(U.it s.dec b).2.map pr))
  (h64:a=64->P (⟨s.st,s.dec,⟨b,s.d.inter,s.d.parts,s.d.params,s.d.text⟩⟩, []))
  (h80:a=80->P (⟨s.st,s.dec,s.d.digit (b-48)⟩, []))
  (h96:a=96->P (⟨s.st,s.dec,s.d.semi⟩, []))
  (h112:a=112->P (⟨s.st,s.dec,⟨s.d.priv,b,s.d.parts,s.d.params,s.d.text⟩⟩, []))
  (h128:a=128->P ((if s.d.text.length=4096 then ⟨11,s.dec,s.d⟩ else ⟨s.st,s.dec,⟨s.d.priv,s.d.inter,s.d.parts,s.d.params,s.d.text++ [b]⟩⟩), []))
  (h144:a=144->P (s, [⟨3,0,0,s.d.inter,b, [], []⟩]))
  (h160:a=160->P (s, [⟨4,0,s.d.priv,s.d.inter,b,s.d.params, []⟩]))
  (h176:a=176->P (s, [⟨5,0,0,0,0, [],s.d.text⟩]))
  (hz:P (s, [])):P (doo s a b):=by
 unfold doo
 by_cases e16:a=16
 ·rw [if_pos e16];exact h16 e16
 rw [if_neg e16]
 by_cases e32:a=32
 ·rw [if_pos e32];exact h32 e32
 rw [if_neg e32]
 by_cases e48:a=48
 ·rw [if_pos e48];exact h48 e48
 rw [if_neg e48]
 by_cases e64:a=64
 ·rw [if_pos e64];exact h64 e64
 rw [if_neg e64]
 by_cases e80:a=80
 ·rw [if_pos e80];exact h80 e80
 rw [if_neg e80]
 by_cases e96:a=96
 ·rw [if_pos e96];exact h96 e96
 rw [if_neg e96]
 by_cases e112:a=112
 ·rw [if_pos e112];exact h112 e112
 rw [if_neg e112]
 by_cases e128:a=128
 ·rw [if_pos e128];exact h128 e128
 rw [if_neg e128]
 by_cases e144:a=144
 ·rw [if_pos e144];exact h144 e144
 rw [if_neg e144]
 by_cases e160:a=160
 ·rw [if_pos e160];exact h160 e160
 rw [if_neg e160]
 by_cases e176:a=176
 ·rw [if_pos e176];exact h176 e176
 rw [if_neg e176]
 exact hz
theorem Tk (s:S) (a b:Int):(doo s a b).1.d.parts<=s.d.parts+2:=by
 have h1:=OQ s.d (b-48)
 have h2:=QN s.d
 refine M9 (P:=fun r=>r.1.d.parts<=s.d.parts+2) s a b (fun _=>Nat.le_add_right _ _) (fun _=>Nat.le_add_right _ _) (fun _=>Nat.le_add_right _ _) (fun _=>Nat.le_add_right _ _)
  (fun _=>Nat.le_trans h1 (by omega)) (fun _=>h2) (fun _=>Nat.le_add_right _ _) (fun _=>?_) (fun _=>Nat.le_add_right _ _) (fun _=>Nat.le_add_right _ _) (fun _=>Nat.le_add_right _ _) (Nat.le_add_right _ _)
 show(if _ then _ else _:S).d.parts<=_
 split<;>exact Nat.le_add_right _ _
theorem bH {s:S} (h:s.ok) {a b:Int} (h0:0<=b) (h1:b<256) (ha:a=80->48<=b/\b<=57):(doo s a b).1.ok:=by
 obtain⟨hs,hd,hr⟩:=id h
 refine M9 (P:=fun r=>r.1.ok) s a b (fun _=>h) (fun _=>h) (fun _=>⟨hs,U.eP hd b h1,hr⟩) (fun _=>⟨hs,hd,⟨⟨h0,h1⟩,hr.inter,hr.len,hr.nums,hr.Yw,hr.bytes⟩⟩)
  (fun e=>?_) (fun _=>⟨hs,hd,Yx hr⟩) (fun _=>⟨hs,hd,⟨hr.priv,⟨h0,h1⟩,hr.len,hr.nums,hr.Yw,hr.bytes⟩⟩) (fun _=>?_) (fun _=>h) (fun _=>h) (fun _=>h) h
 ·have:=ha e
  exact⟨hs,hd,Wn hr (by omega) (by omega)⟩
 ·show S.ok (if _ then _ else _)
  split
  ·exact⟨by simp,hd,hr⟩
  ·have:=hr.Yw
   refine⟨hs,hd,⟨hr.priv,hr.inter,hr.len,hr.nums,by simp;omega,fun x hx=>?_⟩⟩
   rcases List.mem_append.1 hx with hx | hx
   ·exact hr.bytes x hx
   ·simp at hx;omega
theorem QO {s:S} (h:s.ok) (b:Int):(brk s b).1.ok:=by
 unfold brk
 split
 ·exact⟨h.st,U.SF,h.d⟩
 ·exact h
theorem QS {s:S} (h:s.ok) {b:Int} (h0:0<=b) (h1:b<256):(mid s b).2.ok/\JH (mid s b).1/\((mid s b).1=80->48<=b/\b<=57)/\((mid s b).1=160->(mid s b).2.st=1):=by
 have k1:=QM s.st b h.st.1 h.st.2 h0 h1
 have k2:=QM (nxt s.st b) b k1.1 k1.2 h0 h1
 have k3:=bF s.st b h.st.1 h.st.2 h0 h1
 have k4:=Ti s.st b h.st.1 h.st.2 h0 h1
 have k5:=L9 s.st b h.st.1 h.st.2 h0 h1
 have k6:=L9 (nxt s.st b) b k1.1 k1.2 h0 h1
 unfold mid
 split
 ·rename_i e
  have k4:=k4 e
  refine⟨⟨k2,h.dec,Wm⟩,?_,k6.1,k6.2.1⟩
  rw [k4.1]
  exact k4.2
 ·rename_i e
  exact⟨⟨k1,h.dec,h.d⟩,k3.resolve_right e,k5.1,k5.2.1⟩
theorem bI {s:S} (h:s.ok):(clr s).ok:=by
 unfold clr
 split
 ·exact⟨h.st,h.dec,Wm⟩
 ·exact h
theorem Rn {s:S} (h:s.ok) {b:Int} (h0:0<=b) (h1:b<256):(take s b).1.ok:=by
 have k:=QS (QO h b) h0 h1
 exact bI (bH k.1 h0 h1 k.2.2.1)
theorem Yy {s:S} (h:s.ok) (l:List Int) (hl: ∀x∈l,0<=x/\x<256):(feed s l).1.ok:=by
 induction l generalizing s with
 | nil=>exact h
 | cons b l ih=>exact ih (Rn h (hl b (by simp)).1 (hl b (by simp)).2) (fun x hx=>hl x (by simp [hx]))
theorem MB (s:S) (b:Int):(brk s b).1.d=s.d:=by unfold brk;split<;>rfl
theorem ME (s:S) (b:Int):(mid s b).2.d.parts<=s.d.parts:=by
 unfold mid
 split
 ·simp [d0]
 ·simp
theorem Tm (s:S):(clr s).d.parts<=s.d.parts:=by
 unfold clr
 split
 ·simp [d0]
 ·simp
theorem QT (s:S) (b:Int):(take s b).1.d.parts<=s.d.parts+2:=by
 have k1:=Tm (doo (mid (brk s b).1 b).2 (mid (brk s b).1 b).1 b).1
 have k2:=Tk (mid (brk s b).1 b).2 (mid (brk s b).1 b).1 b
 have k3:=ME (brk s b).1 b
 rw [MB] at k3
 show(clr _).d.parts<=_
 omega
theorem QU (s:S) (l:List Int):(feed s l).1.d.parts<=s.d.parts+2*l.length:=by
 induction l generalizing s with
 | nil=>simp [feed]
 | cons b l ih=>
  have h1:=QT s b
  have h2:=ih (take s b).1
  simp only [feed,List.length_cons]
  omega
theorem OT (s:S) (l m:List Int):feed s (l++m)=((feed (feed s l).1 m).1,(feed s l).2++(feed (feed s l).1 m).2):=by
 induction l generalizing s with
 | nil=>simp [feed]
 | cons b l ih=>simp [feed,ih]
theorem Wo (s:S) (b:Int):feed s [b] =take s b:=by simp [feed]
theorem Tn (s:S) (l:List Int) (b:Int):feed s (l++ [b])=((take (feed s l).1 b).1,(feed s l).2++(take (feed s l).1 b).2):=by
 rw [OT,Wo]
theorem Yz (s:S) (a b:Int):(doo s a b).2.length<=2:=by
 have:=U.VW s.dec b
 exact M9 (P:=fun r=>r.2.length<=2) s a b (fun _=>by simp) (fun _=>by simp) (fun _=>by simpa using this) (fun _=>by simp) (fun _=>by simp) (fun _=>by simp) (fun _=>by simp) (fun _=>by simp) (fun _=>by simp) (fun _=>by simp) (fun _=>by simp) (by simp)
theorem Ro (s:S) (b:Int):(brk s b).2.length<=1:=by unfold brk;split<;>simp
theorem take_len (s:S) (b:Int):(take s b).2.length<=3:=by
 have h1:=Ro s b
 have h2:=Yz (mid (brk s b).1 b).2 (mid (brk s b).1 b).1 b
 simp only [take,List.length_append]
 omega
theorem OU (s:S) (l:List Int):(feed s l).2.length<=3*l.length:=by
 induction l generalizing s with
 | nil=>simp [feed]
 | cons b l ih=>
  have h1:=take_len s b
  have h2:=ih (take s b).1
  simp only [feed,List.length_append,List.length_cons]
  omega
theorem Kv (b:Int):place b<=24:=by
 have:=List.takeWhile_sublist (l:=lasts) (fun l=>decide (l<b))
 exact this.length_le
theorem Bl {b:Int} {k:Nat} (h0:0<=b) (h1:b<256) (hk:k<place b):FI k<b:=by
 have h: ∀b:Fin 256, ∀k:Fin 24,k.val<place (b.val:Int)->FI k.val<(b.val:Int):=by decide+kernel
 obtain⟨n,rfl⟩:=Int.eq_ofNat_of_zero_le h0
 have:=Kv (n:Int)
 exact h ⟨n,by omega⟩ ⟨k,by omega⟩ hk
theorem Wp {b:Int} (h0:0<=b) (h1:b<256) (hk:place b<24):b<=FI (place b):=by
 have h: ∀b:Fin 256,place (b.val:Int)<24->(b.val:Int)<=FI (place (b.val:Int)):=by decide+kernel
 obtain⟨n,rfl⟩:=Int.eq_ofNat_of_zero_le h0
 exact h ⟨n,by omega⟩ hk
theorem Wq {b:Int} (hk:place b=24):cls b=15:=by unfold cls;rw [hk];rfl
end Go.Proofs.YtoaabebgmdbjeaaGreatDoor.PA
namespace Go.Proofs.YtoaabebgmdbjeaaGreatDoor.PA
end Go.Proofs.YtoaabebgmdbjeaaGreatDoor.PA
namespace Go.Proofs.YtoaabebgmdbjeaaGreatDoor.PA
end Go.Proofs.YtoaabebgmdbjeaaGreatDoor.PA
namespace Go.Proofs.YtoaabebgmdbjeaaGreatDoor.PA
def nine:List Int:=List.replicate 20 57
end Go.Proofs.YtoaabebgmdbjeaaGreatDoor.PA
namespace Go.Proofs.YtoaabebgmdbjeaaGreatDoor.U
end Go.Proofs.YtoaabebgmdbjeaaGreatDoor.U
namespace Go.Proofs.YtoaabebgmdbjeaaGreatDoor.PA
def Ws (r:Int):Prop:=(32<=r/\r<=126)\/(128<=r/\r<=1114111/\(r<55296\/57343<r))
def NA (i:Int):Prop:=i=0\/(32<=i/\i<=47)
def opens (f:Int):Prop:=f=91\/f=93\/f=80\/f=88\/f=94\/f=95
def Wt (p:Int):Prop:=p=0\/(60<=p/\p<=63)
instance (f:Int):Decidable (opens f):=by unfold opens;infer_instance
end Go.Proofs.YtoaabebgmdbjeaaGreatDoor.PA
namespace Go.Proofs.YtoaabebgmdbjeaaGreatDoor.PA
instance (r:Int):Decidable (Ws r):=by unfold Ws;infer_instance
instance (i:Int):Decidable (NA i):=by unfold NA;infer_instance
instance (p:Int):Decidable (Wt p):=by unfold Wt;infer_instance
end Go.Proofs.YtoaabebgmdbjeaaGreatDoor.PA
namespace Go.Proofs.YtoaabebgmdbjeaaGreatDoor
open Go.RowKit
namespace U
theorem Y0 (b:Int) (h0:0<=b) (h1:b<256): ∀r∈(bg b).2,0<=r/\r<=1114111:=by
 intro r hr
 unfold bg at hr
 repeat' (split at hr)
 all_goals simp at hr
 all_goals omega
theorem Y1 (n a:Int):0<=wh n a/\wh n a<=1114111:=by
 unfold wh isR
 split
 ·rename_i h
  have:=h.1
  simp at this
  omega
 ·omega
theorem Y2 (s:St) (b:Int) (h0:0<=b) (h1:b<256): ∀r∈(it s b).2,0<=r/\r<=1114111:=by
 intro r hr
 have hb:=Y0 b h0 h1
 unfold it at hr
 split at hr
 ·exact hb r hr
 split at hr
 ·rcases List.mem_cons.1 hr with rfl | hr
  ·omega
  ·exact hb r hr
 split at hr
 ·simp at hr
 ·simp at hr
  subst hr
  exact Y1 _ _
end U
namespace PA
structure Fits (e:Ev):Prop where
 rune:e.kind=1->0<=e.rune/\e.rune<=1114111
 len:e.params.length<=16
 nums: ∀x∈e.params, -1<=x/\x<=65535
theorem ND {r:Int} (h:0<=r/\r<=1114111):Fits (pr r):=⟨fun _=>h,by simp [pr],by simp [pr]⟩
theorem Wu {s:S} (h:s.ok) (a b:Int) (h0:0<=b) (h1:b<256): ∀e∈(doo s a b).2,Fits e:=by
 have hl:=h.d.len
 have hn:=h.d.nums
 have hi:=U.Y2 s.dec b h0 h1
 refine M9 (P:=fun r=> ∀e∈r.2,Fits e) s a b ?_ ?_ ?_ ?_ ?_ ?_ ?_ ?_ ?_ ?_ ?_ ?_
 ·intro _ e he;simp at he;subst he;exact ND (by omega)
 ·intro _ e he;simp at he;subst he;exact⟨fun e=>(by cases e),by simp,by simp⟩
 ·intro _ e he
  obtain⟨r,hr,rfl⟩:=List.mem_map.1 he
  exact ND (hi r hr)
 ·intro _ e he;simp at he
 ·intro _ e he;simp at he
 ·intro _ e he;simp at he
 ·intro _ e he;simp at he
 ·intro _ e he;simp at he
 ·intro _ e he;simp at he;subst he;exact⟨fun e=>(by cases e),by simp,by simp⟩
 ·intro _ e he;simp at he;subst he;exact⟨fun e=>(by cases e),(by simp only [];omega),hn⟩
 ·intro _ e he;simp at he;subst he;exact⟨fun e=>(by cases e),by simp,by simp⟩
 ·intro e he;simp at he
theorem Tp {s:S} (h:s.ok) {b:Int} (h0:0<=b) (h1:b<256): ∀e∈(take s b).2,Fits e:=by
 have k:=QS (QO h b) h0 h1
 intro e he
 rcases List.mem_append.1 he with he | he
 ·unfold brk at he
  split at he
  ·simp at he;subst he;exact ND (by omega)
  ·simp at he
 ·exact Wu k.1 _ _ h0 h1 e he
theorem Tq {s:S} (h:s.ok) (l:List Int) (hl: ∀x∈l,0<=x/\x<256): ∀e∈(feed s l).2,Fits e:=by
 induction l generalizing s with
 | nil=>intro e he;simp [feed] at he
 | cons b l ih=>
  intro e he
  have hb:=hl b (by simp)
  rcases List.mem_append.1 he with he | he
  ·exact Tp h hb.1 hb.2 e he
  ·exact ih (Rn h hb.1 hb.2) (fun x hx=>hl x (by simp [hx])) e he
end PA
namespace SN
def Y3 (s:Sc) (e:PA.Ev):Sc:=doS s e.kind e.rune e.priv e.inter e.final e.params
def Bv (s:Sc) (es:List PA.Ev):Sc:=es.foldl Y3 s
theorem Tt (s:Sc) (a b:List PA.Ev):Bv s (a++b)=Bv (Bv s a) b:=by unfold Bv;rw [List.foldl_append]
theorem QV (s:Sc) (a:List PA.Ev) (e:PA.Ev):Bv s (a++ [e])=Y3 (Bv s a) e:=by rw [Tt];rfl
theorem QW {s:Sc} (h:Ac s) (e:PA.Ev):Ac (Y3 s e):=EH h _ _ _ _ _ _
theorem Fv {s:Sc} (h:Ac s) (es:List PA.Ev):Ac (Bv s es):=by
 induction es generalizing s with
 | nil=>exact h
 | cons e es ih=>exact ih (QW h e)
end SN
end Go.Proofs.YtoaabebgmdbjeaaGreatDoor
