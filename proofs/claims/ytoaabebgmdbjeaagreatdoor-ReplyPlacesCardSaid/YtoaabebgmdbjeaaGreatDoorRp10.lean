/- A part of the proof: GridShift, CursorSpec, ModesSpec, ParseSpec, ParseMore, UtfLemmas, SeqSpec, ReplySpec, UtfSmall, ParseTab, ParseMove, ParseMem, ParseFeed, Same64, ParseEvents, ParseConst, StrConv, SeqSmall. -/
import Derived.Test.YtoaabebgmdbjeaaGreatDoorRp08
import Derived.Laws.BytesArg
import Derived.Deep.AppendLies
import Derived.Lib.SlBytesConst
import Derived.Laws.IdiomStrings
set_option maxRecDepth 100000
set_option maxHeartbeats 16000000
set_option linter.unusedVariables false
namespace Go.Proofs.YtoaabebgmdbjeaaGreatDoor.PG
def Loose (h:Nat->Cl) (m:Nat):Prop:= ∀j,j<m->CK (pn (h j))/\
 ((kd (h j)=0/\C.width (rn (h j))=1)\/(kd (h j)=1/\C.width (rn (h j))=2/\(j+1<m->kd (h (j+1))=2->pn (h (j+1))=pn (h j)))\/(kd (h j)=2/\rn (h j)=0))
theorem Pz {h:Nat->Cl} {m:Nat} (hl:Loose h m):Bw (mend h m) m:=by
 intro j hj
 have hkind: ∀i,kd (mend h m i)=(if (kd (h i)=1/\ ¬(i+1<m/\kd (h (i+1))=2))\/(kd (h i)=2/\ ¬(0<i/\kd (h (i-1))=1)) then 0 else kd (h i)):=fun i=>by
  unfold mend
  split<;>rfl
 have hpn: ∀i,pn (mend h m i)=pn (h i):=fun i=>by
  unfold mend
  split<;>rfl
 refine⟨by rw [hpn];exact(hl j hj).1,?_⟩
 by_cases hb:(kd (h j)=1/\ ¬(j+1<m/\kd (h (j+1))=2))\/(kd (h j)=2/\ ¬(0<j/\kd (h (j-1))=1))
 ·left
  refine⟨by rw [hkind,if_pos hb],?_⟩
  unfold mend
  rw [if_pos hb]
  exact Db
 ·have hm:mend h m j=h j:=by unfold mend;rw [if_neg hb]
  rw [hm]
  rcases(hl j hj).2 with ⟨h0,h1⟩ | ⟨h1,h2,h3⟩ | ⟨h1,h2⟩
  ·exact .inl ⟨h0,h1⟩
  ·right;left
   have hn:j+1<m/\kd (h (j+1))=2:=by
    by_cases hx:j+1<m/\kd (h (j+1))=2
    ·exact hx
    ·exact absurd (.inl ⟨h1,hx⟩) hb
   refine⟨h1,h2,hn.1,?_,by rw [hpn];exact h3 hn.1 hn.2⟩
   rw [hkind,if_neg,hn.2]
   rintro (⟨a,_⟩ | ⟨_,b⟩)
   ·omega
   ·exact b ⟨by omega,by rw [Nat.add_sub_cancel];exact h1⟩
  ·right;right
   have hn:0<j/\kd (h (j-1))=1:=by
    by_cases hx:0<j/\kd (h (j-1))=1
    ·exact hx
    ·exact absurd (.inr ⟨h1,hx⟩) hb
   refine⟨h1,h2,hn.1,?_⟩
   rw [hkind,if_neg,hn.2]
   rintro (⟨_,b⟩ | ⟨a,_⟩)
   ·exact b ⟨by omega,by rw [show j-1+1=j from by omega];exact h1⟩
   ·omega
def parted (f:Nat->Cl) (c:Nat) (j:Nat):Cl:=if kd (f c)=2/\0<c/\(j=c\/j+1=c) then blank (pn (f j)) else f j
def shifted (f:Nat->Cl) (K c:Nat) (n:Int) (p:Pn) (j:Nat):Cl:=if j<c then parted f c j else if (c:Int)<=j-n/\(j:Int)-n<K then parted f c ((j:Int)-n).toNat else blank p
def CB (g:Gr) (r c:Nat) (n:Int) (p:Pn):Gr:=if r<g.rows/\c<g.AB then ⟨g.rows,g.AB,fun i j=>if i=r then mend (shifted (g.f r) g.AB c n p) g.AB j else g.f i j⟩ else g
def Am (g:Gr) (t b:Nat) (n:Int) (p:Pn):Gr:=if b<g.rows/\t<=b then ⟨g.rows,g.AB,fun i j=>if t<=i/\i<=b then (if (t:Int)<=i+n/\(i:Int)+n<=b then g.f ((i:Int)+n).toNat j else blank p) else g.f i j⟩ else g
theorem OJ {f:Nat->Cl} {K c:Nat} (hf:Bw f K) (hc:c<K):Loose (parted f c) K/\ ∀j,j+1=c->kd (parted f c j)≠1:=by
 constructor
 ·intro j hj
  have hr:=hf j hj
  unfold parted
  by_cases h:kd (f c)=2/\0<c/\(j=c\/j+1=c)
  ·rw [if_pos h]
   exact⟨hr.1,.inl ⟨rfl,Db⟩⟩
  ·rw [if_neg h]
   refine⟨hr.1,?_⟩
   rcases hr.2 with k | ⟨k1,k2,k3,k4,k5⟩ | ⟨k1,k2,k3,k4⟩
   ·exact .inl k
   ·refine .inr (.inl ⟨k1,k2,fun _=>?_⟩)
    split
    ·intro h0;rw [Hu] at h0;omega
    ·exact fun _=>k5
   ·exact .inr (.inr ⟨k1,k2⟩)
 ·intro j hj hk
  unfold parted at hk
  by_cases h:kd (f c)=2/\0<c/\(j=c\/j+1=c)
  ·rw [if_pos h,Hu] at hk
   omega
  ·rw [if_neg h] at hk
   have:=hf.left (j:=j) (by omega) hk
   rw [hj] at this
   exact h ⟨this.2.2.1,by omega,.inr hj⟩
theorem Mh {f:Nat->Cl} {K c:Nat} (n:Int) {p:Pn} (hf:Bw f K) (hc:c<K) (hp:CK p):Loose (shifted f K c n p) K:=by
 obtain⟨hl,hn⟩:=OJ hf hc
 intro j hj
 by_cases h1:j<c
 ·have e:shifted f K c n p j=parted f c j:=if_pos h1
  rw [e]
  have hr:=hl j hj
  refine⟨hr.1,?_⟩
  rcases hr.2 with k | ⟨k1,k2,k3⟩ | k
  ·exact .inl k
  ·refine .inr (.inl ⟨k1,k2,fun hj1=>?_⟩)
   by_cases h2:j+1<c
   ·have e2:shifted f K c n p (j+1)=parted f c (j+1):=if_pos h2
    rw [e2]
    exact k3 hj1
   ·exact absurd k1 (hn j (by omega))
  ·exact .inr (.inr k)
 ·by_cases h2:(c:Int)<=j-n/\(j:Int)-n<K
  ·have e:shifted f K c n p j=parted f c ((j:Int)-n).toNat:=by unfold shifted;rw [if_neg h1,if_pos h2]
   rw [e]
   have hr:=hl ((j:Int)-n).toNat (by omega)
   refine⟨hr.1,?_⟩
   rcases hr.2 with k | ⟨k1,k2,k3⟩ | k
   ·exact .inl k
   ·refine .inr (.inl ⟨k1,k2,fun hj1=>?_⟩)
    by_cases h3:(c:Int)<=(j+1:Nat)-n/\((j+1:Nat):Int)-n<K
    ·have e2:shifted f K c n p (j+1)=parted f c (((j:Int)-n).toNat+1):=by
      unfold shifted
      rw [if_neg (by omega),if_pos h3,show(((j+1:Nat):Int)-n).toNat=((j:Int)-n).toNat+1 from by omega]
     rw [e2]
     exact k3 (by omega)
    ·have e2:shifted f K c n p (j+1)=blank p:=by unfold shifted;rw [if_neg (by omega),if_neg h3]
     rw [e2,Hu]
     intro h0
     omega
   ·exact .inr (.inr k)
  ·have e:shifted f K c n p j=blank p:=by unfold shifted;rw [if_neg h1,if_neg h2]
   rw [e]
   exact⟨hp,.inl ⟨rfl,Db⟩⟩
theorem OL {g:Gr} (h:BH g) {p:Pn} (hp:CK p) (r c:Nat) (n:Int):BH (CB g r c n p):=by
 unfold CB
 by_cases hc:r<g.rows/\c<g.AB
 ·rw [if_pos hc]
  refine⟨h.1,h.2.1,h.2.2.1,h.2.2.2.1,fun i hi=>?_⟩
  by_cases hir:i=r
  ·subst hir
   simp only [if_true]
   exact Pz (Mh n (h.2.2.2.2 i hi) hc.2 hp)
  ·simp only [if_neg hir]
   exact h.2.2.2.2 i hi
 ·rw [if_neg hc];exact h
theorem E9 {g:Gr} (h:BH g) {p:Pn} (hp:CK p) (t b:Nat) (n:Int):BH (Am g t b n p):=by
 unfold Am
 by_cases hc:b<g.rows/\t<=b
 ·rw [if_pos hc]
  refine⟨h.1,h.2.1,h.2.2.1,h.2.2.2.1,fun i hi=>?_⟩
  by_cases hir:t<=i/\i<=b
  ·simp only [if_pos hir]
   by_cases hn:(t:Int)<=i+n/\(i:Int)+n<=b
   ·simp only [if_pos hn]
    exact h.2.2.2.2 _ (by omega)
   ·simp only [if_neg hn]
    exact Hw p hp g.AB
  ·simp only [if_neg hir]
   exact h.2.2.2.2 i hi
 ·rw [if_neg hc];exact h
theorem Gv (g:Gr) (r c:Nat) (n:Int) (p:Pn):(CB g r c n p).rows=g.rows/\(CB g r c n p).AB=g.AB:=by
 unfold CB
 split<;>exact⟨rfl,rfl⟩
theorem Dh (g:Gr) (t b:Nat) (n:Int) (p:Pn):(Am g t b n p).rows=g.rows/\(Am g t b n p).AB=g.AB:=by
 unfold Am
 split<;>exact⟨rfl,rfl⟩
theorem VN {g:Gr} {r c:Nat} {n:Int} {p:Pn} (h: ¬(r<g.rows/\c<g.AB)):CB g r c n p=g:=if_neg h
theorem Ro {g:Gr} {t b:Nat} {n:Int} {p:Pn} (h: ¬(b<g.rows/\t<=b)):Am g t b n p=g:=if_neg h
def Ef (g:Gr) (r c n:Int) (p:Pn):Gr:=if 0<=r/\0<=c then CB g r.toNat c.toNat n p else g
def Cr (g:Gr) (t b n:Int) (p:Pn):Gr:=if 0<=t/\0<=b then Am g t.toNat b.toNat n p else g
theorem Lj {g:Gr} {r c n:Int} {p:Pn} (h: ¬(0<=r/\r<g.rows/\0<=c/\c<g.AB)):Ef g r c n p=g:=by
 unfold Ef
 split
 ·exact VN (by omega)
 ·rfl
theorem KY {g:Gr} {t b n:Int} {p:Pn} (h: ¬(0<=t/\t<=b/\b<g.rows)):Cr g t b n p=g:=by
 unfold Cr
 split
 ·exact Ro (by omega)
 ·rfl
def Bq (g:Gr) (r c what:Nat) (p:Pn):Gr:=⟨g.rows,g.AB,fun i j=>
 if what=2\/(what=0/\r<i)\/(what=1/\i<r) then blank p
 else if i=r then mend (FI (g.f r) (if what=0 then c else 0) (if what=1 then c+1 else g.AB) p) g.AB j else g.f i j⟩
theorem OM {g:Gr} (h:BH g) {p:Pn} (hp:CK p) (r c what:Nat):BH (Bq g r c what p):=by
 refine⟨h.1,h.2.1,h.2.2.1,h.2.2.2.1,fun i hi=>?_⟩
 show Bw (fun j=>if what=2\/(what=0/\r<i)\/(what=1/\i<r) then blank p else if i=r then _ else g.f i j) g.AB
 by_cases h1:what=2\/(what=0/\r<i)\/(what=1/\i<r)
 ·simp only [if_pos h1]
  exact Hw p hp _
 ·simp only [if_neg h1]
  by_cases h2:i=r
  ·subst h2
   simp only [if_true]
   exact LD (h.2.2.2.2 i hi) _ _ hp
  ·simp only [if_neg h2]
   exact h.2.2.2.2 i hi
theorem VO (g:Gr) (r c:Nat) (p:Pn):Alike (Bq g r c 2 p) (newG g.rows g.AB p):=by
 refine⟨rfl,rfl,fun i j _ _=>?_⟩
 unfold Bq newG
 simp
def Bf (g:Gr) (r c what:Int) (p:Pn):Gr:=if (0<=r/\r<g.rows/\0<=c/\c<g.AB)/\0<=what/\what<=2 then Cz g r.toNat (if what=0 then c.toNat else 0) (if what=1 then c.toNat+1 else g.AB) p else g
def Fv (g:Gr) (r c what:Int) (p:Pn):Gr:=if (0<=r/\r<g.rows/\0<=c/\c<g.AB)/\0<=what/\what<=2 then Bq g r.toNat c.toNat what.toNat p else g
theorem P5 {g:Gr} (h:BH g) {p:Pn} (hp:CK p) (r c what:Int):BH (Bf g r c what p):=by
 unfold Bf
 split
 ·exact KR h hp _ _ _
 ·exact h
theorem OO {g:Gr} (h:BH g) {p:Pn} (hp:CK p) (r c what:Int):BH (Fv g r c what p):=by
 unfold Fv
 split
 ·exact OM h hp _ _ _
 ·exact h
theorem JH (g:Gr) (r c what:Int) (p:Pn):(Bf g r c what p).rows=g.rows/\(Bf g r c what p).AB=g.AB:=by
 unfold Bf
 split
 ·exact Cv ..
 ·exact⟨rfl,rfl⟩
theorem KZ (g:Gr) (r c what:Int) (p:Pn):(Fv g r c what p).rows=g.rows/\(Fv g r c what p).AB=g.AB:=by
 unfold Fv
 split<;>exact⟨rfl,rfl⟩
end Go.Proofs.YtoaabebgmdbjeaaGreatDoor.PG
namespace Go.Proofs.YtoaabebgmdbjeaaGreatDoor.PG
end Go.Proofs.YtoaabebgmdbjeaaGreatDoor.PG
namespace Go.Proofs.YtoaabebgmdbjeaaGreatDoor
open Go.RowKit
namespace SN
def BA (s:Sc):PG.Pn:=(-1,s.pen.2.1,0)
def Dm (s:Sc):Sc:=if s.row=s.bot then (s.uG (PG.Am s.g s.top s.bot 1 (BA s))).u5 false else atS s ((s.row:Int)+1) s.col
def Jj (s:Sc):Sc:=if s.row=s.top then (s.uG (PG.Am s.g s.top s.bot (-1) (BA s))).u5 false else atS s ((s.row:Int)-1) s.col
def upR (s:Sc) (n:Nat):Int:=if s.top<=s.row then max ((s.row:Int)-n) s.top else (s.row:Int)-n
def UJ (s:Sc) (n:Nat):Int:=if s.row<=s.bot then min ((s.row:Int)+n) s.bot else (s.row:Int)+n
def upS (s:Sc) (n:Nat):Sc:=atS s (upR s n) s.col
def I4 (s:Sc) (n:Nat):Sc:=atS s (UJ s n) s.col
def goR (s:Sc) (r:Int):Int:=if s.org=true then min ((s.top:Int)+r) s.bot else r
def goS (s:Sc) (r c:Int):Sc:=atS s (goR s r) c
def I5 (s:Sc):Sc:=goS s 0 0
def iG (s:Sc):Sv:=⟨s.row,s.col,s.pen,s.s0,s.s1,s.sh,s.org⟩
def Ka (s:Sc):Sc:=s.uV (iG s)
def Ll (s:Sc):Sc:=atS ((((s.uP s.sv.pen).uS s.sv.s0 s.sv.s1).u14 s.sv.sh).u16 s.sv.org) s.sv.row s.sv.col
theorem Lm (z:Int) {R:Nat} (h:1<=R):pin z R<R:=by
 unfold pin
 omega
theorem OP {r R:Nat} (h:r<R):pin r R=r:=by
 unfold pin
 omega
theorem DV {s:Sc} (h:Ab s) (r c:Int):Ab (atS s r c) where
 g:=h.g
 row:=Lm r h.g.1
 col:=Lm c h.g.2.2.1
 bot:=h.bot
 top:=h.top
 pen:=h.pen
 tabs:=h.tabs
 set:=h.set
 pend:=fun h=>nomatch h
 sv:=h.sv
theorem Br {s:Sc} (h:Ab s):PG.CK (BA s):=by
 have:=C.Ea.1 h.pen
 exact C.Ea.2 ⟨(by decide:C.col (-1)=true),this.2.1,by show(0:Int)<=0;omega,by show(0:Int)<=255;omega⟩
theorem IL {s:Sc} (h:Ab s) (n:Int):Ab ((s.uG (PG.Am s.g s.top s.bot n (BA s))).u5 false):=by
 obtain⟨e1,e2⟩:=PG.Dh s.g s.top s.bot n (BA s)
 generalize hG:PG.Am s.g s.top s.bot n (BA s)=G at e1 e2
 have hg:PG.BH G:=hG▸PG.E9 h.g (Br h) _ _ _
 refine⟨hg,?_,?_,?_,?_,h.pen,h.tabs,h.set,(fun h=>nomatch h),?_⟩
 ·show s.row<G.rows
  rw [e1]
  exact h.row
 ·show s.col<G.AB
  rw [e2]
  exact h.col
 ·show s.bot<G.rows
  rw [e1]
  exact h.bot
 ·show s.top<s.bot\/(G.rows=1/\s.top=0/\s.bot=0)
  rw [e1]
  exact h.top
 ·show JZ G.rows G.AB s.sv
  rw [e1,e2]
  exact h.sv
theorem JI {s:Sc} (h:Ab s):Ab (Dm s):=by
 unfold Dm
 split
 ·exact IL h 1
 ·exact DV h _ _
theorem Rp {s:Sc} (h:Ab s):Ab (Jj s):=by
 unfold Jj
 split
 ·exact IL h (-1)
 ·exact DV h _ _
theorem Lp {s:Sc} (h:Ab s):Ab (Ka s):={h with sv:=⟨h.row,h.col,h.pen,h.set⟩}
theorem Lr {s:Sc} (h:Ab s):Ab (Ll s) where
 g:=h.g
 row:=Lm _ h.g.1
 col:=Lm _ h.g.2.2.1
 bot:=h.bot
 top:=h.top
 pen:=h.sv.pen
 tabs:=h.tabs
 set:=h.sv.set
 pend:=fun h=>nomatch h
 sv:=h.sv
theorem C9 {s:Sc} (h:Ab s):s.top<=s.bot:=by
 rcases h.top with h | ⟨_,h1,h2⟩<;>omega
end SN
end Go.Proofs.YtoaabebgmdbjeaaGreatDoor
namespace Go.Proofs.YtoaabebgmdbjeaaGreatDoor
open Go.RowKit
namespace SN
def Di (s:Sc) (n:Int) (on:Bool):Sc:=if n=1 then s.u18 on else if n=6 then I5 (s.u16 on) else if n=7 then (s.u15 on).u5 (s.pend&&on) else if n=25 then s.u17 on else s
def P6 (s:Sc) (n:Int):Bool:=if n=1 then s.keys else if n=6 then s.org else if n=7 then s.wrap else s.shown
def Cu (n:Int):Prop:=n=1\/n=6\/n=7\/n=25
instance (n:Int):Decidable (Cu n):=inferInstanceAs (Decidable (n=1\/n=6\/n=7\/n=25))
def DC (s:Sc) (n:Int):Int:=if Cu n then (if P6 s n then 1 else 2) else 0
theorem OQ (s:Sc) (on:Bool):Di s 7 on=(s.u15 on).u5 (s.pend&&on):=rfl
theorem bE (s:Sc) {n:Int} (on:Bool) (h: ¬Cu n):Di s n on=s:=by
 unfold Cu at h
 unfold Di
 rw [if_neg (by omega),if_neg (by omega),if_neg (by omega),if_neg (by omega)]
theorem NZ {s:Sc} (h:Ab s) (b:Bool):Ab (s.u16 b):=⟨h.g,h.row,h.col,h.bot,h.top,h.pen,h.tabs,h.set,h.pend,h.sv⟩
theorem Dx {s:Sc} (h:Ab s) (n:Int) (on:Bool):Ab (Di s n on):=by
 unfold Di
 split
 ·exact⟨h.g,h.row,h.col,h.bot,h.top,h.pen,h.tabs,h.set,h.pend,h.sv⟩
 ·split
  ·exact DV (NZ h on) _ _
  ·split
   ·refine⟨h.g,h.row,h.col,h.bot,h.top,h.pen,h.tabs,h.set,fun e=>?_,h.sv⟩
    have e':(s.pend&&on)=true:=e
    rw [Bool.and_eq_true] at e'
    exact⟨e'.2,(h.pend e'.1).2⟩
   ·split
    ·exact⟨h.g,h.row,h.col,h.bot,h.top,h.pen,h.tabs,h.set,h.pend,h.sv⟩
    ·exact h
theorem VP {n:Int} (h:Cu n) (s:Sc) (on:Bool):P6 (Di s n on) n=on:=by
 rcases h with rfl | rfl | rfl | rfl<;>rfl
theorem Rq (s:Sc) (n:Int) (on:Bool):(Di s n on).g=s.g:=by
 unfold Di
 repeat' split
 all_goals rfl
theorem YB (s:Sc) (n:Int) (on:Bool):(Di s n on).top=s.top:=by
 unfold Di
 repeat' split
 all_goals rfl
theorem Rs (s:Sc) {n:Int} (h:Cu n) (on:Bool):DC (Di s n on) n=if on then 1 else 2:=by
 unfold DC
 rw [if_pos h,VP h]
end SN
end Go.Proofs.YtoaabebgmdbjeaaGreatDoor
namespace Go.Proofs.YtoaabebgmdbjeaaGreatDoor.PA
def lasts:List Int:= [6,7,23,24,25,26,27,31,47,57,58,59,63,79,80,87,88,90,91,92,93,95,126,127]
def kinds:List Int:= [0,1,0,2,0,2,3,0,4,5,6,7,8,13,11,13,11,13,9,12,10,11,13,14]
def Rt (k:Nat):Int:=lasts.getD k 0
def YC (k:Nat):Int:=kinds.getD k 15
def place (b:Int):Nat:=(lasts.takeWhile (fun l=>l<b)).length
def cls (b:Int):Int:=YC (place b)
def tab:List Int:= [
 0,0,0,0,0,0,0,0,0,0,0,0,0,0,0,0,
 32,32,0,2,16,16,16,16,16,16,16,16,16,16,0,48,
 32,32,1,2,115,145,145,145,145,5,9,11,145,145,0,49,
 32,32,1,2,4,145,145,145,145,145,145,145,145,145,0,49,
 32,32,1,2,0,1,1,1,1,1,1,1,1,1,0,49,
 32,32,1,2,119,86,8,102,70,161,161,161,161,161,0,49,
 32,32,1,2,119,80,8,96,8,161,161,161,161,161,0,49,
 32,32,1,2,8,8,8,8,8,161,161,161,161,161,0,49,
 32,32,1,2,0,0,0,0,0,1,1,1,1,1,0,49,
 0,177,1,10,128,128,128,128,128,128,128,128,128,128,128,128,
 194,194,194,194,194,194,194,194,194,194,194,194,177,194,194,194,
 0,1,1,12,0,0,0,0,0,0,0,0,0,0,0,0,
 194,194,194,194,194,194,194,194,194,194,194,194,1,194,194,194]
def cellAt (st c:Int):Int:=tab.getD (st.toNat*16+c.toNat) 0
def mv (st b:Int):Int:=cellAt st (cls b)
def act (st b:Int):Int:=mv st b-mv st b%16
def nxt (st b:Int):Int:=if mv st b%16=0 then st else mv st b%16
structure D where
 priv:Int
 inter:Int
 parts:Nat
 params:List Int
 text:List Int
def d0:D:=⟨0,0,0, [], []⟩
structure S where
 st:Int
 dec:U.St
 d:D
def s0:S:=⟨1,U.z,d0⟩
structure Ev where
 kind:Int
 rune:Int
 priv:Int
 inter:Int
 final:Int
 params:List Int
 text:List Int
def pr (r:Int):Ev:=⟨1,r,0,0,0, [], []⟩
def D.begin_ (d:D):D:=⟨d.priv,d.inter,d.parts+1,if d.parts<16 then d.params++ [-1] else d.params,d.text⟩
def up (x n:Int):Int:=if (if x<0 then 0 else x)*10+n<65535 then (if x<0 then 0 else x)*10+n else 65535
def D.first (d:D):D:=if d.parts=0 then d.begin_ else d
def D.put (d:D) (n:Int):D:=if 16<d.parts then d else ⟨d.priv,d.inter,d.parts,d.params.set (d.parts-1) (up (d.params.getD (d.parts-1) 0) n),d.text⟩
def D.digit (d:D) (n:Int):D:=d.first.put n
def D.semi (d:D):D:=d.first.begin_
def doo (s:S) (a b:Int):S × List Ev:=
 if a=16 then (s, [pr b])
 else if a=32 then (s, [⟨2,0,0,0,b, [], []⟩])
 else if a=48 then (⟨s.st,(U.it s.dec b).1,s.d⟩,(U.it s.dec b).2.map pr)
 else if a=64 then (⟨s.st,s.dec,⟨b,s.d.inter,s.d.parts,s.d.params,s.d.text⟩⟩, [])
 else if a=80 then (⟨s.st,s.dec,s.d.digit (b-48)⟩, [])
 else if a=96 then (⟨s.st,s.dec,s.d.semi⟩, [])
 else if a=112 then (⟨s.st,s.dec,⟨s.d.priv,b,s.d.parts,s.d.params,s.d.text⟩⟩, [])
 else if a=128 then ((if s.d.text.length=4096 then ⟨11,s.dec,s.d⟩ else ⟨s.st,s.dec,⟨s.d.priv,s.d.inter,s.d.parts,s.d.params,s.d.text++ [b]⟩⟩), [])
 else if a=144 then (s, [⟨3,0,0,s.d.inter,b, [], []⟩])
 else if a=160 then (s, [⟨4,0,s.d.priv,s.d.inter,b,s.d.params, []⟩])
 else if a=176 then (s, [⟨5,0,0,0,0, [],s.d.text⟩])
 else (s, [])
def brk (s:S) (b:Int):S × List Ev:=if b<128/\0<s.dec.need then (⟨s.st,U.z,s.d⟩, [pr 65533]) else (s, [])
def lets (st:Int):Bool:=decide (st=1\/st=2\/st=4\/st=8\/st=11)
def clr (s:S):S:=if lets s.st=true then ⟨s.st,s.dec,d0⟩ else s
def mid (s:S) (b:Int):Int × S:=
 if act s.st b=192 then (act (nxt s.st b) b,⟨nxt (nxt s.st b) b,s.dec,d0⟩) else (act s.st b,⟨nxt s.st b,s.dec,s.d⟩)
def take (s:S) (b:Int):S × List Ev:=
 (clr (doo (mid (brk s b).1 b).2 (mid (brk s b).1 b).1 b).1,(brk s b).2++(doo (mid (brk s b).1 b).2 (mid (brk s b).1 b).1 b).2)
structure D.ok (d:D):Prop where
 priv:0<=d.priv/\d.priv<256
 inter:0<=d.inter/\d.inter<256
 len:d.params.length=min d.parts 16
 nums: ∀x∈d.params, -1<=x/\x<=65535
 tlen:d.text.length<=4096
 bytes: ∀x∈d.text,0<=x/\x<256
structure S.ok (s:S):Prop where
 st:1<=s.st/\s.st<=12
 dec:s.dec.ok
 d:s.d.ok
def fD (a:Int):Prop:=a=0\/a=16\/a=32\/a=48\/a=64\/a=80\/a=96\/a=112\/a=128\/a=144\/a=160\/a=176
instance (a:Int):Decidable (fD a):=by unfold fD;infer_instance
theorem YD (b:Int):place b<=24:=by
 have:=List.takeWhile_sublist (l:=lasts) (fun l=>decide (l<b))
 exact this.length_le
theorem Bz {b:Int} {k:Nat} (h0:0<=b) (h1:b<256) (hk:k<place b):Rt k<b:=by
 have h: ∀b:Fin 256, ∀k:Fin 24,k.val<place (b.val:Int)->Rt k.val<(b.val:Int):=by decide+kernel
 obtain⟨n,rfl⟩:=Int.eq_ofNat_of_zero_le h0
 have:=YD (n:Int)
 exact h ⟨n,by omega⟩ ⟨k,by omega⟩ hk
end Go.Proofs.YtoaabebgmdbjeaaGreatDoor.PA
namespace Go.Proofs.YtoaabebgmdbjeaaGreatDoor.PA
end Go.Proofs.YtoaabebgmdbjeaaGreatDoor.PA
namespace Go.Proofs.YtoaabebgmdbjeaaGreatDoor.PA
end Go.Proofs.YtoaabebgmdbjeaaGreatDoor.PA
namespace Go.Proofs.YtoaabebgmdbjeaaGreatDoor.PA
end Go.Proofs.YtoaabebgmdbjeaaGreatDoor.PA
namespace Go.Proofs.YtoaabebgmdbjeaaGreatDoor.U
end Go.Proofs.YtoaabebgmdbjeaaGreatDoor.U
namespace Go.Proofs.YtoaabebgmdbjeaaGreatDoor.PA
def Es (r:Int):Prop:=(32<=r/\r<=126)\/(128<=r/\r<=1114111/\(r<55296\/57343<r))
def Ca (i:Int):Prop:=i=0\/(32<=i/\i<=47)
def opens (f:Int):Prop:=f=91\/f=93\/f=80\/f=88\/f=94\/f=95
def EW (p:Int):Prop:=p=0\/(60<=p/\p<=63)
instance (f:Int):Decidable (opens f):=by unfold opens;infer_instance
def Right (e:Ev):Prop:=
 (∃r,e=pr r/\Es r)\/
 (∃b,e=⟨2,0,0,0,b, [], []⟩/\0<=b/\b<32/\b≠24/\b≠26/\b≠27)\/
 (∃i f,e=⟨3,0,0,i,f, [], []⟩/\Ca i/\48<=f/\f<=126/\(i=0-> ¬opens f))\/
 (∃p i f ps,e=⟨4,0,p,i,f,ps, []⟩/\EW p/\Ca i/\64<=f/\f<=126/\ps.length<=16/\(∀x∈ps, -1<=x/\x<=65535)/\ps≠ [-1])\/
 (∃t,e=⟨5,0,0,0,0, [],t⟩/\t.length<=4096/\ ∀x∈t,32<=x/\x<256)
def Dq:Nat->Nat->List Int
 | 0,n=> [48+(n:Int)]
 | k+1,n=>if n<10 then [48+(n:Int)] else Dq k (n / 10)++ [48+((n%10:Nat):Int)]
def Cj (n:Nat):List Int:=Dq 20 n
def num (x:Int):List Int:=if x= -1 then [] else Cj x.toNat
def joined:List Int->List Int
 | [] => []
 | [x] =>num x
 | x::y::l=>num x++59::joined (y::l)
def Ba (i:Int):List Int:=if i=0 then [] else [i]
def bytesOf (e:Ev):List Int:=
 if e.kind=1 then U.en e.rune
 else if e.kind=2 then [e.final]
 else if e.kind=3 then 27::Ba e.inter++ [e.final]
 else if e.kind=4 then 27::91::Ba e.priv++joined e.params++Ba e.inter++ [e.final]
 else 27::93::e.text++ [7]
def Bt (es:List Ev):List Int:=es.flatMap bytesOf
end Go.Proofs.YtoaabebgmdbjeaaGreatDoor.PA
namespace Go.Proofs.YtoaabebgmdbjeaaGreatDoor.PA
instance (r:Int):Decidable (Es r):=by unfold Es;infer_instance
instance (i:Int):Decidable (Ca i):=by unfold Ca;infer_instance
instance (p:Int):Decidable (EW p):=by unfold EW;infer_instance
def Bb (e:Ev):Bool:=
 if e.kind=1 then decide (Es e.rune/\e.priv=0/\e.inter=0/\e.final=0/\e.params= [] /\e.text= [])
 else if e.kind=2 then decide (e.rune=0/\e.priv=0/\e.inter=0/\e.params= [] /\e.text= [] /\0<=e.final/\e.final<32/\e.final≠24/\e.final≠26/\e.final≠27)
 else if e.kind=3 then decide (e.rune=0/\e.priv=0/\e.params= [] /\e.text= [] /\Ca e.inter/\48<=e.final/\e.final<=126/\(e.inter=0-> ¬opens e.final))
 else if e.kind=4 then decide (e.rune=0/\e.text= [] /\EW e.priv/\Ca e.inter/\64<=e.final/\e.final<=126/\e.params.length<=16/\(∀x∈e.params, -1<=x/\x<=65535)/\e.params≠ [-1])
 else if e.kind=5 then decide (e.rune=0/\e.priv=0/\e.inter=0/\e.final=0/\e.params= [] /\e.text.length<=4096/\ ∀x∈e.text,32<=x/\x<256)
 else false
theorem Jk {e:Ev} (h:Bb e=true):Right e:=by
 obtain⟨k,r,p,i,f,ps,t⟩:=e
 unfold Bb at h
 simp only [] at h
 by_cases h1:k=1
 ·rw [if_pos h1] at h
  obtain⟨a,rfl,rfl,rfl,rfl,rfl⟩:=of_decide_eq_true h
  subst h1
  exact .inl ⟨r,rfl,a⟩
 rw [if_neg h1] at h
 by_cases h2:k=2
 ·rw [if_pos h2] at h
  obtain⟨rfl,rfl,rfl,rfl,rfl,a⟩:=of_decide_eq_true h
  subst h2
  exact .inr (.inl ⟨f,rfl,a⟩)
 rw [if_neg h2] at h
 by_cases h3:k=3
 ·rw [if_pos h3] at h
  obtain⟨rfl,rfl,rfl,rfl,a⟩:=of_decide_eq_true h
  subst h3
  exact .inr (.inr (.inl ⟨i,f,rfl,a⟩))
 rw [if_neg h3] at h
 by_cases h4:k=4
 ·rw [if_pos h4] at h
  obtain⟨rfl,rfl,a⟩:=of_decide_eq_true h
  subst h4
  exact .inr (.inr (.inr (.inl ⟨p,i,f,ps,rfl,a⟩)))
 rw [if_neg h4] at h
 by_cases h5:k=5
 ·rw [if_pos h5] at h
  obtain⟨rfl,rfl,rfl,rfl,rfl,a⟩:=of_decide_eq_true h
  subst h5
  exact .inr (.inr (.inr (.inr ⟨t,rfl,a⟩)))
 rw [if_neg h5] at h
 cases h
end Go.Proofs.YtoaabebgmdbjeaaGreatDoor.PA
namespace Go.Proofs.YtoaabebgmdbjeaaGreatDoor
open Go.RowKit
namespace RP
open SN
def first(l:List Int):Int:=if l.getD 0 0<1 then 0 else l.getD 0 0
def no:PA.Ev:=⟨0,0,0,0,0, [], []⟩
def place (s:Sc):PA.Ev:=⟨4,0,0,0,82, [((if s.org then s.row-s.top else s.row:Nat):Int)+1,(s.col:Int)+1], []⟩
def ans (s:Sc) (k p i f:Int) (l:List Int):PA.Ev:=
 if k≠4 then no
 else if (p=0/\i=0)/\f=110/\first l=5 then ⟨4,0,0,0,110, [0], []⟩
 else if (p=0/\i=0)/\f=110/\first l=6 then place s
 else if (p=0/\i=0)/\f=99/\first l=0 then ⟨4,0,63,0,99, [6], []⟩
 else if p=63/\i=36/\f=112 then ⟨4,0,63,36,121, [first l,DC s (first l)], []⟩
 else no
def said (s:Sc) (k p i f:Int) (l:List Int):List Int:=
 if k≠4 then []
 else if p=63/\i=36/\f=112 then [27,91,63] ++PA.Cj (first l).toNat++ [59] ++ [48+DC s (first l)] ++ [36,121]
 else if¬(p=0/\i=0) then []
 else if f=110/\first l=5 then [27,91,48,110]
 else if f=110/\first l=6 then [27,91] ++PA.Cj ((if s.org then s.row-s.top else s.row)+1)++ [59] ++PA.Cj (s.col+1)++ [82]
 else if f=99/\first l=0 then [27,91,63,54,99]
 else []
theorem P7 {l:List Int} (h: ∀x∈l,x<=65535):0<=first l/\first l<=65535:=by
 have:l.getD 0 0<=65535:=by
  cases l with
  | nil=>simp
  | cons a l=>simpa using h a (by simp)
 unfold first
 split<;>omega
theorem VQ (s:Sc) (n:Int):0<=DC s n/\DC s n<=2:=by
 unfold DC
 split
 ·split<;>omega
 ·omega
theorem P8 {s:Sc} (h1:s.row<=60000) (h2:s.col<=60000):PA.Bb (place s)=true:=by
 unfold PA.Bb place
 simp [PA.EW,PA.Ca]
 split<;>omega
theorem Na (s:Sc) (k p i f:Int) (l:List Int):
  (ans s k p i f l=no/\said s k p i f l= [])\/
  (k=4/\p=0/\i=0/\f=110/\first l=5/\ans s k p i f l=⟨4,0,0,0,110, [0], []⟩/\said s k p i f l= [27,91,48,110])\/
  (k=4/\p=0/\i=0/\f=110/\first l=6/\ans s k p i f l=place s/\said s k p i f l= [27,91] ++PA.Cj ((if s.org then s.row-s.top else s.row)+1)++ [59] ++PA.Cj (s.col+1)++ [82])\/
  (k=4/\p=0/\i=0/\f=99/\first l=0/\ans s k p i f l=⟨4,0,63,0,99, [6], []⟩/\said s k p i f l= [27,91,63,54,99])\/
  (k=4/\p=63/\i=36/\f=112/\ans s k p i f l=⟨4,0,63,36,121, [first l,DC s (first l)], []⟩/\said s k p i f l= [27,91,63] ++PA.Cj (first l).toNat++ [59] ++ [48+DC s (first l)] ++ [36,121]):=by
 have n4: ¬(k≠4)<->k=4:=by omega
 by_cases hk:k=4
 ·by_cases hq:p=63/\i=36/\f=112
  ·right;right;right;right
   refine⟨hk,hq.1,hq.2.1,hq.2.2,?_,?_⟩
   ·unfold ans
    obtain⟨rfl,rfl,rfl⟩:=hq
    simp [hk]
   ·unfold said
    rw [if_neg (n4.2 hk),if_pos hq]
  ·by_cases h0:p=0/\i=0
   ·obtain⟨rfl,rfl⟩:=h0
    by_cases h5:f=110/\first l=5
    ·right;left
     exact⟨hk,rfl,rfl,h5.1,h5.2,by unfold ans;simp [hk,h5],by unfold said;simp [hk,h5]⟩
    ·by_cases h6:f=110/\first l=6
     ·right;right;left
      exact⟨hk,rfl,rfl,h6.1,h6.2,by unfold ans;simp [hk,h6],by unfold said;simp [hk,h6]⟩
     ·by_cases h9:f=99/\first l=0
      ·right;right;right;left
       exact⟨hk,rfl,rfl,h9.1,h9.2,by unfold ans;simp [hk,h9],by unfold said;simp [hk,h9]⟩
      ·left
       exact⟨by unfold ans;simp [hk,h5,h6,h9],by unfold said;simp [hk,h5,h6,h9]⟩
   ·left
    exact⟨by unfold ans;simp [hk,h0,hq],by unfold said;simp [hk,h0,hq]⟩
 ·left
  exact⟨by unfold ans;simp [hk],by unfold said;simp [hk]⟩
theorem Ku {x:Int} (h:0<=x):PA.num x=PA.Cj x.toNat:=by
 unfold PA.num
 rw [if_neg (by omega)]
theorem bF {x:Int} (h0:0<=x) (h:x<=9):PA.Cj x.toNat= [48+x] :=by
 unfold PA.Cj
 show PA.Dq (19+1) x.toNat=_
 unfold PA.Dq
 rw [if_pos (by omega)]
 congr 1
 omega
theorem YE (s:Sc) (k p i f:Int) (l:List Int) (h1:s.row<=60000) (h2:s.col<=60000) (hl: ∀x∈l,x<=65535):
  (PA.Bb (ans s k p i f l)=true/\PA.bytesOf (ans s k p i f l)=said s k p i f l/\said s k p i f l≠ [])\/(PA.Bb (ans s k p i f l)=false/\said s k p i f l= []):=by
 have hf:=P7 hl
 have hr:=VQ s (first l)
 rcases Na s k p i f l with ⟨e1,e2⟩ | ⟨_,_,_,_,_,e1,e2⟩ | ⟨_,_,_,_,_,e1,e2⟩ | ⟨_,_,_,_,_,e1,e2⟩ | ⟨_,_,_,_,e1,e2⟩<;>rw [e1,e2]
 ·right;exact⟨rfl,rfl⟩
 ·left;refine⟨by decide,by decide,by simp⟩
 ·left
  refine⟨P8 h1 h2,?_,by simp⟩
  unfold PA.bytesOf place
  simp [PA.Ba,PA.joined]
  rw [Ku (by split<;>omega),Ku (by omega)]
  split<;>simp
 ·left;refine⟨by decide,by decide,by simp⟩
 ·left
  refine⟨?_,?_,by simp⟩
  ·unfold PA.Bb
   simp [PA.EW,PA.Ca]
   omega
  ·unfold PA.bytesOf
   simp [PA.Ba,PA.joined]
   rw [Ku hf.1,Ku hr.1,bF hr.1 (by omega)]
   simp
theorem P9 (s:Sc) (k p i f:Int) (l:List Int):(ans s k p i f l).rune=0/\(ans s k p i f l).text= [] /\0<=(ans s k p i f l).final/\(ans s k p i f l).params.length<=2:=by
 rcases Na s k p i f l with ⟨e1,e2⟩ | ⟨_,_,_,_,_,e1,e2⟩ | ⟨_,_,_,_,_,e1,e2⟩ | ⟨_,_,_,_,_,e1,e2⟩ | ⟨_,_,_,_,e1,e2⟩<;>rw [e1] <;>simp [no,place]
end RP
end Go.Proofs.YtoaabebgmdbjeaaGreatDoor
namespace Go.Proofs.YtoaabebgmdbjeaaGreatDoor
open Go.RowKit
theorem bG {k:IntKind} {a b:Int} (h:a=b):Ending.returned (.int k a)=.returned (.int k b):=by rw [h]
theorem Ru {k:IntKind} {a b:Int} (h:a=b):Ending.returned (.int k a)=.returned (.int k b):=by rw [h]
theorem YF {a b:Bool} (h:a=b):Ending.returned (.bool a)=.returned (.bool b):=by rw [h]
theorem Fw (n:Int) (w:World):Calls Tryz.prog 204 #[.int .i64 n] w fun e w'=>e=.returned (.bool (U.isR n))/\w=w':=by
 have cs:n<0\/1114111<n\/(0<=n/\n<55296)\/(55296<=n/\n<=57343)\/(57343<n/\n<=1114111):=by omega
 have hr: ∀b:Bool,(b=true<->(0<=n/\n<=1114111/\(n<55296\/57343<n)))->Ending.returned (.bool b)=.returned (.bool (U.isR n)):=fun b hb=>YF (by unfold U.isR;rw [Bool.eq_iff_iff,hb,decide_eq_true_iff])
 have HR:=Lib.hid hr
 clear hr
 rcases cs with h | h | h | h | h
 all_goals
  go_enter Tryz.func204,Tryz.ntmps204
  go_wp2
  go_ret
  exact⟨HR.out _ (by simp;omega),rfl⟩
theorem IQ (r:Int) (w:World):Calls Tryz.prog 205 #[.int .i32 r] w fun e w'=>e=.returned (.int .i64 (U.sz r))/\w=w':=by
 have hr: ∀k:Int,U.sz r=k->Ending.returned (.int .i64 k)=.returned (.int .i64 (U.sz r)):=fun k hb=>bG hb.symm
 have HR:=Lib.hid hr
 clear hr
 have cs:r<128\/(128<=r/\r<2048)\/(2048<=r/\r<65536)\/65536<=r:=by omega
 rcases cs with h | h | h | h
 all_goals
  go_enter Tryz.func205,Tryz.ntmps205
  go_wp2
  go_ret
  exact⟨HR.out _ (by unfold U.sz;repeat(first | rw [if_pos (by omega)] | rw [if_neg (by omega)])),rfl⟩
end Go.Proofs.YtoaabebgmdbjeaaGreatDoor
namespace Go.Proofs.YtoaabebgmdbjeaaGreatDoor
open Go.RowKit
end Go.Proofs.YtoaabebgmdbjeaaGreatDoor
namespace Go.Proofs.YtoaabebgmdbjeaaGreatDoor
open Go.RowKit
end Go.Proofs.YtoaabebgmdbjeaaGreatDoor
namespace Go.Proofs.YtoaabebgmdbjeaaGreatDoor
open Go.RowKit
end Go.Proofs.YtoaabebgmdbjeaaGreatDoor
namespace Go.Proofs.YtoaabebgmdbjeaaGreatDoor
open Go.RowKit
def YG:Array Value:=((List.range 24).flatMap fun k=> [Value.int .u8 (PA.Rt k),Value.int .u8 (PA.YC k)]).toArray
def VT:Array Value:=(PA.tab.map (Value.int .u8)).toArray
structure Ls (w:World):Prop where
 runs: ∃t,w.heap[5]? =some (.cells YG t (0,0))
 moves: ∃t,w.heap[2]? =some (.cells VT t (0,0))
theorem Ls.below {w w':World} {B:Nat} (h:Ls w) (hb:Below B w w') (hB:6<=B):Ls w':=by
 obtain⟨⟨t,h⟩,⟨u,k⟩⟩:=h
 exact⟨⟨t,(hb.block _ (by omega)).trans h⟩,⟨u,(hb.block _ (by omega)).trans k⟩⟩
theorem Ls.lt {w:World} (h:Ls w):6<=w.heap.size:=by
 obtain⟨⟨t,h⟩,⟨u,k⟩⟩:=h
 have a:=(Array.getElem?_eq_some_iff.1 h).1
 have b:=(Array.getElem?_eq_some_iff.1 k).1
 omega
theorem Ls.keep {w w':World} (h:Ls w) (hb:Below w.heap.size w w'):Ls w':=h.below hb h.lt
end Go.Proofs.YtoaabebgmdbjeaaGreatDoor
namespace Go.Proofs.YtoaabebgmdbjeaaGreatDoor
open Go.RowKit
end Go.Proofs.YtoaabebgmdbjeaaGreatDoor
namespace Go.Proofs.YtoaabebgmdbjeaaGreatDoor
open Go.RowKit
def CG (l:List Int):List Value:=l.map (Value.int .i64)
theorem YH:(Tryz.prog.info? 3).map (fun i=>(i.zero,i.size,i.bytes))=some (some (.int .i64 0),1,8):=by kernel_rfl
def Rv (s:PA.S) (vp vt:Value):Array Value:= #[.int .u8 s.st,.int .i64 s.dec.need,.int .i64 s.dec.have_,.int .i64 s.dec.acc,.int .u8 s.d.priv,.int .u8 s.d.inter,.int .i64 s.d.parts,vp,vt]
structure PB (w:World) (B g:Nat) (s:PA.S) (vp vt:Value):Prop where
 box:Box w g 99 (Rv s vp vt)
 par:w.ownsRow B 3 1 vp s.d.params.length (CG s.d.params)
 txt:w.ownsRow B 5 1 vt s.d.text.length (u8s s.d.text)
 low:B<=g
 pn:s.d.params= [] ->vp=.slice none 0 0
 tn:s.d.text= [] ->vt=.slice none 0 0
theorem PB.lt {w:World} {B g:Nat} {s:PA.S} {vp vt:Value} (h:PB w B g s vp vt):g<w.heap.size:=h.box.lt
theorem PB.kept {w w':World} {L:List (Option Nat)} {B g:Nat} {s:PA.S} {vp vt:Value} (h:PB w B g s vp vt) (k:Kept L w w') (hg:some g∉L) (hp: ∀b,vp.ownBlock=some b->some b∉L) (ht: ∀b,vt.ownBlock=some b->some b∉L):PB w' B g s vp vt:=
 ⟨h.box.kept k hg,DT h.par k hp,DT h.txt k ht,h.low,h.pn,h.tn⟩
theorem PB.below {w w':World} {B g:Nat} {s:PA.S} {vp vt:Value} (h:PB w B g s vp vt) (hb:Below w.heap.size w w'):PB w' B g s vp vt:=
 h.kept (Kept.of_below (L:= []) hb) (by simp) (by simp) (by simp)
theorem PB.alloc {w:World} {B g:Nat} {s:PA.S} {vp vt:Value} (h:PB w B g s vp vt) (o:Obj):PB (w.alloc o) B g s vp vt:=h.below ((Below.refl _ _).alloc (Nat.le_refl _) _)
theorem PB.drewN {w:World} {B g:Nat} {s:PA.S} {vp vt:Value} (h:PB w B g s vp vt) (n:Nat):PB (w.drewN n) B g s vp vt:=⟨h.box,h.par,h.txt,h.low,h.pn,h.tn⟩
theorem PB.store {w:World} {B g:Nat} {s s':PA.S} {vp vt vp' vt':Value} (h:PB w B g s vp vt) (i:Nat) (u:Value) (hc:(Rv s vp vt).setIfInBounds i u=Rv s' vp' vt')
  (hp:w.ownsRow B 3 1 vp' s'.d.params.length (CG s'.d.params)) (ht:w.ownsRow B 5 1 vt' s'.d.text.length (u8s s'.d.text)) (pn:s'.d.params= [] ->vp'=.slice none 0 0) (tn:s'.d.text= [] ->vt'=.slice none 0 0):
  PB (w.setCell ⟨g,i,none⟩ u) B g s' vp' vt':=
 ⟨by rw [<- hc];exact h.box.set i u,D7 hp (Ad hp h.box (by decide)) u,D7 ht (Ad ht h.box (by decide)) u,h.low,pn,tn⟩
end Go.Proofs.YtoaabebgmdbjeaaGreatDoor
namespace Go.Proofs.YtoaabebgmdbjeaaGreatDoor
open Go.RowKit
def Gw (e:PA.Ev) (u:Value):List Value:= [.int .i64 e.kind,.int .i32 e.rune,.int .u8 e.priv,.int .u8 e.inter,.int .u8 e.final,u,.string (strOfNums e.text)]
def J7 (M:List (PA.Ev × Value)):List Value:=M.flatMap fun p=>Gw p.1 p.2
def VU (w:World) (B:Nat) (M:List (PA.Ev × Value)):Prop:= ∀p∈M,w.ownsRow B 3 1 p.2 p.1.params.length (CG p.1.params)
theorem VU.kept {w w':World} {B:Nat} {M:List (PA.Ev × Value)} {L:List (Option Nat)} (h:VU w B M) (k:Kept L w w') (hn: ∀p∈M, ∀b,p.2.ownBlock=some b->some b∉L):VU w' B M:=
 fun p hp=>DT (h p hp) k (hn p hp)
theorem VU.nil (w:World) (B:Nat):VU w B [] :=fun p hp=>by cases hp
end Go.Proofs.YtoaabebgmdbjeaaGreatDoor
namespace Go.Proofs.YtoaabebgmdbjeaaGreatDoor
open Go.RowKit
end Go.Proofs.YtoaabebgmdbjeaaGreatDoor
namespace Go.Proofs.YtoaabebgmdbjeaaGreatDoor
open Go.RowKit
end Go.Proofs.YtoaabebgmdbjeaaGreatDoor
namespace Go.Proofs.YtoaabebgmdbjeaaGreatDoor
open Go.RowKit
end Go.Proofs.YtoaabebgmdbjeaaGreatDoor
namespace Go.Proofs.YtoaabebgmdbjeaaGreatDoor
open Go.RowKit
theorem Ls.kept {w w':World} {L:List (Option Nat)} (h:Ls w) (k:Kept L w w') (hL: ∀b,some b∈L->6<=b):Ls w':=by
 have hlt:=h.lt
 obtain⟨⟨t,h⟩,⟨u,g⟩⟩:=h
 exact⟨⟨t,(k.block _ (by omega) (fun e=>by have:=hL _ e;omega)).trans h⟩,⟨u,(k.block _ (by omega) (fun e=>by have:=hL _ e;omega)).trans g⟩⟩
end Go.Proofs.YtoaabebgmdbjeaaGreatDoor
namespace Go.Proofs.YtoaabebgmdbjeaaGreatDoor
open Go.RowKit
def Fed (B g:Nat) (s':PA.S) (evs:List PA.Ev) (vp vt:Value) (w:World) (e:Ending) (w':World):Prop:=
 ∃v' vp' vt' M,e=.returned v'/\M.map (·.1)=evs/\PB w' B g s' vp' vt'/\w'.ownsRow B 34 7 v' M.length (J7 M)/\VU w' B M/\(∀p∈M, ∀q,p.2.ownBlock=some q->vp'.ownBlock≠some q/\(vp.ownBlock=some q\/w.heap.size<=q))/\
  Kept [some g,vp.ownBlock,vt.ownBlock] w w'/\(∀q,v'.ownBlock=some q->w.heap.size<=q)/\From w [vp.ownBlock] vp'.ownBlock/\From w [vt.ownBlock] vt'.ownBlock
end Go.Proofs.YtoaabebgmdbjeaaGreatDoor
namespace Go.Proofs.YtoaabebgmdbjeaaGreatDoor
open Go.RowKit
end Go.Proofs.YtoaabebgmdbjeaaGreatDoor
namespace Go.Proofs.YtoaabebgmdbjeaaGreatDoor
open Go.RowKit
def Lu (w:World) (A:Option Addr) (n:Nat) (M:List (PA.Ev × Value)):Prop:=
 M.length=n/\ ∀k p,M[k]? =some p-> ∃gb,A=some ⟨gb,0,none⟩/\gb<w.heap.size/\(∀j u,(Gw p.1 p.2)[j]? =some u->w.cell? ⟨gb,k*7+j,none⟩=some u)/\
  ∃Ap cp,p.2=.slice Ap p.1.params.length cp/\Seen w w.heap.size Ap p.1.params.length (CG p.1.params)/\p.1.params.length<=1024
theorem JJ (e:PA.Ev) (u:Value):(Gw e u).length=7:=rfl
theorem J8: ∀(M:List (PA.Ev × Value)) (k j:Nat) (p:PA.Ev × Value) (u:Value),M[k]? =some p->(Gw p.1 p.2)[j]? =some u->(J7 M)[k*7+j]? =some u
 | [],k,j,p,u,h,_=>by simp at h
 | q::M,0,j,p,u,h,hu=>by
  simp at h
  subst h
  have hj:j<7:=(List.getElem?_eq_some_iff.1 hu).1
  show(Gw q.1 q.2++J7 M)[0*7+j]? =some u
  rw [Nat.zero_mul,Nat.zero_add,List.getElem?_append_left (by rw [JJ];exact hj)]
  exact hu
 | q::M,k+1,j,p,u,h,hu=>by
  have ih:=J8 M k j p u (by simpa using h) hu
  show(Gw q.1 q.2++J7 M)[(k+1)*7+j]? =some u
  rw [List.getElem?_append_right (by rw [JJ];omega),JJ,show(k+1)*7+j-7=k*7+j by omega]
  exact ih
theorem Lu.kept {w w':World} {A:Option Addr} {n:Nat} {M:List (PA.Ev × Value)} (h:Lu w A n M) (hb:Below w.heap.size w w'):Lu w' A n M:=
 ⟨h.1,fun k p hp=>by
  obtain⟨gb,h1,h2,h3,Ap,cp,h4,h5,h6⟩:=h.2 k p hp
  exact⟨gb,h1,Nat.lt_of_lt_of_le h2 hb.size,fun j u hu=>(hb.cell (p:=⟨gb,k*7+j,none⟩) h2).trans (h3 j u hu),Ap,cp,h4,(h5.below hb).more hb.size,h6⟩⟩
theorem Box.seven {w:World} {g:Nat} {t:TypeId} {a b c d e f h:Value} (x:Box w g t #[a,b,c,d,e,f,h]):
  w.cell? ⟨g,0,none⟩=some a/\w.cell? ⟨g,1,none⟩=some b/\w.cell? ⟨g,2,none⟩=some c/\w.cell? ⟨g,3,none⟩=some d/\w.cell? ⟨g,4,none⟩=some e/\w.cell? ⟨g,5,none⟩=some f/\w.cell? ⟨g,6,none⟩=some h:=
 ⟨x.cell 0,x.cell 1,x.cell 2,x.cell 3,x.cell 4,x.cell 5,x.cell 6⟩
end Go.Proofs.YtoaabebgmdbjeaaGreatDoor
namespace Go.Proofs.YtoaabebgmdbjeaaGreatDoor
open Go.RowKit
theorem Fed.below {B g:Nat} {s':PA.S} {evs:List PA.Ev} {w w':World} {e:Ending} (h:Fed B g s' evs (.slice none 0 0) (.slice none 0 0) w e w') {C:Nat} (hC:C<=g) (hw:C<=w.heap.size):Below C w w':=by
 obtain⟨v',vp',vt',M,_,_,_,_,_,_,hK,_⟩:=h
 refine hK.toBelow hw (fun k hk=>?_)
 simp [Value.ownBlock] at hk
 omega
theorem QA (w:World) (s:ByteArray):(convert 9 30 (.string s)).run Tryz.prog w=.ok (.slice (some ⟨w.heap.size,0,none⟩) s.size (grownCap w s.size 0 5))
   (w.drew.alloc (.cells (bytesRow s (grownCap w s.size 0 5)) 5 ((bytesRow s (grownCap w s.size 0 5)).size,(bytesRow s (grownCap w s.size 0 5)).size+1))):=
 run_bytes_of_string w _ _ _ s Tryz.underlying9 Tryz.underlying30 Tryz.underlying5
theorem QB {w:World} {t:TypeId} {cs:Array Value} {lo hi n g B:Nat} {xs:List Value} (hg:g=w.heap.size) (hB:w.heap.size<B) (hn:xs.length=n) (hx: ∀(j:Nat) (u:Value),xs[j]? =some u->cs[j]? =some u):Seen (w.alloc (.cells cs t (lo,hi))) B (some ⟨g,0,none⟩) n xs:=by
 subst hg
 refine⟨hn,fun j u hu=>⟨_,rfl,hB,?_⟩⟩
 rw [Addr.add_lit,Nat.zero_add,World.cell?_alloc_mark]
 exact hx j u hu
theorem QC {w:World} {l:List Int} {cap lo hi n g B:Nat} (hl: ∀x∈l,0<=x/\x<256) (hg:g=w.heap.size) (hB:w.heap.size<B) (hn:l.length=n):Seen (w.alloc (.cells (bytesRow (strOfNums l) cap) 5 (lo,hi))) B (some ⟨g,0,none⟩) n (u8s l):=by
 refine QB hg hB (by simpa [u8s] using hn) (fun j u hu=>?_)
 rw [u8s,List.getElem?_map] at hu
 obtain⟨x,hx,rfl⟩:=Option.map_eq_some_iff.1 hu
 have hj:j<l.length:=(List.getElem?_eq_some_iff.1 hx).1
 have hxr:=hl x (List.mem_of_getElem? hx)
 have hjs:j<(strOfNums l).data.size:=by simpa [strOfNums] using hj
 rw [bytesRow_at _ _ _ hjs]
 have hx':l[j] =x:=by rw [List.getElem?_eq_getElem hj] at hx;exact Option.some.inj hx
 have:(strOfNums l).data[j] =UInt8.ofNat x.toNat:=by simp [strOfNums,hx']
 rw [this]
 simp
 omega
end Go.Proofs.YtoaabebgmdbjeaaGreatDoor
namespace Go.Proofs.YtoaabebgmdbjeaaGreatDoor
open Go.RowKit
theorem Ed {w:World} {B n c:Nat} {A:Option Addr} {l:List Int} (h:Seen w B A n (u8s l)):(convert 30 9 (.slice A n c)).run Tryz.prog w=.ok (.string (strOfNums l)) w:=by
 have hl:l.length=n:=by simpa [u8s] using h.1
 rcases A with _ | ad
 ·have:l= [] :=by
   rcases l with _ | ⟨x,l⟩
   ·rfl
   ·obtain⟨ad,h0,_⟩:=h.2 0 _ rfl
    cases h0
  subst this
  exact run_convert_bytes_nil w _ _ Tryz.underlying30 Tryz.underlying5 _ _ _ Tryz.underlying9
 ·have hh:(loadCells ad n).run Tryz.prog w=.ok ((l.map (Value.int .u8)).toArray) w:=by
   have:=run_loadCells_list (P:=Tryz.prog) w ad (l.map (Value.int .u8)) (fun j v hj=>by
    obtain⟨ad',h1,_,h3⟩:=h.2 j v hj
    injection h1 with h1
    subst h1
    exact h3)
   simpa [hl] using this
  rw [run_convert_bytes_string w _ _ _ _ n c Tryz.underlying30 Tryz.underlying5 Tryz.underlying9,run_bytesToString w _ n c l hh,foldl_push_bytes]
  simp [strOfNums,ByteArray.empty,ByteArray.emptyWithCapacity]
  rfl
def Lv (w:World) (s:ByteArray):Nat:=grownCap w s.size 0 5
def Eh (w:World) (s:ByteArray):World:=w.drew.alloc (.cells (bytesRow s (Lv w s)) 5 ((bytesRow s (Lv w s)).size,(bytesRow s (Lv w s)).size+1))
theorem YI (w:World) (s:ByteArray):(convert 9 30 (.string s)).run Tryz.prog w=.ok (.slice (some ⟨w.heap.size,0,none⟩) s.size (Lv w s)) (Eh w s):=QA w s
theorem Lx (w:World) (s:ByteArray):Below w.heap.size w (Eh w s):=(Below.refl _ _).drew.alloc (Nat.le_refl _) _
theorem Mi (w:World) (s:ByteArray):(Eh w s).heap.size=w.heap.size+1:=by simp [Eh]
theorem Mj {w:World} {s:ByteArray} {l:List Int} {n:Nat} (hs:s=strOfNums l) (hl: ∀x∈l,0<=x/\x<256) (hn:l.length=n):Seen (Eh w s) (Eh w s).heap.size (some ⟨w.heap.size,0,none⟩) n (u8s l):=by
 subst hs
 exact QC hl rfl (by rw [Mi];exact Nat.lt_succ_self _) hn
theorem strOfNums_size (l:List Int):(strOfNums l).size=l.length:=by simp [strOfNums,ByteArray.size]
end Go.Proofs.YtoaabebgmdbjeaaGreatDoor
namespace Go.Proofs.YtoaabebgmdbjeaaGreatDoor
open Go.RowKit
theorem QD {p:Prop} [Decidable p] {b:Bool} (h:b=true<->p):Ending.returned (.bool b)=.returned (.bool (decide p)):=by
 rw [show b=decide p from by rw [Bool.eq_iff_iff,h,decide_eq_true_iff]]
theorem Mk (r:Int) (w:World):Calls Tryz.prog 147 #[.int .i32 r] w fun e w'=>e=.returned (.bool (decide (PA.Es r)))/\w=w':=by
 have HR:=hide (fun b=>QD (p:=PA.Es r) (b:=b))
 have cs:r<32\/r=127\/1114111<r\/(32<=r/\r<127)\/(127<r/\r<55296)\/(55296<=r/\r<=57343)\/(57343<r/\r<=1114111):=by omega
 rcases cs with h | h | h | h | h | h | h
 all_goals
  (try have h127:(r !=127)=true:=by simp;omega)
  (try subst h)
  go_enter Tryz.func147,Tryz.ntmps147
  go_wp2
  go_ret
  exact⟨HR.out _ (by unfold PA.Es;simp;try omega),rfl⟩
def FQ (b:Int):Prop:=0<=b/\b<32/\b≠24/\b≠26/\b≠27
instance (b:Int):Decidable (FQ b):=by unfold FQ;infer_instance
theorem Ml (b:Int) (w:World) (h0:0<=b):Calls Tryz.prog 149 #[.int .u8 b] w fun e w'=>e=.returned (.bool (decide (FQ b)))/\w=w':=by
 have HR:=hide (fun x=>QD (p:=FQ b) (b:=x))
 by_cases h:b<32
 ·by_cases h1:b=24
  ·subst h1
   go_enter Tryz.func149,Tryz.ntmps149
   go_wp2
   go_ret
   exact⟨HR.out _ (by unfold FQ;simp),rfl⟩
  by_cases h2:b=26
  ·subst h2
   go_enter Tryz.func149,Tryz.ntmps149
   go_wp2
   go_ret
   exact⟨HR.out _ (by unfold FQ;simp),rfl⟩
  have e1:(b !=24)=true:=by simpa using h1
  have e2:(b !=26)=true:=by simpa using h2
  by_cases h3:b=27
  ·subst h3
   go_enter Tryz.func149,Tryz.ntmps149
   go_wp2
   go_ret
   exact⟨HR.out _ (by unfold FQ;simp),rfl⟩
  have e3:(b !=27)=true:=by simpa using h3
  have X:=hide (And.intro h1 (And.intro h2 h3))
  clear h1 h2 h3
  go_enter Tryz.func149,Tryz.ntmps149
  go_wp2
  go_ret
  exact⟨HR.out _ (by have:=X.out;unfold FQ;simp;omega),rfl⟩
 ·go_enter Tryz.func149,Tryz.ntmps149
  go_wp2
  go_ret
  exact⟨HR.out _ (by unfold FQ;simp;omega),rfl⟩
theorem IU (b:Int) (w:World):Calls Tryz.prog 185 #[.int .u8 b] w fun e w'=>e=.returned (.bool (decide (PA.Ca b)))/\w=w':=by
 have HR:=hide (fun x=>QD (p:=PA.Ca b) (b:=x))
 by_cases h:b=0
 ·subst h
  go_enter Tryz.func185,Tryz.ntmps185
  go_wp2
  go_ret
  exact⟨HR.out _ (by unfold PA.Ca;simp),rfl⟩
 ·have e1:(b==0)=false:=by simpa using h
  have cs:b<32\/(32<=b/\b<=47)\/47<b:=by omega
  have X:=hide h
  clear h
  rcases cs with h | h | h
  all_goals
   go_enter Tryz.func185,Tryz.ntmps185
   go_wp2
   go_ret
   exact⟨HR.out _ (by have:=X.out;unfold PA.Ca;simp;omega),rfl⟩
theorem Mq (b:Int) (w:World):Calls Tryz.prog 186 #[.int .u8 b] w fun e w'=>e=.returned (.bool (decide (PA.EW b)))/\w=w':=by
 have HR:=hide (fun x=>QD (p:=PA.EW b) (b:=x))
 by_cases h:b=0
 ·subst h
  go_enter Tryz.func186,Tryz.ntmps186
  go_wp2
  go_ret
  exact⟨HR.out _ (by unfold PA.EW;simp),rfl⟩
 ·have e1:(b==0)=false:=by simpa using h
  have cs:b<60\/(60<=b/\b<=63)\/63<b:=by omega
  have X:=hide h
  clear h
  rcases cs with h | h | h
  all_goals
   go_enter Tryz.func186,Tryz.ntmps186
   go_wp2
   go_ret
   exact⟨HR.out _ (by have:=X.out;unfold PA.EW;simp;omega),rfl⟩
def Gq (i f:Int):Prop:=PA.Ca i/\48<=f/\f<=126/\(i=0-> ¬PA.opens f)
instance (i f:Int):Decidable (Gq i f):=by unfold Gq;infer_instance
theorem OT (i f:Int) (w:World):Calls Tryz.prog 150 #[.int .u8 i,.int .u8 f] w fun e w'=>e=.returned (.bool (decide (Gq i f)))/\w=w':=by
 have HR:=hide (fun x=>QD (p:=Gq i f) (b:=x))
 have CI:=hide (IU i)
 by_cases h0:f<48
 ·go_enter Tryz.func150,Tryz.ntmps150
  go_wp2_with fail
  go_ret
  exact⟨HR.out _ (by unfold Gq;simp;omega),rfl⟩
 by_cases h1:126<f
 ·go_enter Tryz.func150,Tryz.ntmps150
  go_wp2_with fail
  go_ret
  exact⟨HR.out _ (by unfold Gq;simp;omega),rfl⟩
 by_cases hi:PA.Ca i
 ·have ei:decide (PA.Ca i)=true:=by simpa using hi
  rw [ei] at CI
  by_cases ho:PA.opens f
  ·by_cases hz:i=0
   ·have hz':(i !=0)=false:=by simp [hz]
    have X:=hide (And.intro hz ho)
    clear hi ei hz
    unfold PA.opens at ho
    rcases ho with rfl | rfl | rfl | rfl | rfl | rfl
    all_goals
     go_enter Tryz.func150,Tryz.ntmps150
     go_wp2_with fail
     refine(CI.out _).mono ?_
     rintro e w1 ⟨rfl,rfl⟩
     go_wp2_with fail
     go_ret
     exact⟨HR.out _ (by have:=X.out;unfold Gq;simp [this.1,this.2]),rfl⟩
   ·have hz':(i !=0)=true:=by simpa using hz
    have X:=hide (And.intro hz hi)
    clear hi ei hz
    unfold PA.opens at ho
    rcases ho with rfl | rfl | rfl | rfl | rfl | rfl
    all_goals
     go_enter Tryz.func150,Tryz.ntmps150
     go_wp2_with fail
     refine(CI.out _).mono ?_
     rintro e w1 ⟨rfl,rfl⟩
     go_wp2_with fail
     go_ret
     exact⟨HR.out _ (by have:=X.out;unfold Gq;simp [this.1,this.2]),rfl⟩
  ·have e1:(f==91)=false:=by unfold PA.opens at ho;simp;omega
   have e2:(f==93)=false:=by unfold PA.opens at ho;simp;omega
   have e3:(f==80)=false:=by unfold PA.opens at ho;simp;omega
   have e4:(f==88)=false:=by unfold PA.opens at ho;simp;omega
   have e5:(f==94)=false:=by unfold PA.opens at ho;simp;omega
   have e6:(f==95)=false:=by unfold PA.opens at ho;simp;omega
   have X:=hide (And.intro ho hi)
   clear hi ei ho
   go_enter Tryz.func150,Tryz.ntmps150
   go_wp2_with fail
   refine(CI.out _).mono ?_
   rintro e w1 ⟨rfl,rfl⟩
   go_wp2_with fail
   go_ret
   exact⟨HR.out _ (by have:=X.out;unfold Gq;simp [this.1,this.2];omega),rfl⟩
 ·have ei:decide (PA.Ca i)=false:=by simpa using hi
  rw [ei] at CI
  have X:=hide hi
  clear hi ei
  go_enter Tryz.func150,Tryz.ntmps150
  go_wp2_with fail
  refine(CI.out _).mono ?_
  rintro e w1 ⟨rfl,rfl⟩
  go_wp2_with fail
  go_ret
  exact⟨HR.out _ (by have:=X.out;unfold Gq;simp [this]),rfl⟩
end Go.Proofs.YtoaabebgmdbjeaaGreatDoor
namespace Go.Proofs.YtoaabebgmdbjeaaGreatDoor
open Go.RowKit
def lQ (w:World) (n:Nat) (l:List Int) (e:Ending) (w':World):Prop:=
 ∃v',e=.returned v'/\w'.ownsRow w.heap.size 3 1 v' n (CG l)/\Below w.heap.size w w'
theorem YJ (l:List Int): ∀u∈CG l,u.oneCell'=true:=Ow _ _
theorem UK (A:Option Addr) (n c:Nat) (l:List Int) (w:World) (hA:Seen w w.heap.size A n (CG l)) (hn:n<=1099511627776):Calls Tryz.prog 67 #[.slice A n c] w (lQ w n l):=by
 obtain⟨i0,hi,hz0,hz1,hz2⟩:=info_parts YH
 go_enter Tryz.func67,Tryz.ntmps67
 go_wp2_with (at_builtin;refine KL rfl (.const (.slice none 0 0)) (.tmp 3) 22 rfl w.heap.size 3 i0 _ 8 Tryz.underlying22 hi hz0 hz1 hz2 rfl (.slice none 0 0) 0 [] rfl (World.ownsRow_nil _ _ _ _) w.heap.size A n c (CG l) rfl hA (YJ l) (by omega) (by omega) (Nat.le_refl _) ?_;intro v' w1 hown1 hg1 hm1)
 go_ret
 refine⟨v',rfl,?_,Du hg1 (Nat.le_refl _) (fun g hg=>by simp [Value.ownBlock] at hg)⟩
 rw [Nat.zero_add,List.nil_append] at hown1
 exact hown1
def Cq (l:List Int):Prop:=l.length<=16/\(∀x∈l, -1<=x/\x<=65535)/\l≠ [-1]
instance (l:List Int):Decidable (Cq l):=by unfold Cq;infer_instance
theorem YK {p:Prop} [Decidable p] (h:p):Ending.returned (.bool true)=.returned (.bool (decide p)):=by rw [decide_eq_true h]
theorem VW {p:Prop} [Decidable p] (h: ¬p):Ending.returned (.bool false)=.returned (.bool (decide p)):=by rw [decide_eq_false h]
theorem OU {q:Int->Prop} {l:List Int} {k:Nat} {x:Int} (h: ∀y∈l.take k,q y) (hx:l[k]? =some x) (hq:q x): ∀y∈l.take (k+1),q y:=by
 intro y hy
 rw [List.take_add_one,hx] at hy
 rcases List.mem_append.1 hy with hy | hy
 ·exact h y hy
 ·simp at hy
  subst hy
  exact hq
theorem Kk (A:Option Addr) (n c:Nat) (l:List Int) (w:World) (hA:Seen w w.heap.size A n (CG l)):Calls Tryz.prog 187 #[.slice A n c] w fun e w'=>e=.returned (.bool (decide (Cq l)))/\w=w':=by
 have hl:l.length=n:=by simpa [CG] using hA.1
 have HA:=hide hA
 have HL:=hide hl
 clear hA hl
 by_cases h16:16<n
 ·have HN:=hide (show¬Cq l from fun h=>by have:=h.1;have:=HL.out;omega)
  go_enter Tryz.func187,Tryz.ntmps187
  go_wp2
  go_ret
  exact⟨VW HN.out,by trivial⟩
 ·go_enter Tryz.func187,Tryz.ntmps187
  go_wp2
  go_loopw [10] (fun i wr=> ∃k:Nat,k<=n/\i=.int .i64 k/\wr=w/\Hid (∀x∈l.take k, -1<=x/\x<=65535)) (fun i _=>n-(intOf i).toNat)
  case atStart=>exact⟨0,Nat.zero_le _,rfl,rfl,hide (by simp)⟩
  case round=>
   obtain⟨k,hk,rfl,rfl,HT⟩:=hrel
   by_cases hlt:k<n
   ·obtain⟨ad,u,rfl,_,hu,hc⟩:=HA.out.at_ hlt
    rw [CG,List.getElem?_map] at hu
    obtain⟨x,hx,rfl⟩:=Option.map_eq_some_iff.1 hu
    clear hu
    have HX:=hide hx
    clear hx
    have cs:x= -1\/x< -1\/65535<x\/(0<=x/\x<=65535):=by omega
    rcases cs with h | h | h | h
    ·subst h
     have HT2:=hide (OU (q:=fun x=> -1<=x/\x<=65535) HT.out HX.out (by omega))
     go_wp2
     go_roundw
     case rel=>exact⟨k+1,by omega,by go_num,by trivial,HT2⟩
     case measure=>simp [intOf];omega
    ·have hd:(x != -1)=true:=by simp;omega
     have HN:=hide (show¬Cq l from fun hh=>by have:=hh.2.1 x (List.mem_of_getElem? HX.out);omega)
     go_wp2
     go_ret
     exact⟨VW HN.out,by trivial⟩
    ·have hd:(x != -1)=true:=by simp;omega
     have HN:=hide (show¬Cq l from fun hh=>by have:=hh.2.1 x (List.mem_of_getElem? HX.out);omega)
     go_wp2
     go_ret
     exact⟨VW HN.out,by trivial⟩
    ·have hd:(x != -1)=true:=by simp;omega
     have HT2:=hide (OU (q:=fun x=> -1<=x/\x<=65535) HT.out HX.out (by omega))
     go_wp2
     go_roundw
     case rel=>exact⟨k+1,by omega,by go_num,by trivial,HT2⟩
     case measure=>simp [intOf];omega
   ·obtain rfl:k=n:=by omega
    have HF:=hide (show∀x∈l, -1<=x/\x<=65535 from by
     have:=HT.out
     rwa [List.take_of_length_le (by rw [HL.out];omega)] at this)
    clear HT
    by_cases h1:k=1
    ·subst h1
     obtain⟨ad,u,rfl,_,hu,hc⟩:=HA.out.at_ (k:=0) (by omega)
     rw [CG,List.getElem?_map] at hu
     obtain⟨x,hx,rfl⟩:=Option.map_eq_some_iff.1 hu
     rw [show ad.add 0=ad from by simp [Addr.add]] at hc
     have hll:l= [x] :=by
      have hlen:=HL.out
      rcases l with _ | ⟨y,_ | ⟨z,l⟩⟩<;>simp at hlen hx
      subst hx
      rfl
     have HLL:=hide hll
     clear hll hx hu
     by_cases hx1:x= -1
     ·subst hx1
      have HN:=hide (show¬Cq l from fun hh=>hh.2.2 HLL.out)
      go_wp2
      go_ret
      exact⟨VW HN.out,by trivial⟩
     ·have hd:(x != -1)=true:=by simpa using hx1
      have HN:=hide (show Cq l from⟨by have:=HL.out;omega,HF.out,by rw [HLL.out];simpa using hx1⟩)
      clear hx1
      go_wp2
      go_ret
      exact⟨YK HN.out,by trivial⟩
    ·have hd:((k:Int)!=1)=true:=by simp;omega
     have HN:=hide (show Cq l from⟨by have:=HL.out;omega,HF.out,fun e=>h1 (by rw [<- HL.out,e];rfl)⟩)
     go_wp2
     go_ret
     exact⟨YK HN.out,by trivial⟩
def Gx (t:List Int):Prop:=t.length<=4096/\ ∀x∈t,32<=x/\x<256
instance (l:List Int):Decidable (Gx l):=by unfold Gx;infer_instance
theorem Mr (t:List Int) (w:World) (ht: ∀x∈t,0<=x/\x<256):Calls Tryz.prog 152 #[.string (strOfNums t)] w fun e w'=>e=.returned (.bool (decide (Gx t)))/\Below w.heap.size w w':=by
 have hs:(strOfNums t).size=t.length:=strOfNums_size t
 have hS:Seen (Eh w (strOfNums t)) (Eh w (strOfNums t)).heap.size (some ⟨w.heap.size,0,none⟩) t.length (u8s t):=Mj rfl ht rfl
 have hB:=Lx w (strOfNums t)
 have hc:=YI w (strOfNums t)
 generalize Eh w (strOfNums t)=w1 at hS hB hc
 generalize Lv w (strOfNums t)=cp at hc
 have HS:=hide hS
 have HB:=hide hB
 have HT:=hide ht
 clear hS hB ht
 generalize hn:t.length=n at*
 generalize strOfNums t=s at*
 have HL:=hide hn
 clear hn
 by_cases h4:4096<n
 ·have HN:=hide (show¬Gx t from fun h=>by have:=h.1;have:=HL.out;omega)
  go_enter Tryz.func152,Tryz.ntmps152
  go_wp2
  go_ret
  exact⟨VW HN.out,Below.refl _ _⟩
 ·go_enter Tryz.func152,Tryz.ntmps152
  go_wp2
  go_loopw [11] (fun i wr=> ∃k:Nat,k<=n/\i=.int .i64 k/\wr=w1/\Hid (∀x∈t.take k,32<=x/\x<256)) (fun i _=>n-(intOf i).toNat)
  case atStart=>exact⟨0,Nat.zero_le _,rfl,rfl,hide (by simp)⟩
  case round=>
   obtain⟨k,hk,rfl,rfl,HK⟩:=hrel
   by_cases hlt:k<n
   ·obtain⟨ad,u,had,_,hu,hcc⟩:=HS.out.at_ hlt
    injection had with had
    subst had
    rw [Addr.add_lit,Nat.zero_add] at hcc
    rw [u8s,List.getElem?_map] at hu
    obtain⟨x,hx,rfl⟩:=Option.map_eq_some_iff.1 hu
    have hxr:=HT.out x (List.mem_of_getElem? hx)
    have HX:=hide hx
    clear hu hx
    by_cases h32:x<32
    ·have HN:=hide (show¬Gx t from fun hh=>by have:=hh.2 x (List.mem_of_getElem? HX.out);omega)
     go_wp2
     go_ret
     exact⟨VW HN.out,HB.out⟩
    ·have HT2:=hide (OU (q:=fun x=>32<=x/\x<256) HK.out HX.out (by omega))
     go_wp2
     go_roundw
     case rel=>exact⟨k+1,by omega,by go_num,by trivial,HT2⟩
     case measure=>simp [intOf];omega
   ·obtain rfl:k=n:=by omega
    have HF:=hide (show Gx t from⟨by have:=HL.out;omega,by
     have:=HK.out
     rwa [List.take_of_length_le (by rw [HL.out];omega)] at this⟩)
    go_wp2
    go_ret
    exact⟨YK HF.out,HB.out⟩
end Go.Proofs.YtoaabebgmdbjeaaGreatDoor
