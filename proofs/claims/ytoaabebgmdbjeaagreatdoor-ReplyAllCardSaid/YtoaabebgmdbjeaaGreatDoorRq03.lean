/- A part of the proof: RegBrief, CellSpec, KeepPen. -/
import Derived.Test.YtoaabebgmdbjeaaGreatDoorRq02
import Derived.Lib.TrailingZeros
import Derived.Deep.RegionHeld3
set_option maxRecDepth 100000
set_option maxHeartbeats 16000000
set_option linter.unusedVariables false
namespace Go.Proofs.YtoaabebgmdbjeaaGreatDoor
open Go Go.RowKit
section
variable {P:Program} {Q:Exit->Act->World->Prop} {ops:Array Oper} {S:List (Option Nat)} {w0 w:World} {olds:Nat->Array Value} {sh:C8} {vals:Nat->Value} {pr:Nat->Value->World->Prop} {gs:Nat->Nat} {L:Nat->Bool} {a:Act} {i:Nat}
theorem gslot (hJ:GJ ops S w0 olds sh vals pr gs L (fun j=>valOf ops j a) w) (AJ: ∀o,ops[i]? =some o-> ∀e∈o.after,Region.binds .any e=true->L e.on=true) (j:Nat) {d:Nat} {v:Value} (hs:CJ ops j=some d) (hd:((ops[i]?).map fun o=>o.after.any fun e=>Region.binds .any e&&e.on==j).getD false=true) (hl:j<ops.size) (hk:CK sh j=0) (hv:vals j=v):a.eval (.tmp d)=v:=
 AV hs (hJ.valOf hl (AZ AJ j hd) hk hv)
theorem BA (hJ:GJ ops S w0 olds sh vals pr gs L (fun j=>valOf ops j a) w) (hGS:GS ops S w0 olds sh pr gs) (hcl:Closed ops L) (hL:L i=false) (d:Nat) (u v:Value) (he:a.eval (.tmp d)=u) (o:Oper) (ho:ops[i]? =some o) (hd:o.dst.isSome=true) (hg:o.guard=none) (hk:CK sh i=0) (hv:vals i=v)
  (hr: ∀ρ:Operand->Value,(∀c,ρ (.const c)=c)->ρ (.tmp d)=u->(execOp ρ o).run P w=.ok (.value v) w):Step P ops Q (GJ ops S w0 olds sh vals pr gs) L a w i:=
 Step.val o ho hd (AX hg) v w (fun ρ hρ=>hr ρ (fun _=>(hρ _).symm) ((hρ _).symm.trans he)) (hJ.val hGS hcl hL hk (Below.refl _ _) _ hv)
theorem lF (hJ:GJ ops S w0 olds sh vals pr gs L (fun j=>valOf ops j a) w) (hGS:GS ops S w0 olds sh pr gs) (hcl:Closed ops L) (hL:L i=false) (d d':Nat) (u u' v:Value) (he:a.eval (.tmp d)=u) (he':a.eval (.tmp d')=u') (o:Oper) (ho:ops[i]? =some o) (hd:o.dst.isSome=true) (hg:o.guard=none) (hk:CK sh i=0) (hv:vals i=v)
  (hr: ∀ρ:Operand->Value,(∀c,ρ (.const c)=c)->ρ (.tmp d)=u->ρ (.tmp d')=u'->(execOp ρ o).run P w=.ok (.value v) w):Step P ops Q (GJ ops S w0 olds sh vals pr gs) L a w i:=
 Step.val o ho hd (AX hg) v w (fun ρ hρ=>hr ρ (fun _=>(hρ _).symm) ((hρ _).symm.trans he) ((hρ _).symm.trans he')) (hJ.val hGS hcl hL hk (Below.refl _ _) _ hv)
end
end Go.Proofs.YtoaabebgmdbjeaaGreatDoor
namespace Go.Proofs.YtoaabebgmdbjeaaGreatDoor
namespace C
def spans:List (Int × Int × Int):= [(127,159,0),(768,879,0),(4352,4447,2),(11904,42191,2),(44032,55203,2),(55296,57343,0),(63744,64255,2),(65072,65135,2),(65280,65376,2),(65504,65510,2),(127744,129791,2),(131072,262141,2)]
def find:List (Int × Int × Int)->Int->Int
 | [],_=>1
 | s::r,x=>if s.1<=x/\x<=s.2.1 then s.2.2 else find r x
def width (x:Int):Int:=if x<32\/1114111<x then 0 else find spans x
def OD:List (Int × Int):= [(4352,4447),(11904,42191),(44032,55203),(63744,64255),(65072,65135),(65280,65376),(65504,65510),(127744,129791),(131072,262141)]
def Ia:List (Int × Int)->Int->Int
 | [],_=>1
 | s::r,x=>if s.1<=x/\x<=s.2 then 2 else Ia r x
def narrow (n:Int):Prop:=n<32\/(127<=n/\n<160)\/(768<=n/\n<=879)\/1114111<n\/(55296<=n/\n<=57343)
instance (n:Int):Decidable (narrow n):=by unfold narrow;infer_instance
def Ib (n:Int):Int:=if narrow n then 0 else Ia OD n
theorem Bw {a b v x:Int} {r:List (Int × Int × Int)} (h:a<=x/\x<=b):find ((a,b,v)::r) x=v:=by simp [find,h]
theorem BD {a b v x:Int} {r:List (Int × Int × Int)} (h:x<a\/b<x):find ((a,b,v)::r) x=find r x:=by
 show(if a<=x/\x<=b then v else find r x)=_
 rw [if_neg (by omega)]
theorem Dv {a b x:Int} {r:List (Int × Int)} (h:a<=x/\x<=b):Ia ((a,b)::r) x=2:=by simp [Ia,h]
theorem Bg {a b x:Int} {r:List (Int × Int)} (h:x<a\/b<x):Ia ((a,b)::r) x=Ia r x:=by
 show(if a<=x/\x<=b then 2 else Ia r x)=_
 rw [if_neg (by omega)]
theorem Kk (n:Int):width n=Ib n:=by
 unfold width Ib
 by_cases h0:n<32\/1114111<n
 ·rw [if_pos h0,if_pos (show narrow n from by unfold narrow;omega)]
 rw [if_neg h0]
 unfold spans OD
 have go: ∀(a b v:Int) (r:List (Int × Int × Int)) (y:Int),(a<=n/\n<=b->v=y)->((n<a\/b<n)->find r n=y)->find ((a,b,v)::r) n=y:=by
  intro a b v r y h1 h2
  by_cases h:a<=n/\n<=b
  ·rw [Bw h];exact h1 h
  ·rw [BD (by omega)];exact h2 (by omega)
 by_cases hn:(127<=n/\n<160)\/(768<=n/\n<=879)\/(55296<=n/\n<=57343)
 ·rw [if_pos (show narrow n from by unfold narrow;omega)]
  refine go _ _ _ _ _ (fun _=>rfl) fun _=>go _ _ _ _ _ (fun _=>rfl) fun _=>go _ _ _ _ _ (fun _=>by omega) fun _=>go _ _ _ _ _ (fun _=>by omega) fun _=>go _ _ _ _ _ (fun _=>by omega) fun _=>go _ _ _ _ _ (fun _=>rfl) fun _=>?_
  omega
 ·rw [if_neg (show¬narrow n from by unfold narrow;omega)]
  refine go _ _ _ _ _ (fun _=>by omega) fun _=>go _ _ _ _ _ (fun _=>by omega) fun _=>?_
  refine go _ _ _ _ _ (fun h=>(Dv h).symm) fun h=>?_
  rw [Bg h]
  refine go _ _ _ _ _ (fun h=>(Dv h).symm) fun h=>?_
  rw [Bg h]
  refine go _ _ _ _ _ (fun h=>(Dv h).symm) fun h=>?_
  rw [Bg h]
  refine go _ _ _ _ _ (fun _=>by omega) fun _=>?_
  refine go _ _ _ _ _ (fun h=>(Dv h).symm) fun h=>?_
  rw [Bg h]
  refine go _ _ _ _ _ (fun h=>(Dv h).symm) fun h=>?_
  rw [Bg h]
  refine go _ _ _ _ _ (fun h=>(Dv h).symm) fun h=>?_
  rw [Bg h]
  refine go _ _ _ _ _ (fun h=>(Dv h).symm) fun h=>?_
  rw [Bg h]
  refine go _ _ _ _ _ (fun h=>(Dv h).symm) fun h=>?_
  rw [Bg h]
  refine go _ _ _ _ _ (fun h=>(Dv h).symm) fun h=>?_
  rw [Bg h]
  rfl
def col (c:Int):Bool:=decide (c= -1\/(0<=c/\c<=255)\/(16777216<=c/\c<33554432))
theorem JE {c:Int}:col c=true<->(c= -1\/(0<=c/\c<=255)\/(16777216<=c/\c<33554432)):=by simp [col]
def right (f b g:Int):Bool:=col f&&col b&&decide (0<=g/\g<=255)
theorem Ej {f b g:Int}:right f b g=true<->(col f=true/\col b=true/\0<=g/\g<=255):=by simp [right,and_assoc]
def num (f b g:Int):Int:=g+(f+1)*256+(b+1)*17179869184
def fo (n:Int):Int:=n / 256%67108864-1
def ba (n:Int):Int:=n / 17179869184-1
def fl (n:Int):Int:=n%256
def ors (g:Int) (l:List Int):Int:=l.foldl (fun a f=>bits .or .i64 a f) g
theorem YF (g:Int) (l:List Int) (f:Int):ors g (l++ [f])=bits .or .i64 (ors g l) f:=by simp [ors]
def EH (n:Int):Int:=if n%4=0 then-1 else if n%4=1 then n.tdiv 4%16 else if n%4=2 then n.tdiv 4%256 else 16777216+n.tdiv 4%16777216
theorem G8 (n:Int):col (EH n)=true:=by
 rw [JE]
 unfold EH
 split
 ·omega
 split
 ·omega
 split
 ·omega
 ·omega
end C
end Go.Proofs.YtoaabebgmdbjeaaGreatDoor
namespace Go.Proofs.YtoaabebgmdbjeaaGreatDoor.U
def isR (n:Int):Bool:=decide (0<=n/\n<=1114111/\(n<55296\/57343<n))
def sz (r:Int):Int:=if r<128 then 1 else if r<2048 then 2 else if r<65536 then 3 else 4
def wh (need acc:Int):Int:=if isR acc=true/\sz acc=need then acc else 65533
structure St where
 need:Int
 have_:Int
 acc:Int
def z:St:=⟨0,0,0⟩
def St.val (s:St):Value:=.agg #[.int .i64 s.need,.int .i64 s.have_,.int .i64 s.acc]
def bg (b:Int):St × List Int:=
 if b<128 then (z, [b]) else if b<194 then (z, [65533]) else if b<224 then (⟨2,1,b-192⟩, []) else if b<240 then (⟨3,1,b-224⟩, []) else if b<=244 then (⟨4,1,b-240⟩, []) else (z, [65533])
def it (s:St) (b:Int):St × List Int:=
 if s.need<=0 then bg b
 else if b<128\/192<=b then ((bg b).1,65533::(bg b).2)
 else if s.have_+1<s.need then (⟨s.need,s.have_+1,s.acc*64+(b-128)⟩, [])
 else (z, [wh s.need (s.acc*64+(b-128))])
def St.ok (s:St):Prop:=(s.need=0/\s.have_=0/\s.acc=0)\/(2<=s.need/\s.need<=4/\1<=s.have_/\s.have_<s.need/\0<=s.acc/\(s.have_=1->s.acc<32)/\(s.have_=2->s.acc<2048)/\(s.have_=3->s.acc<131072))
def dec:St->List Int->St × List Int
 | s, [] =>(s, [])
 | s,b::l=>((dec (it s b).1 l).1,(it s b).2++(dec (it s b).1 l).2)
def tl (r:Int):Int:=128+r%64
def en (r:Int):List Int:=
 if r<128 then [r] else if r<2048 then [192+r / 64,tl r] else if r<65536 then [224+r / 4096,tl (r / 64),tl r] else [240+r / 262144,tl (r / 4096),tl (r / 64),tl r]
def en1 (r:Int):List Int:=if isR r=true then en r else [239,191,189]
theorem Ov (r:Int):(en r).length<=4:=by
 unfold en
 split; · simp
 split; · simp
 split<;>simp
theorem bL (r:Int):(en1 r).length<=4:=by
 have:=Ov r
 unfold en1
 split
 ·exact this
 ·simp
def enc (l:List Int):List Int:=l.flatMap en1
theorem YG (l:List Int) (r:Int):enc (l++ [r])=enc l++en1 r:=by simp [enc]
theorem bM (l:List Int):(enc l).length<=4*l.length:=by
 induction l with
 | nil=>simp [enc]
 | cons r l ih=>
  have h:=bL r
  simp only [enc,List.flatMap_cons,List.length_append,List.length_cons] at ih⊢
  omega
end Go.Proofs.YtoaabebgmdbjeaaGreatDoor.U
namespace Go.Proofs.YtoaabebgmdbjeaaGreatDoor.PG
abbrev Pn:=Int × Int × Int
abbrev Cl:=Int × Int × Pn
def rn (c:Cl):Int:=c.1
def kd (c:Cl):Int:=c.2.1
def pn (c:Cl):Pn:=c.2.2
def Cc (p:Pn):Prop:=C.right p.1 p.2.1 p.2.2=true
def blank (p:Pn):Cl:=(32,0,p)
def plain:Pn:=(-1, -1,0)
theorem Ic (p:Pn):kd (blank p)=0:=rfl
theorem G9:Cc plain:=by unfold Cc plain;decide
def mend (f:Nat->Cl) (n:Nat) (j:Nat):Cl:=
 if (kd (f j)=1/\ ¬(j+1<n/\kd (f (j+1))=2))\/(kd (f j)=2/\ ¬(0<j/\kd (f (j-1))=1)) then blank (pn (f j)) else f j
def FU (f:Nat->Cl) (a b:Nat) (p:Pn) (j:Nat):Cl:=if a<=j/\j<b then blank p else f j
def putRow (f:Nat->Cl) (c:Nat) (x:Int) (p:Pn) (w:Nat) (j:Nat):Cl:=
 if j=c then (x,if w=2 then 1 else 0,p)
 else if w=2/\j=c+1 then (0,2,p)
 else if j+1=c/\kd (f c)=2 then blank (pn (f j))
 else if j=c+w/\kd (f (c+w-1))=1 then blank (pn (f j))
 else f j
def CZ (f:Nat->Cl) (n:Nat):Prop:= ∀j,j<n->Cc (pn (f j))/\
 ((kd (f j)=0/\C.width (rn (f j))=1)\/
  (kd (f j)=1/\C.width (rn (f j))=2/\j+1<n/\kd (f (j+1))=2/\pn (f (j+1))=pn (f j))\/
  (kd (f j)=2/\rn (f j)=0/\0<j/\kd (f (j-1))=1))
theorem Dk:C.width 32=1:=by decide
theorem Ie (p:Pn) (hp:Cc p) (n:Nat):CZ (fun _=>blank p) n:=fun j _=>⟨hp,.inl ⟨rfl,Dk⟩⟩
theorem CZ.left {f:Nat->Cl} {n j:Nat} (h:CZ f n) (hj:j<n) (hk:kd (f j)=1):C.width (rn (f j))=2/\j+1<n/\kd (f (j+1))=2/\pn (f (j+1))=pn (f j):=by
 rcases(h j hj).2 with h | h | h
 ·omega
 ·exact h.2
 ·omega
theorem CZ.JF {f:Nat->Cl} {n j:Nat} (h:CZ f n) (hj:j<n) (hk:kd (f j)=2):rn (f j)=0/\0<j/\kd (f (j-1))=1:=by
 rcases(h j hj).2 with h | h | h
 ·omega
 ·omega
 ·exact h.2
theorem CZ.kind {f:Nat->Cl} {n j:Nat} (h:CZ f n) (hj:j<n):kd (f j)=0\/kd (f j)=1\/kd (f j)=2:=by
 rcases(h j hj).2 with h | h | h
 ·exact .inl h.1
 ·exact .inr (.inl h.1)
 ·exact .inr (.inr h.1)
theorem SV {f h:Nat->Cl} {n m:Nat} (hf:CZ f n) (hh: ∀j,j<m->(h j=f j/\j<n)\/ ∃p,Cc p/\h j=blank p):CZ (mend h m) m:=by
 intro j hj
 have hkind: ∀i,kd (mend h m i)=(if (kd (h i)=1/\ ¬(i+1<m/\kd (h (i+1))=2))\/(kd (h i)=2/\ ¬(0<i/\kd (h (i-1))=1)) then 0 else kd (h i)):=fun i=>by
  unfold mend
  split<;>rfl
 have hpn: ∀i,pn (mend h m i)=pn (h i):=fun i=>by
  unfold mend
  split<;>rfl
 rcases hh j hj with ⟨e,hjn⟩ | ⟨p,hp,e⟩
 ·have hr:=hf j hjn
  refine⟨by rw [hpn,e];exact hr.1,?_⟩
  by_cases hb:(kd (h j)=1/\ ¬(j+1<m/\kd (h (j+1))=2))\/(kd (h j)=2/\ ¬(0<j/\kd (h (j-1))=1))
  ·left
   refine⟨by rw [hkind,if_pos hb],?_⟩
   unfold mend
   rw [if_pos hb]
   exact Dk
  ·have hm:mend h m j=h j:=by unfold mend;rw [if_neg hb]
   rw [hm,e]
   rcases hf.kind hjn with h0 | h1 | h2
   ·left
    refine⟨h0,?_⟩
    rcases hr.2 with h | h | h
    ·exact h.2
    ·omega
    ·omega
   ·right;left
    have hl:=hf.left hjn h1
    have hn:j+1<m/\kd (h (j+1))=2:=by
     by_cases hx:j+1<m/\kd (h (j+1))=2
     ·exact hx
     ·exact absurd (.inl ⟨by rw [e];exact h1,hx⟩) hb
    refine⟨h1,hl.1,hn.1,?_,?_⟩
    ·rw [hkind,if_neg,hn.2]
     rintro (⟨a,_⟩ | ⟨_,b⟩)
     ·omega
     ·exact b ⟨by omega,by rw [Nat.add_sub_cancel,e];exact h1⟩
    ·rw [hpn]
     rcases hh (j+1) hn.1 with ⟨e',_⟩ | ⟨p,_,e'⟩
     ·rw [e'];exact hl.2.2.2
     ·rw [e'] at hn;have:=hn.2;rw [Ic] at this;omega
   ·right;right
    have hl:=hf.JF hjn h2
    have hn:0<j/\kd (h (j-1))=1:=by
     by_cases hx:0<j/\kd (h (j-1))=1
     ·exact hx
     ·exact absurd (.inr ⟨by rw [e];exact h2,hx⟩) hb
    refine⟨h2,hl.1,hn.1,?_⟩
    rw [hkind,if_neg,hn.2]
    rintro (⟨_,b⟩ | ⟨a,_⟩)
    ·exact b ⟨by omega,by rw [show j-1+1=j from by omega,e];exact h2⟩
    ·omega
 ·have hm:mend h m j=blank p:=by
   unfold mend
   rw [e]
   rw [if_neg (by rw [Ic];omega)]
  rw [hm]
  exact⟨hp,.inl ⟨rfl,Dk⟩⟩
theorem ME {f:Nat->Cl} {n:Nat} (hf:CZ f n) (a b:Nat) {p:Pn} (hp:Cc p):CZ (mend (FU f a b p) n) n:=by
 refine SV hf fun j hj=>?_
 unfold FU
 by_cases h:a<=j/\j<b
 ·rw [if_pos h];exact .inr ⟨p,hp,rfl⟩
 ·rw [if_neg h];exact .inl ⟨rfl,hj⟩
theorem Vf {f:Nat->Cl} {n c:Nat} {x:Int} {p:Pn} {w:Nat} (hf:CZ f n) (hp:Cc p) (hw:C.width x=(w:Int)) (hw0:1<=w) (hw2:w<=2) (hc:c+w<=n):CZ (putRow f c x p w) n:=by
 intro j hj
 have hfj:=hf j hj
 have hat: ∀i,putRow f c x p w i=if i=c then (x,if w=2 then 1 else 0,p) else if w=2/\i=c+1 then (0,2,p) else if i+1=c/\kd (f c)=2 then blank (pn (f i)) else if i=c+w/\kd (f (c+w-1))=1 then blank (pn (f i)) else f i:=fun _=>rfl
 by_cases h1:j=c
 ·have e:putRow f c x p w j=(x,if w=2 then 1 else 0,p):=by rw [hat,if_pos h1]
  rw [e]
  refine⟨hp,?_⟩
  by_cases h2:w=2
  ·right;left
   refine⟨by simp [kd,h2],by show C.width x=2;rw [hw,h2];rfl,by omega,?_,?_⟩
   ·rw [hat,if_neg (by omega),if_pos ⟨h2,by omega⟩];rfl
   ·rw [hat,if_neg (by omega),if_pos ⟨h2,by omega⟩];rfl
  ·left
   refine⟨by simp [kd,h2],?_⟩
   show C.width x=1
   rw [hw]
   omega
 by_cases h2:w=2/\j=c+1
 ·have e:putRow f c x p w j=(0,2,p):=by rw [hat,if_neg h1,if_pos h2]
  rw [e]
  refine⟨hp,.inr (.inr ⟨rfl,rfl,by omega,?_⟩)⟩
  rw [hat,if_pos (by omega)]
  simp [kd,h2.1]
 by_cases h3:j+1=c/\kd (f c)=2
 ·have e:putRow f c x p w j=blank (pn (f j)):=by rw [hat,if_neg h1,if_neg h2,if_pos h3]
  rw [e]
  exact⟨hfj.1,.inl ⟨rfl,Dk⟩⟩
 by_cases h4:j=c+w/\kd (f (c+w-1))=1
 ·have e:putRow f c x p w j=blank (pn (f j)):=by rw [hat,if_neg h1,if_neg h2,if_neg h3,if_pos h4]
  rw [e]
  exact⟨hfj.1,.inl ⟨rfl,Dk⟩⟩
 have e:putRow f c x p w j=f j:=by rw [hat,if_neg h1,if_neg h2,if_neg h3,if_neg h4]
 rw [e]
 refine⟨hfj.1,?_⟩
 rcases hfj.2 with h | ⟨k1,k2,k3,k4,k5⟩ | ⟨k1,k2,k3,k4⟩
 ·exact .inl h
 ·right;left
  have n1: ¬j+1=c:=fun hx=>h3 ⟨hx,by rw [<- hx];exact k4⟩
  have n2: ¬(w=2/\j+1=c+1):=fun hx=>h1 (by omega)
  have n4: ¬(j+1=c+w/\kd (f (c+w-1))=1):=fun hx=>by
   have:j=c\/(w=2/\j=c+1):=by omega
   rcases this with h | h
   ·exact h1 h
   ·exact h2 h
  have n3: ¬(j+1+1=c/\kd (f c)=2):=fun hx=>by
   have:=hf.JF (j:=c) (by omega) hx.2
   rw [show c-1=j+1 from by omega] at this
   omega
  have e1:putRow f c x p w (j+1)=f (j+1):=by rw [hat,if_neg n1,if_neg n2,if_neg n3,if_neg n4]
  exact⟨k1,k2,k3,by rw [e1];exact k4,by rw [e1];exact k5⟩
 ·right;right
  have n1: ¬j-1=c:=fun hx=>by
   by_cases hw2':w=2
   ·exact h2 ⟨hw2',by omega⟩
   ·exact h4 ⟨by omega,by rw [show c+w-1=j-1 from by omega];exact k4⟩
  have n2: ¬(w=2/\j-1=c+1):=fun hx=>h4 ⟨by omega,by rw [show c+w-1=j-1 from by omega];exact k4⟩
  have n3: ¬(j-1+1=c/\kd (f c)=2):=fun hx=>h1 (by omega)
  have n4: ¬(j-1=c+w/\kd (f (c+w-1))=1):=fun hx=>by
   have:=hf.left (j:=c+w-1) (by omega) hx.2
   rw [show c+w-1+1=j-1 from by omega] at this
   omega
  have e1:putRow f c x p w (j-1)=f (j-1):=by rw [hat,if_neg n1,if_neg n2,if_neg n3,if_neg n4]
  exact⟨k1,k2,k3,by rw [e1];exact k4⟩
structure Gr where
 rows:Nat
 AB:Nat
 f:Nat->Nat->Cl
def Alike (a b:Gr):Prop:=a.rows=b.rows/\a.AB=b.AB/\ ∀r c,r<a.rows->c<a.AB->a.f r c=b.f r c
theorem Alike.refl (a:Gr):Alike a a:=⟨rfl,rfl,fun _ _ _ _=>rfl⟩
theorem Alike.symm {a b:Gr} (h:Alike a b):Alike b a:=⟨h.1.symm,h.2.1.symm,fun r c hr hc=>(h.2.2 r c (by rw [h.1];exact hr) (by rw [h.2.1];exact hc)).symm⟩
theorem Alike.trans {a b c:Gr} (h:Alike a b) (k:Alike b c):Alike a c:=⟨h.1.trans k.1,h.2.1.trans k.2.1,fun r x hr hx=>(h.2.2 r x hr hx).trans (k.2.2 r x (by rw [<- h.1];exact hr) (by rw [<- h.2.1];exact hx))⟩
def cells (g:Gr):List Cl:=(List.range (g.rows*g.AB)).map fun i=>g.f (i / g.AB) (i%g.AB)
theorem BH (g:Gr):(cells g).length=g.rows*g.AB:=by simp [cells]
theorem Ca {R K r c:Nat} (hr:r<R) (hc:c<K):r*K+c<R*K:=by
 have h:(r+1)*K<=R*K:=Nat.mul_le_mul_right K hr
 rw [Nat.succ_mul] at h
 omega
theorem JG {K r c:Nat} (hc:c<K):(r*K+c) / K=r/\(r*K+c)%K=c:=by
 constructor
 ·rw [Nat.mul_comm,Nat.mul_add_div (by omega),Nat.div_eq_of_lt hc,Nat.add_zero]
 ·rw [Nat.mul_comm,Nat.mul_add_mod,Nat.mod_eq_of_lt hc]
theorem Cu (g:Gr) {r c:Nat} (hr:r<g.rows) (hc:c<g.AB):(cells g)[r*g.AB+c]? =some (g.f r c):=by
 unfold cells
 rw [List.getElem?_map,List.getElem?_range (Ca hr hc)]
 obtain⟨h1,h2⟩:=JG (r:=r) hc
 simp only [Option.map_some,h1,h2]
theorem QO {R K i:Nat} (h:i<R*K):0<K/\i / K<R/\i%K<K/\i / K*K+i%K=i:=by
 have hK:0<K:=by
  rcases Nat.eq_zero_or_pos K with h0 | h0
  ·subst h0;simp at h
  ·exact h0
 exact⟨hK,Nat.div_lt_of_lt_mul (by rw [Nat.mul_comm];exact h),Nat.mod_lt _ hK,by rw [Nat.mul_comm];exact Nat.div_add_mod i K⟩
theorem QS {a b:Gr}:Alike a b<->(a.rows=b.rows/\a.AB=b.AB/\cells a=cells b):=by
 constructor
 ·rintro ⟨h1,h2,h3⟩
  refine⟨h1,h2,?_⟩
  unfold cells
  rw [<- h1, <- h2]
  refine List.map_congr_left fun i hi=>?_
  obtain⟨_,h4,h5,_⟩:=QO (List.mem_range.1 hi)
  exact h3 _ _ h4 h5
 ·rintro ⟨h1,h2,h3⟩
  refine⟨h1,h2,fun r c hr hc=>?_⟩
  have e1:=Cu a hr hc
  have e2:=Cu b (r:=r) (c:=c) (by rw [<- h1];exact hr) (by rw [<- h2];exact hc)
  rw [<- h2, <- h3,e1] at e2
  exact Option.some.inj e2
def newG (R K:Nat) (p:Pn):Gr:=⟨R,K,fun _ _=>blank p⟩
def EN (g:Gr) (r c:Nat) (x:Int) (p:Pn):Gr:=
 if r<g.rows/\1<=C.width x/\c+(C.width x).toNat<=g.AB then ⟨g.rows,g.AB,fun i j=>if i=r then putRow (g.f r) c x p (C.width x).toNat j else g.f i j⟩ else g
def DL (g:Gr) (r a b:Nat) (p:Pn):Gr:=if r<g.rows then ⟨g.rows,g.AB,fun i j=>if i=r then mend (FU (g.f r) a b p) g.AB j else g.f i j⟩ else g
def bN (g:Gr) (R K:Nat):Gr:=⟨R,K,fun i j=>mend (fun j=>if i<g.rows/\j<g.AB then g.f i j else blank plain) K j⟩
def BL (g:Gr):Prop:=1<=g.rows/\g.rows<=40/\1<=g.AB/\g.AB<=60/\ ∀r,r<g.rows->CZ (g.f r) g.AB
theorem F8 (x:Int):C.width x=0\/C.width x=1\/C.width x=2:=by
 rw [C.Kk]
 unfold C.Ib
 split
 ·exact .inl rfl
 ·generalize C.OD=l
  induction l with
  | nil=>right;left;rfl
  | cons p l ih=>
   obtain⟨a,b⟩:=p
   unfold C.Ia
   split
   ·right;right;rfl
   ·exact ih
theorem SX {R K:Nat} {p:Pn} (hp:Cc p) (h1:1<=R) (h2:R<=40) (h3:1<=K) (h4:K<=60):BL (newG R K p):=⟨h1,h2,h3,h4,fun _ _=>Ie p hp K⟩
theorem SY {g:Gr} (h:BL g) {p:Pn} (hp:Cc p) (r c:Nat) (x:Int):BL (EN g r c x p):=by
 unfold EN
 by_cases hc:r<g.rows/\1<=C.width x/\c+(C.width x).toNat<=g.AB
 ·rw [if_pos hc]
  refine⟨h.1,h.2.1,h.2.2.1,h.2.2.2.1,fun i hi=>?_⟩
  by_cases hir:i=r
  ·subst hir
   simp only [if_true]
   have hw:=F8 x
   exact Vf (h.2.2.2.2 i hi) hp (by omega) (by omega) (by omega) hc.2.2
  ·simp only [if_neg hir]
   exact h.2.2.2.2 i hi
 ·rw [if_neg hc];exact h
theorem K7 {g:Gr} (h:BL g) {p:Pn} (hp:Cc p) (r a b:Nat):BL (DL g r a b p):=by
 unfold DL
 by_cases hc:r<g.rows
 ·rw [if_pos hc]
  refine⟨h.1,h.2.1,h.2.2.1,h.2.2.2.1,fun i hi=>?_⟩
  by_cases hir:i=r
  ·subst hir
   simp only [if_true]
   exact ME (h.2.2.2.2 i hi) a b hp
  ·simp only [if_neg hir]
   exact h.2.2.2.2 i hi
 ·rw [if_neg hc];exact h
theorem bO {g:Gr} {r c:Nat} {x:Int} {p:Pn} (h: ¬(r<g.rows/\1<=C.width x/\c+(C.width x).toNat<=g.AB)):EN g r c x p=g:=if_neg h
theorem Cv (g:Gr) (r c:Nat) (x:Int) (p:Pn):(EN g r c x p).rows=g.rows/\(EN g r c x p).AB=g.AB:=by
 unfold EN
 split<;>exact⟨rfl,rfl⟩
theorem DI (g:Gr) (r a b:Nat) (p:Pn):(DL g r a b p).rows=g.rows/\(DL g r a b p).AB=g.AB:=by
 unfold DL
 split<;>exact⟨rfl,rfl⟩
theorem MF {f h:Nat->Cl} {n:Nat} (e: ∀j,j<n->f j=h j) {j:Nat} (hj:j<n):mend f n j=mend h n j:=by
 unfold mend
 rw [e j hj]
 have a1:(j+1<n/\kd (f (j+1))=2)<->(j+1<n/\kd (h (j+1))=2):=and_congr_right fun hh=>by rw [e _ hh]
 have a2:(0<j/\kd (f (j-1))=1)<->(0<j/\kd (h (j-1))=1):=and_congr_right fun hh=>by rw [e _ (by omega)]
 simp only [a1,a2]
end Go.Proofs.YtoaabebgmdbjeaaGreatDoor.PG
namespace Go.Proofs.YtoaabebgmdbjeaaGreatDoor.PG
def runes (f:Nat->Cl) (n:Nat):List Int:=((List.range n).filter fun j=>kd (f j)≠2).map fun j=>rn (f j)
def OD (l:List Int):Nat:=(l.filter fun x=>C.width x=2).length
end Go.Proofs.YtoaabebgmdbjeaaGreatDoor.PG
namespace Go.Proofs.YtoaabebgmdbjeaaGreatDoor.PG
def none:Cl:=(0,0,(0,0,0))
def ofL (R K:Nat) (l:List Cl):Gr:=⟨R,K,fun r c=>(l[r*K+c]?).getD none⟩
theorem Ow {R K:Nat} {l:List Cl} (hl:l.length=R*K) {r c:Nat} (hr:r<R) (hc:c<K):l[r*K+c]? =some ((ofL R K l).f r c):=by
 have h:r*K+c<l.length:=by rw [hl];exact Ca hr hc
 show _=some ((l[r*K+c]?).getD none)
 rw [List.getElem?_eq_getElem h]
 rfl
theorem F9 {g:Gr} {l:List Cl} (hl:l.length=g.rows*g.AB) (h: ∀r c,r<g.rows->c<g.AB->l[r*g.AB+c]? =some (g.f r c)):l=cells g:=by
 refine List.ext_getElem? fun i=>?_
 by_cases hi:i<g.rows*g.AB
 ·obtain⟨_,h1,h2,h3⟩:=QO hi
  rw [<- h3,h _ _ h1 h2,Cu g h1 h2]
 ·rw [List.getElem?_eq_none (by omega),List.getElem?_eq_none (by rw [BH];omega)]
theorem Vg {R K:Nat} {l:List Cl} (hl:l.length=R*K):cells (ofL R K l)=l:=(F9 (g:=ofL R K l) hl fun _ _ hr hc=>Ow hl hr hc).symm
theorem Vh {K r c i j:Nat} (hc:c<K) (hj:j<K) (h:r*K+c=i*K+j):r=i/\c=j:=by
 have a:=JG (r:=r) hc
 have b:=JG (r:=i) hj
 rw [h] at a
 exact⟨a.1.symm.trans b.1,a.2.symm.trans b.2⟩
theorem YH {g:Gr} {r c:Nat} (hr:r<g.rows) (hc:c<g.AB) (x:Cl):(cells g).set (r*g.AB+c) x=cells ⟨g.rows,g.AB,fun i j=>if i=r/\j=c then x else g.f i j⟩:=by
 refine F9 (g:=⟨g.rows,g.AB,fun i j=>if i=r/\j=c then x else g.f i j⟩) (by rw [List.length_set,BH]) fun i j hi hj=>?_
 show((cells g).set (r*g.AB+c) x)[i*g.AB+j]? =some (if i=r/\j=c then x else g.f i j)
 have hi:i<g.rows:=hi
 have hj:j<g.AB:=hj
 by_cases h:i=r/\j=c
 ·obtain⟨rfl,rfl⟩:=h
  rw [if_pos ⟨rfl,rfl⟩,List.getElem?_set_self (by rw [BH];exact Ca hi hj)]
 ·rw [if_neg h,List.getElem?_set_ne,Cu g hi hj]
  intro e
  have:=Vh hc hj e
  exact h ⟨this.1.symm,this.2.symm⟩
theorem Lh {g:Gr} {r:Nat} (hr:r<g.rows):((cells g).drop (r*g.AB)).take g.AB=(List.range g.AB).map (g.f r):=by
 refine List.ext_getElem? fun j=>?_
 by_cases hj:j<g.AB
 ·rw [List.getElem?_take_of_lt hj,List.getElem?_drop,Cu g hr hj,List.getElem?_map,List.getElem?_range hj]
  rfl
 ·rw [List.getElem?_eq_none (by rw [List.length_take];omega),List.getElem?_eq_none (by rw [List.length_map,List.length_range];omega)]
structure Ok (w:Nat) (l:List Cl):Prop where
 each: ∀j c,l[j]? =some c->Cc (pn c)/\
  ((kd c=0/\C.width (rn c)=1)\/
   (kd c=1/\C.width (rn c)=2/\(j+1)%w≠0/\ ∃d,l[j+1]? =some d/\kd d=2/\pn d=pn c)\/
   (kd c=2/\rn c=0/\j%w≠0/\ ∃d,l[j-1]? =some d/\kd d=1))
theorem YI (w:Nat):Ok w [] :=⟨fun j c h=>by simp at h⟩
theorem Ox {α:Type} {l:List α} {x c:α} {j:Nat} (h:(l++ [x])[j]? =some c):l[j]? =some c\/(j=l.length/\c=x):=by
 rcases Nat.lt_or_ge j l.length with a | a
 ·rw [List.getElem?_append_left a] at h
  exact .inl h
 ·rw [List.getElem?_append_right a] at h
  rcases Nat.eq_or_lt_of_le a with b | b
  ·rw [<- b,Nat.sub_self] at h
   exact .inr ⟨b.symm,(Option.some.inj h).symm⟩
  ·rw [List.getElem?_eq_none (by simp;omega)] at h
   exact absurd h (by simp)
theorem Uw {α:Type} {l m:List α} {d:α} {j:Nat} (h:l[j]? =some d):(l++m)[j]? =some d:=by
 have a:j<l.length:=by
  rcases Nat.lt_or_ge j l.length with a | a
  ·exact a
  ·rw [List.getElem?_eq_none a] at h;exact absurd h (by simp)
 rw [List.getElem?_append_left a]
 exact h
theorem Ok.grow {w:Nat} {l m:List Cl} (h:Ok w l) {j:Nat} {c:Cl} (hc:l[j]? =some c):Cc (pn c)/\
  ((kd c=0/\C.width (rn c)=1)\/
   (kd c=1/\C.width (rn c)=2/\(j+1)%w≠0/\ ∃d,(l++m)[j+1]? =some d/\kd d=2/\pn d=pn c)\/
   (kd c=2/\rn c=0/\j%w≠0/\ ∃d,(l++m)[j-1]? =some d/\kd d=1)):=by
 obtain⟨h0,h | ⟨h1,h2,h3,d,h4,h5⟩ | ⟨h1,h2,h3,d,h4,h5⟩⟩:=h.each j c hc
 ·exact⟨h0,.inl h⟩
 ·exact⟨h0,.inr (.inl ⟨h1,h2,h3,d,Uw h4,h5⟩)⟩
 ·exact⟨h0,.inr (.inr ⟨h1,h2,h3,d,Uw h4,h5⟩)⟩
theorem ok_one {w:Nat} {l:List Cl} (h:Ok w l) {x:Int} {p:Pn} (hx:C.width x=1) (hp:Cc p):Ok w (l++ [(x,0,p)]):=by
 refine⟨fun j c hc=>?_⟩
 rcases Ox hc with a | ⟨_,rfl⟩
 ·exact h.grow a
 ·exact⟨hp,.inl ⟨rfl,hx⟩⟩
theorem ok_two {w:Nat} {l:List Cl} (h:Ok w l) {x:Int} {p:Pn} (hx:C.width x=2) (hp:Cc p) (hw:(l.length+1)%w≠0):Ok w (l++ [(x,1,p),(0,2,p)]):=by
 have e:l++ [(x,1,p),(0,2,p)] =l++ [(x,1,p)] ++ [(0,2,p)] :=by simp
 refine⟨fun j c hc=>?_⟩
 rw [e] at hc
 rcases Ox hc with a | ⟨hj,rfl⟩
 ·rcases Ox a with b | ⟨hj,rfl⟩
  ·exact h.grow b
  ·refine⟨hp,.inr (.inl ⟨rfl,hx,by rw [hj];exact hw,(0,2,p),?_,rfl,rfl⟩)⟩
   rw [e,hj]
   exact List.getElem?_concat_length (l:=l++ [(x,1,p)]) (a:=((0,2,p):Cl))▸by simp
 ·have hj:j=l.length+1:=by simpa using hj
  refine⟨hp,.inr (.inr ⟨rfl,rfl,by rw [hj];exact hw,(x,1,p),?_,rfl⟩)⟩
  rw [hj]
  simp
theorem bP {w r c:Nat} (hc:c<w):(r*w+c)%w=c:=(JG hc).2
theorem bQ {R K:Nat} {l:List Cl} (h:Ok K l) (hl:l.length=R*K) (h1:1<=R) (h2:R<=40) (h3:1<=K) (h4:K<=60):BL (ofL R K l):=by
 refine⟨h1,h2,h3,h4,fun r hr c hc=>?_⟩
 have hc:c<K:=hc
 have hr:r<R:=hr
 have e:=Ow hl hr hc
 obtain⟨h0,k | ⟨k1,k2,k3,d,k4,k5,k6⟩ | ⟨k1,k2,k3,d,k4,k5⟩⟩:=h.each _ _ e
 ·exact⟨h0,.inl k⟩
 ·have hn:c+1<K:=by
   rcases Nat.lt_or_ge (c+1) K with a | a
   ·exact a
   ·exfalso
    apply k3
    have:c+1=K:=by omega
    rw [Nat.add_assoc,this, <- Nat.succ_mul]
    exact Nat.mul_mod_left _ _
  have e':=Ow hl hr hn
  rw [<- Nat.add_assoc,k4] at e'
  have e':=Option.some.inj e'
  exact⟨h0,.inr (.inl ⟨k1,k2,hn,by rw [<- e'];exact k5,by rw [<- e'];exact k6⟩)⟩
 ·rw [bP hc] at k3
  have hn:c-1<K:=by omega
  have e':=Ow hl hr hn
  rw [show r*K+(c-1)=r*K+c-1 from by omega,k4] at e'
  have e':=Option.some.inj e'
  exact⟨h0,.inr (.inr ⟨k1,k2,by omega,by rw [<- e'];exact k5⟩)⟩
theorem bS {R K i:Nat} (hi:i<R*K) (hw:(i+1)%K≠0):i+2<=R*K:=by
 rcases Nat.lt_or_ge (i+1) (R*K) with a | a
 ·omega
 ·exfalso
  apply hw
  have:i+1=R*K:=by omega
  rw [this]
  exact Nat.mul_mod_left _ _
def text (f:Nat->Cl) (n:Nat):List Int:=U.enc (runes f n)
end Go.Proofs.YtoaabebgmdbjeaaGreatDoor.PG
namespace Go.Proofs.YtoaabebgmdbjeaaGreatDoor.PG
theorem Vi {x:Int} (h0:11904<=x) (h1:x<=42191):C.width x=2:=by
 rw [C.Kk]
 unfold C.Ib
 rw [if_neg (show¬C.narrow x from by unfold C.narrow;omega)]
 unfold C.OD
 rw [C.Bg (by omega),C.Dv (by omega)]
theorem QT {x:Int} (h0:32<=x) (h1:x<=126):C.width x=1:=by
 rw [C.Kk]
 unfold C.Ib
 rw [if_neg (show¬C.narrow x from by unfold C.narrow;omega)]
 unfold C.OD
 rw [C.Bg (by omega),C.Bg (by omega),C.Bg (by omega),C.Bg (by omega),C.Bg (by omega),C.Bg (by omega),C.Bg (by omega),C.Bg (by omega),C.Bg (by omega)]
 rfl
def pick (l:List Int) (i:Nat):Int:=if l= [] then 0 else l.getD (i%l.length) 0
def Gl (v:Int):Pn:=(C.EH v,C.EH (v.tdiv 16),v.tdiv 64%256)
theorem MG (v:Int):Cc (Gl v):=C.Ej.2 ⟨C.G8 _,C.G8 _,by show 0<=v.tdiv 64%256;omega,by show v.tdiv 64%256<=255;omega⟩
def EX (rs ps:List Int) (w:Nat) (l:List Cl):List Cl:=
 if (pick rs l.length).tmod 5=4/\(l.length+1)%w≠0 then l++ [(19968+(pick rs l.length).tmod 9,1,Gl (pick ps (l.length / 3))),(0,2,Gl (pick ps (l.length / 3)))]
 else l++ [(97+pick rs l.length%10,0,Gl (pick ps (l.length / 3)))]
theorem QU {n:Int} (h:n.tmod 5=4):0<=n:=by
 rcases Int.lt_or_le n 0 with a | a
 ·exfalso
  have h1:=Int.neg_tmod n 5
  rw [h] at h1
  have h2:=Int.tmod_nonneg (5:Int) (show(0:Int)<= -n by omega)
  omega
 ·exact a
theorem Ig (rs ps:List Int) {R w:Nat} {l:List Cl} (h:Ok w l) (hl:l.length<R*w):Ok w (EX rs ps w l)/\l.length<(EX rs ps w l).length/\(EX rs ps w l).length<=R*w:=by
 unfold EX
 by_cases hc:(pick rs l.length).tmod 5=4/\(l.length+1)%w≠0
 ·rw [if_pos hc]
  have h0:=QU hc.1
  have h1:=Int.tmod_nonneg (9:Int) h0
  have h2:=Int.tmod_lt_of_pos (pick rs l.length) (b:=9) (by omega)
  refine⟨ok_two h (Vi (by omega) (by omega)) (MG _) hc.2,by simp,?_⟩
  have:=bS hl hc.2
  simpa using this
 ·rw [if_neg hc]
  exact⟨ok_one h (QT (by omega) (by omega)) (MG _),by simp,by simp;omega⟩
def Ed (rs ps:List Int) (w total:Nat):Nat->List Cl->List Cl
 | 0,l=>l
 | k+1,l=>if l.length<total then Ed rs ps w total k (EX rs ps w l) else l
theorem Vj (rs ps:List Int) {R w:Nat}: ∀k l,Ok w l->l.length<=R*w->R*w-l.length<=k->Ok w (Ed rs ps w (R*w) k l)/\(Ed rs ps w (R*w) k l).length=R*w:=by
 intro k
 induction k with
 | zero=>intro l h hl hk;exact⟨h,by show l.length=_;omega⟩
 | succ k ih=>
  intro l h hl hk
  unfold Ed
  by_cases hc:l.length<R*w
  ·rw [if_pos hc]
   obtain⟨a,b,c⟩:=Ig rs ps h hc
   exact ih _ a c (by omega)
  ·rw [if_neg hc]
   exact⟨h,by omega⟩
def Df (rs ps:List Int) (R w:Nat):List Cl:=Ed rs ps w (R*w) (R*w) []
theorem Fu (rs ps:List Int) (R w:Nat):Ok w (Df rs ps R w)/\(Df rs ps R w).length=R*w:=Vj rs ps _ _ (YI w) (by simp) (by simp)
theorem QV (rs ps:List Int) {R w k:Nat} {l:List Cl} (h:Ok w l) (hl:l.length<R*w) (hk:R*w-l.length<=k):Ed rs ps w (R*w) k l=Ed rs ps w (R*w) k (EX rs ps w l):=by
 induction k generalizing l with
 | zero=>omega
 | succ k ih=>
  obtain⟨a,b,c⟩:=Ig rs ps h hl
  conv=>lhs;unfold Ed
  rw [if_pos hl]
  rcases Nat.lt_or_ge (EX rs ps w l).length (R*w) with d | d
  ·rw [ih a d (by omega)]
   conv=>rhs;unfold Ed
   rw [if_pos d]
  ·conv=>rhs;unfold Ed
   rw [if_neg (by omega)]
   cases k with
   | zero=>rfl
   | succ k=>unfold Ed;rw [if_neg (by omega)]
theorem QW (rs ps:List Int) {w total k:Nat} {l:List Cl} (hl:total<=l.length):Ed rs ps w total k l=l:=by
 cases k with
 | zero=>rfl
 | succ k=>unfold Ed;rw [if_neg (by omega)]
theorem Jd (rs ps:List Int) {R w:Nat} (h1:1<=R) (h2:R<=40) (h3:1<=w) (h4:w<=60):BL (ofL R w (Df rs ps R w)):=bQ (Fu rs ps R w).1 (Fu rs ps R w).2 h1 h2 h3 h4
theorem Sb (rs ps:List Int) (R w:Nat):cells (ofL R w (Df rs ps R w))=Df rs ps R w:=Vg (Fu rs ps R w).2
end Go.Proofs.YtoaabebgmdbjeaaGreatDoor.PG
namespace Go.Proofs.YtoaabebgmdbjeaaGreatDoor.TB
def Ok (t:Nat):Prop:=t<18446744073709551616
def Ih (t c:Nat):Nat:=t||| 2 ^ c
def drop1 (t c:Nat):Nat:=t&&& (18446744073709551615-2 ^ c)
theorem Sd {c:Nat} (h:c<64):2 ^ c<18446744073709551616:=by
 have:2 ^ c<=2 ^ 63:=Nat.pow_le_pow_right (by omega) (by omega)
 have e:(2:Nat) ^ 63=9223372036854775808:=by decide
 omega
theorem Ux {t c:Nat} (h:Ok t) (hc:c<64):Ok (Ih t c):=by
 have e:(18446744073709551616:Nat)=2 ^ 64:=by decide
 unfold Ok Ih at*
 rw [e] at h⊢
 exact Nat.or_lt_two_pow h (by rw [<- e];exact Sd hc)
theorem YJ {t c:Nat} (h:Ok t):Ok (drop1 t c):=Nat.lt_of_le_of_lt Nat.and_le_left h
theorem QX (t c i:Nat):(Ih t c).testBit i=(t.testBit i||decide (c=i)):=by
 unfold Ih
 rw [Nat.testBit_or,Nat.testBit_two_pow]
theorem Vk {t c i:Nat} (hc:c<64) (hi:i<64):(drop1 t c).testBit i=(t.testBit i&& !decide (c=i)):=by
 have e:18446744073709551615-2 ^ c=2 ^ 64-(2 ^ c+1):=by
  have:(2:Nat) ^ 64=18446744073709551616:=by decide
  omega
 have h:(2:Nat) ^ c<2 ^ 64:=Nat.pow_lt_pow_right (by omega) hc
 unfold drop1
 rw [Nat.testBit_and,e,Nat.testBit_two_pow_sub_succ h,Nat.testBit_two_pow,decide_eq_true hi,Bool.true_and]
theorem QY {t i:Nat} (h:Ok t) (hi:64<=i):t.testBit i=false:=Nat.testBit_lt_two_pow (Nat.lt_of_lt_of_le h (by
 have:(2:Nat) ^ 64<=2 ^ i:=Nat.pow_le_pow_right (by omega) hi
 have e:(2:Nat) ^ 64=18446744073709551616:=by decide
 omega))
theorem ext {a b:Nat} (ha:Ok a) (hb:Ok b) (h: ∀i,i<64->a.testBit i=b.testBit i):a=b:=Nat.eq_of_testBit_eq fun i=>by
 by_cases hi:i<64
 ·exact h i hi
 ·rw [QY ha (by omega),QY hb (by omega)]
def col (x:Int):Prop:=0<=x/\x<64
instance (x:Int):Decidable (col x):=inferInstanceAs (Decidable (_/\_))
def puts (t:Nat):List Int->Nat
 | [] =>t
 | x::l=>puts (if col x then Ih t x.toNat else t) l
def drops (t:Nat):List Int->Nat
 | [] =>t
 | x::l=>drops (if col x then drop1 t x.toNat else t) l
theorem Hu: ∀{l:List Int} {t:Nat},Ok t->Ok (puts t l)
 | [],t,h=>h
 | x::l,t,h=>Hu (t:=if col x then Ih t x.toNat else t) (by
  split
  ·rename_i hx
   exact Ux h (by unfold col at hx;omega)
  ·exact h)
theorem QZ: ∀{l:List Int} {t:Nat},Ok t->Ok (drops t l)
 | [],t,h=>h
 | x::l,t,h=>QZ (t:=if col x then drop1 t x.toNat else t) (by
  split
  ·exact YJ h
  ·exact h)
theorem Jv: ∀(l:List Int) (t i:Nat),i<64->(puts t l).testBit i=(t.testBit i||l.any fun x=>decide (x=(i:Int)))
 | [],t,i,hi=>by simp [puts]
 | x::l,t,i,hi=>by
  show(puts _ l).testBit i=_
  rw [Jv l _ i hi,List.any_cons]
  by_cases hx:col x
  ·rw [if_pos hx,QX]
   have e:decide (x.toNat=i)=decide (x=(i:Int)):=by
    unfold col at hx
    by_cases h:x=(i:Int)
    ·rw [decide_eq_true h,decide_eq_true (by omega)]
    ·rw [decide_eq_false h,decide_eq_false (by omega)]
   rw [e,Bool.or_assoc]
  ·rw [if_neg hx]
   have e:decide (x=(i:Int))=false:=decide_eq_false (fun h=>hx (by unfold col;omega))
   rw [e,Bool.false_or]
theorem OE: ∀(l:List Int) (t i:Nat),i<64->(drops t l).testBit i=(t.testBit i&& !(l.any fun x=>decide (x=(i:Int))))
 | [],t,i,hi=>by simp [drops]
 | x::l,t,i,hi=>by
  show(drops _ l).testBit i=_
  rw [OE l _ i hi,List.any_cons]
  by_cases hx:col x
  ·rw [if_pos hx,Vk (by unfold col at hx;omega) hi]
   have e:decide (x.toNat=i)=decide (x=(i:Int)):=by
    unfold col at hx
    by_cases h:x=(i:Int)
    ·rw [decide_eq_true h,decide_eq_true (by omega)]
    ·rw [decide_eq_false h,decide_eq_false (by omega)]
   rw [e,Bool.not_or,Bool.and_assoc]
  ·rw [if_neg hx]
   have e:decide (x=(i:Int))=false:=decide_eq_false (fun h=>hx (by unfold col;omega))
   rw [e,Bool.false_or]
theorem K8 (t:Nat): ∀(a b:List Int),puts t (a++b)=puts (puts t a) b
 | [],b=>rfl
 | x::a,b=>K8 _ a b
def next (t c k:Nat):Nat:=(((List.range k).filter fun i=>decide (c<i)&&t.testBit i).head?).getD (k-1)
theorem bT {t c k:Nat} (hk:1<=k):next t c k<k:=by
 unfold next
 cases h:((List.range k).filter fun i=>decide (c<i)&&t.testBit i).head? with
 | none=>show k-1<k;omega
 | some x=>
  have:=List.mem_of_mem_head? (by rw [h];rfl:x∈_)
  rw [List.mem_filter,List.mem_range] at this
  exact this.1
theorem bU {t c k x:Nat} (h1:c<x) (h2:x<k) (h3:t.testBit x=true) (h4: ∀i,c<i->i<x->t.testBit i=false):next t c k=x:=by
 unfold next
 rw [List.head?_filter]
 have:(List.range k).find? (fun i=>decide (c<i)&&t.testBit i)=some x:=by
  rw [List.find?_range_eq_some]
  refine⟨by simp [h1,h3],by simpa using h2,fun j hj=>?_⟩
  by_cases hc:c<j
  ·simp [h4 j hc hj]
  ·simp [hc]
 rw [this]
 rfl
theorem Vl {t c k:Nat} (h: ∀i,c<i->i<k->t.testBit i=false):next t c k=k-1:=by
 unfold next
 rw [List.head?_filter]
 have:(List.range k).find? (fun i=>decide (c<i)&&t.testBit i)=none:=by
  rw [List.find?_eq_none]
  intro j hj
  rw [List.mem_range] at hj
  by_cases hc:c<j
  ·simp [h j hc hj]
  ·simp [hc]
 rw [this]
 rfl
def Oy (n:Nat):Nat->Nat
 | 0=>0
 | k+1=>if 8*(k+1)<n then Ih (Oy n k) (8*(k+1)) else Oy n k
def news (n:Nat):Nat:=Oy n 7
theorem Oz (n:Nat): ∀k,k<=7->Ok (Oy n k)
 | 0,_=>by unfold Oy Ok;omega
 | k+1,h=>by
  unfold Oy
  split
  ·exact Ux (Oz n k (by omega)) (by omega)
  ·exact Oz n k (by omega)
theorem MH (n i:Nat): ∀k,(Oy n k).testBit i=decide (i%8=0/\0<i/\i<=8*k/\i<n)
 | 0=>by
  unfold Oy
  rw [Nat.zero_testBit,decide_eq_false (by omega)]
 | k+1=>by
  unfold Oy
  by_cases h:8*(k+1)<n
  ·rw [if_pos h,QX,MH n i k]
   by_cases e:8*(k+1)=i
   ·rw [decide_eq_true e,Bool.or_true,decide_eq_true (by omega)]
   ·rw [decide_eq_false e,Bool.or_false]
    by_cases c:i%8=0/\0<i/\i<=8*k/\i<n
    ·rw [decide_eq_true c,decide_eq_true (by omega)]
    ·rw [decide_eq_false c,decide_eq_false (by omega)]
  ·rw [if_neg h,MH n i k]
   by_cases c:i%8=0/\0<i/\i<=8*k/\i<n
   ·rw [decide_eq_true c,decide_eq_true (by omega)]
   ·rw [decide_eq_false c,decide_eq_false (by omega)]
theorem Uy (n:Nat):Ok (news n):=Oz n 7 (by omega)
theorem YK {n i:Nat} (hi:i<64):(news n).testBit i=decide (i%8=0/\0<i/\i<n):=by
 unfold news
 rw [MH]
 by_cases c:i%8=0/\0<i/\i<n
 ·rw [decide_eq_true c,decide_eq_true (by omega)]
 ·rw [decide_eq_false c,decide_eq_false (by omega)]
theorem bV {n t:Nat} (h:Ok t) (hb: ∀i,i<64->t.testBit i=decide (i%8=0/\0<i/\i<n)):t=news n:=ext h (Uy n) fun i hi=>by rw [hb i hi,YK hi]
end Go.Proofs.YtoaabebgmdbjeaaGreatDoor.TB
namespace Go.Proofs.YtoaabebgmdbjeaaGreatDoor.TB
def Gd (c:Int):Nat:=if col c then 2 ^ c.toNat else 0
theorem O5 (c:Int):Ok (Gd c):=by
 unfold Gd
 split
 ·rename_i h
  exact Sd (by unfold col at h;omega)
 ·unfold Ok;omega
theorem YL (c:Int) (i:Nat) (hi:i<64):(Gd c).testBit i=decide (c=(i:Int)):=by
 unfold Gd
 split
 ·rename_i h
  unfold col at h
  rw [Nat.testBit_two_pow]
  by_cases e:c=(i:Int)
  ·rw [decide_eq_true e,decide_eq_true (by omega)]
  ·rw [decide_eq_false e,decide_eq_false (by omega)]
 ·rename_i h
  rw [Nat.zero_testBit,decide_eq_false (fun e=>h (by unfold col;omega))]
def Co (c:Int):Nat:=2 ^ min c.toNat 64-1
theorem He (c:Int):Ok (Co c):=by
 have h:2 ^ min c.toNat 64<=2 ^ 64:=Nat.pow_le_pow_right (by omega) (by omega)
 have e:(2:Nat) ^ 64=18446744073709551616:=by decide
 have p:0<2 ^ min c.toNat 64:=Nat.two_pow_pos _
 unfold Ok Co
 omega
theorem Je (c:Int) (i:Nat) (hi:i<64):(Co c).testBit i=decide ((i:Int)<c):=by
 unfold Co
 rw [Nat.testBit_two_pow_sub_one]
 by_cases e:(i:Int)<c
 ·rw [decide_eq_true e,decide_eq_true (by omega)]
 ·rw [decide_eq_false e,decide_eq_false (by omega)]
theorem Vm {c:Int} (h:0<=c):((Co c:Nat):Int)=((Gd c:Nat):Int)-1\/(Gd c=0/\Co c=18446744073709551615):=by
 unfold Co Gd
 by_cases hc:col c
 ·left
  rw [if_pos hc]
  unfold col at hc
  rw [show min c.toNat 64=c.toNat by omega]
  have p:0<2 ^ c.toNat:=Nat.two_pow_pos _
  omega
 ·right
  rw [if_neg hc]
  unfold col at hc
  rw [show min c.toNat 64=64 by omega]
  exact⟨rfl,by decide⟩
theorem O6 {y i:Nat} (hy:Ok y) (hi:i<64):(18446744073709551615-y).testBit i= !y.testBit i:=by
 have e:18446744073709551615-y=2 ^ 64-(y+1):=by
  have:(2:Nat) ^ 64=18446744073709551616:=by decide
  omega
 have h:y<2 ^ 64:=Nat.lt_of_lt_of_eq hy (by decide)
 rw [e,Nat.testBit_two_pow_sub_succ h,decide_eq_true hi,Bool.true_and]
theorem lG {a b:Nat} (ha:Ok a) (hb:Ok b):Ok (a||| b):=by
 have e:(18446744073709551616:Nat)=2 ^ 64:=by decide
 unfold Ok at*
 rw [e] at*
 exact Nat.or_lt_two_pow ha hb
theorem Ii {a b:Nat} (ha:Ok a):Ok (a&&& b):=Nat.lt_of_le_of_lt Nat.and_le_left ha
theorem bW (t:Nat) (c:Int):t||| Gd c=if col c then Ih t c.toNat else t:=by
 unfold Gd Ih
 split
 ·rfl
 ·exact Nat.or_zero t
theorem Vn (t:Nat) (x:Int) (l:List Int):puts t (x::l)=puts (t||| Gd x) l:=by
 rw [bW]
 rfl
theorem Vo (t:Nat) (l:List Int) (x:Int):puts t (l++ [x])=puts t l||| Gd x:=by
 rw [K8,Vn]
 rfl
theorem ok0:Ok 0:=by unfold Ok;omega
theorem bX {t:Nat} (ht:Ok t) (l:List Int):t||| puts 0 l=puts t l:=ext (lG ht (Hu ok0)) (Hu ht) fun i hi=>by
 rw [Nat.testBit_or,Jv l 0 i hi,Jv l t i hi]
 simp
theorem Vp {t:Nat} (ht:Ok t) (l:List Int):t&&& (18446744073709551615-puts 0 l)=drops t l:=ext (Ii ht) (QZ ht) fun i hi=>by
 rw [Nat.testBit_and,O6 (Hu ok0) hi,Jv l 0 i hi,OE l t i hi]
 simp
theorem YM {n:Int} (hn:0<=n):72340172838076672&&& Co n=news n.toNat:=bV (Ii (by unfold Ok;omega)) fun i hi=>by
 rw [Nat.testBit_and,Je n i hi]
 have h: ∀j,j<64->(72340172838076672:Nat).testBit j=decide (j%8=0/\0<j):=by decide
 rw [h i hi]
 by_cases c:i%8=0/\0<i
 ·rw [decide_eq_true c,Bool.true_and]
  by_cases e:(i:Int)<n
  ·rw [decide_eq_true e,decide_eq_true (by omega)]
  ·rw [decide_eq_false e,decide_eq_false (by omega)]
 ·rw [decide_eq_false c,Bool.false_and,decide_eq_false (by omega)]
def behind (t:Nat) (c k:Int):Nat:=((t&&& Co k)&&& (18446744073709551615-Co c))&&& (18446744073709551615-Gd c)
theorem OG {t:Nat} (ht:Ok t) (c k:Int):Ok (behind t c k):=Ii (Ii (Ii ht))
theorem Jf (t:Nat) (c k:Nat) (i:Nat) (hi:i<64):(behind t c k).testBit i=(t.testBit i&&decide (c<i/\i<k)):=by
 unfold behind
 rw [Nat.testBit_and,Nat.testBit_and,Nat.testBit_and,O6 (He _) hi,O6 (O5 _) hi,Je _ i hi,Je _ i hi,YL _ i hi]
 by_cases h:c<i/\i<k
 ·rw [decide_eq_true h,decide_eq_true (by omega:(i:Int)<(k:Int)),decide_eq_false (by omega: ¬(i:Int)<(c:Int)),decide_eq_false (by omega: ¬(c:Int)=(i:Int))]
  simp
 ·rw [decide_eq_false h,Bool.and_false]
  by_cases h1:(i:Int)<(k:Int)
  ·by_cases h2:(i:Int)<(c:Int)
   ·rw [decide_eq_true h2]
    simp
   ·rw [decide_eq_true (by omega:(c:Int)=(i:Int))]
    simp
  ·rw [decide_eq_false h1]
   simp
theorem Qa {t c k:Nat} (hk:k<=64) (h:behind t c k=0):next t c k=k-1:=Vl fun i h1 h2=>by
 have:=Jf t c k i (by omega)
 rw [h,Nat.zero_testBit,decide_eq_true ⟨h1,h2⟩,Bool.and_true] at this
 exact this.symm
theorem bY {x:Nat} (h0:x≠0) (h:Ok x):x.testBit (Lib.ctz 64 x)=true/\Lib.ctz 64 x<64/\ ∀i,i<Lib.ctz 64 x->x.testBit i=false:=by
 obtain⟨m,hm,hk⟩:=Lib.ctzFrom_spec 64 x (by omega) (Nat.lt_of_lt_of_eq h (by decide))
 have e:Lib.ctz 64 x=Lib.ctzFrom 64 x:=by simp [Lib.ctz,h0]
 rw [e]
 generalize Lib.ctzFrom 64 x=k at*
 subst hm
 refine⟨?_,hk,fun i hi=>?_⟩
 ·rw [Nat.mul_comm,Nat.testBit_mul_two_pow]
  simp
 ·rw [Nat.mul_comm,Nat.testBit_mul_two_pow,decide_eq_false (by omega),Bool.false_and]
theorem Qb {t c k:Nat} (ht:Ok t) (h:behind t c k≠0):Lib.ctz 64 (behind t c k)=next t c k:=by
 obtain⟨h1,h2,h3⟩:=bY h (OG ht _ _)
 generalize Lib.ctz 64 (behind t c k)=z at*
 rw [Jf t c k z h2] at h1
 simp only [Bool.and_eq_true,decide_eq_true_eq] at h1
 refine(bU h1.2.1 h1.2.2 h1.1 fun i hc hi=>?_).symm
 have:=h3 i hi
 rw [Jf t c k i (by omega),decide_eq_true ⟨hc,by omega⟩,Bool.and_true] at this
 exact this
end Go.Proofs.YtoaabebgmdbjeaaGreatDoor.TB
namespace Go.Proofs.YtoaabebgmdbjeaaGreatDoor
namespace SN
structure Sv where
 row:Nat
 col:Nat
 pen:PG.Pn
 s0:Int
 s1:Int
 sh:Int
 org:Bool
structure Sc where
 g:PG.Gr
 row:Nat
 col:Nat
 pend:Bool
 top:Nat
 bot:Nat
 pen:PG.Pn
 tabs:Nat
 s0:Int
 s1:Int
 sh:Int
 wrap:Bool
 org:Bool
 shown:Bool
 keys:Bool
 pad:Bool
 sv:Sv
def Uz (x y h:Int):Prop:=(x=66\/x=48)/\(y=66\/y=48)/\(h=0\/h=1)
structure Jw (R K:Nat) (s:Sv):Prop where
 row:s.row<R
 col:s.col<K
 pen:PG.Cc s.pen
 set:Uz s.s0 s.s1 s.sh
structure Ad (s:Sc):Prop where
 g:PG.BL s.g
 row:s.row<s.g.rows
 col:s.col<s.g.AB
 bot:s.bot<s.g.rows
 top:s.top<s.bot\/(s.g.rows=1/\s.top=0/\s.bot=0)
 pen:PG.Cc s.pen
 tabs:TB.Ok s.tabs
 set:Uz s.s0 s.s1 s.sh
 pend:s.pend=true->s.wrap=true/\s.col+1=s.g.AB
 sv:Jw s.g.rows s.g.AB s.sv
def full (R K:Nat):Sc:=⟨PG.newG R K PG.plain,0,0,false,0,R-1,PG.plain,TB.news K,66,66,0,true,false,true,false,false,⟨0,0,PG.plain,66,66,0,false⟩⟩
def sized (s:Sc) (R K:Nat):Sc:={s with g:=PG.bN s.g R K,row:=min s.row (R-1),col:=min s.col (K-1),pend:=false,top:=0,bot:=R-1,tabs:=TB.news K,sv:={s.sv with row:=min s.sv.row (R-1),col:=min s.sv.col (K-1)}}
theorem lH:Uz 66 66 0:=⟨.inl rfl,.inl rfl,.inl rfl⟩
theorem Sg {R K:Nat} (h1:1<=R) (h2:R<=40) (h3:1<=K) (h4:K<=60):Ad (full R K) where
 g:=PG.SX PG.G9 h1 h2 h3 h4
 row:=by show 0<R;omega
 col:=by show 0<K;omega
 bot:=by show R-1<R;omega
 top:=by
  show 0<R-1\/(R=1/\0=0/\R-1=0)
  omega
 pen:=PG.G9
 tabs:=TB.Uy K
 set:=lH
 pend:=fun h=>nomatch h
 sv:=⟨by show 0<R;omega,by show 0<K;omega,PG.G9,lH⟩
def YN (a b:Sc):Prop:=PG.Alike a.g b.g/\{a with g:=b.g}=b
theorem YN.refl (a:Sc):YN a a:=⟨PG.Alike.refl _,rfl⟩
def fl (f:Int) (k:Nat):Bool:=f / 2 ^ k%2==1
structure Ks where
 row:Int
 col:Int
 top:Int
 bot:Int
 fl:Int
 p0:Int
 p1:Int
 p2:Int
 tabs:Nat
def EL (R:Nat) (t:Int):Nat:=if 1<R then (t%(R-1)).toNat else 0
def Hf (R:Nat) (t b:Int):Nat:=if 1<R then EL R t+1+(b%(R-1-EL R t)).toNat else R-1
def Qc (g:PG.Gr) (k:Ks):Sc where
 g:=g
 row:=(k.row%g.rows).toNat
 col:=(k.col%g.AB).toNat
 pend:= !fl k.fl 0&&decide ((k.col%g.AB).toNat+1=g.AB)&&fl k.fl 5
 top:=EL g.rows k.top
 bot:=Hf g.rows k.top k.bot
 pen:=(C.EH k.p0,C.EH k.p1,k.p2%256)
 tabs:=k.tabs
 s0:=if fl k.fl 6=true then 48 else 66
 s1:=66
 sh:=if fl k.fl 7=true then 1 else 0
 wrap:= !fl k.fl 0
 org:=fl k.fl 1
 shown:= !fl k.fl 2
 keys:=fl k.fl 3
 pad:=fl k.fl 4
 sv:=⟨(k.col%g.rows).toNat,(k.row%g.AB).toNat,(C.EH k.fl,C.EH 0,0),66,48,0,fl k.fl 8⟩
theorem O7 {R:Nat} (h:1<R) (t:Int):EL R t<R-1/\EL R t=(t%((R:Int)-1)).toNat:=by
 have h0:=Int.emod_nonneg t (b:=(R:Int)-1) (by omega)
 have h1:=Int.emod_lt_of_pos t (b:=(R:Int)-1) (by omega)
 have e:EL R t=(t%((R:Int)-1)).toNat:=if_pos h
 exact⟨by omega,e⟩
theorem Si {R:Nat} (h:1<R) (t b:Int):EL R t<Hf R t b/\Hf R t b<R:=by
 have ht:=(O7 h t).1
 have e:Hf R t b=EL R t+1+(b%((R:Int)-1-EL R t)).toNat:=if_pos h
 have h0:=Int.emod_nonneg b (b:=(R:Int)-1-EL R t) (by omega)
 have h1:=Int.emod_lt_of_pos b (b:=(R:Int)-1-EL R t) (by omega)
 omega
theorem Sj {g:PG.Gr} (h:PG.BL g) (k:Ks) (ht:TB.Ok k.tabs):Ad (Qc g k) where
 g:=h
 row:=by
  show(k.row%(g.rows:Int)).toNat<g.rows
  have:=h.1
  have h0:=Int.emod_nonneg k.row (b:=(g.rows:Int)) (by omega)
  have h1:=Int.emod_lt_of_pos k.row (b:=(g.rows:Int)) (by omega)
  omega
 col:=by
  show(k.col%(g.AB:Int)).toNat<g.AB
  have:=h.2.2.1
  have h0:=Int.emod_nonneg k.col (b:=(g.AB:Int)) (by omega)
  have h1:=Int.emod_lt_of_pos k.col (b:=(g.AB:Int)) (by omega)
  omega
 bot:=by
  show Hf g.rows k.top k.bot<g.rows
  have:=h.1
  by_cases h1:1<g.rows
  ·exact(Si h1 _ _).2
  ·have e:Hf g.rows k.top k.bot=g.rows-1:=if_neg h1
   omega
 top:=by
  show EL g.rows k.top<Hf g.rows k.top k.bot\/(g.rows=1/\EL g.rows k.top=0/\Hf g.rows k.top k.bot=0)
  have:=h.1
  by_cases h1:1<g.rows
  ·exact .inl (Si h1 _ _).1
  ·have e:Hf g.rows k.top k.bot=g.rows-1:=if_neg h1
   have e':EL g.rows k.top=0:=if_neg h1
   omega
 pen:=C.Ej.2 ⟨C.G8 _,C.G8 _,by show 0<=k.p2%256;omega,by show k.p2%256<=255;omega⟩
 tabs:=ht
 set:=by
  show Uz (if fl k.fl 6=true then 48 else 66) 66 (if fl k.fl 7=true then 1 else 0)
  refine⟨?_,.inl rfl,?_⟩<;>split<;>simp
 pend:=by
  show(!fl k.fl 0&&decide ((k.col%(g.AB:Int)).toNat+1=g.AB)&&fl k.fl 5)=true->(!fl k.fl 0)=true/\(k.col%(g.AB:Int)).toNat+1=g.AB
  intro e
  simp only [Bool.and_eq_true,decide_eq_true_eq] at e
  exact e.1
 sv:=by
  have i1:=h.1
  have i2:=h.2.2.1
  have hp:PG.Cc (C.EH k.fl,C.EH 0,0):=C.Ej.2 ⟨C.G8 k.fl,C.G8 0,by show(0:Int)<=0;omega,by show(0:Int)<=255;omega⟩
  refine⟨?_,?_,hp,⟨.inl rfl,.inr rfl,.inl rfl⟩⟩
  ·show(k.col%(g.rows:Int)).toNat<g.rows
   have h0:=Int.emod_nonneg k.col (b:=(g.rows:Int)) (by omega)
   have h1:=Int.emod_lt_of_pos k.col (b:=(g.rows:Int)) (by omega)
   omega
  ·show(k.row%(g.AB:Int)).toNat<g.AB
   have h0:=Int.emod_nonneg k.row (b:=(g.AB:Int)) (by omega)
   have h1:=Int.emod_lt_of_pos k.row (b:=(g.AB:Int)) (by omega)
   omega
end SN
end Go.Proofs.YtoaabebgmdbjeaaGreatDoor
namespace Go.Proofs.YtoaabebgmdbjeaaGreatDoor
open SN
theorem bf (x:Int) (i:Nat) (hi:i<=61):((x%((2 ^ 64:Nat):Int)).toNat.testBit i)=fl x i:=by
 have e:=F3 x (i+1) 64 (by omega)
 generalize (x%((2 ^ 64:Nat):Int)).toNat=n at*
 have h1:n.testBit i=(n%2 ^ (i+1)).testBit i:=by rw [Nat.testBit_mod_two_pow];simp
 have h2:fl x i=(x%((2 ^ (i+1):Nat):Int) / ((2 ^ i:Nat):Int)==1):=by
  have hp:(0:Int)<((2 ^ i:Nat):Int):=by exact_mod_cast Nat.two_pow_pos i
  have hs:((2 ^ (i+1):Nat):Int)=((2 ^ i:Nat):Int)*2:=by rw [Nat.pow_succ];exact Int.natCast_mul _ _
  unfold fl
  rw [show(2:Int) ^ i=((2 ^ i:Nat):Int) by simp,hs]
  generalize ((2 ^ i:Nat):Int)=q at hp
  rw [Int.emod_def x,Int.mul_assoc,Int.sub_mul_ediv_left _ _ (by omega), <- Int.ediv_ediv_of_nonneg (by omega),Int.emod_def (x / q)]
 have hz:((n%2 ^ (i+1) / 2 ^ i:Nat):Int)=x%((2 ^ (i+1):Nat):Int) / ((2 ^ i:Nat):Int):=by rw [<- e];exact Int.natCast_ediv _ _
 rw [h1,h2, <- hz,Nat.testBit_eq_decide_div_mod_eq]
 have hl:n%2 ^ (i+1) / 2 ^ i<2:=by
  have:=Nat.mod_lt n (Nat.two_pow_pos (i+1))
  rw [Nat.div_lt_iff_lt_mul (Nat.two_pow_pos i)]
  rw [Nat.pow_succ] at this⊢
  omega
 generalize n%2 ^ (i+1) / 2 ^ i=k at hl
 obtain rfl | rfl:k=0\/k=1:=by omega
 ·rfl
 ·rfl
theorem Qd (n i:Nat):n&&& 2 ^ i=if n.testBit i=true then 2 ^ i else 0:=by
 apply Nat.eq_of_testBit_eq
 intro j
 rw [Nat.testBit_and,Nat.testBit_two_pow]
 by_cases h:i=j
 ·subst h
  cases n.testBit i<;>simp
 ·rw [decide_eq_false h,Bool.and_false]
  split
  ·rw [Nat.testBit_two_pow,decide_eq_false h]
  ·simp
theorem U0 (x:Int) (i:Nat) (hi:i<=61):bits .and .i64 x ((2 ^ i:Nat):Int)=if fl x i=true then ((2 ^ i:Nat):Int) else 0:=by
 have hp:2 ^ i<=2 ^ 61:=Nat.pow_le_pow_right (by omega) hi
 have hq:0<2 ^ i:=Nat.two_pow_pos i
 show IntKind.i64.wrap ((BitVec.ofInt 64 x&&& BitVec.ofInt 64 ((2 ^ i:Nat):Int)).toNat:Int)=_
 rw [BitVec.toNat_and,BitVec.toNat_ofInt,BitVec.ofInt_natCast,BitVec.toNat_ofNat,Nat.mod_eq_of_lt (a:=2 ^ i) (by omega),Qd,bf x i hi,IntKind.wrap_i64]
 cases fl x i
 ·rw [if_neg (by simp),if_neg (by simp)]
  omega
 ·rw [if_pos rfl,if_pos rfl]
  omega
theorem MI (x:Int) (i:Nat) (p:Int) (b:Bool) (hi:i<=61) (hp:((2 ^ i:Nat):Int)=p) (hb:fl x i=b):(bits .and .i64 x p==p)=b:=by
 subst hp hb
 have hq:0<2 ^ i:=Nat.two_pow_pos i
 have h0:((2 ^ i:Nat):Int)≠0:=by omega
 rw [U0 x i hi]
 generalize ((2 ^ i:Nat):Int)=q at h0
 cases fl x i
 ·rw [if_neg (by simp)]
  exact beq_eq_false_iff_ne.2 (Ne.symm h0)
 ·rw [if_pos rfl]
  exact beq_iff_eq.2 rfl
theorem YO (x:Int) (i:Nat) (p:Int) (b:Bool) (hi:i<=61) (hp:((2 ^ i:Nat):Int)=p) (hb:fl x i= !b):(bits .and .i64 x p==0)=b:=by
 subst hp
 have hq:0<2 ^ i:=Nat.two_pow_pos i
 have h0:((2 ^ i:Nat):Int)≠0:=by omega
 rw [U0 x i hi,hb]
 generalize ((2 ^ i:Nat):Int)=q at h0
 cases b
 ·rw [if_pos (by rfl)]
  exact beq_eq_false_iff_ne.2 h0
 ·rw [if_neg (by simp)]
  rfl
end Go.Proofs.YtoaabebgmdbjeaaGreatDoor
namespace Go.Proofs.YtoaabebgmdbjeaaGreatDoor
open Go.RowKit
theorem YP (n:Int) (hn0: -9223372036854775808<=n) (hn1:n<=9223372036854775807): -2305843009213693952<=n.tdiv 4/\n.tdiv 4<=2305843009213693952:=by
 have h1:=Int.mul_tdiv_add_tmod n 4
 have h2:=Int.tmod_lt_of_pos n (b:=4) (by omega)
 have h3:=Int.tmod_lt_of_pos (-n) (b:=4) (by omega)
 rw [Int.neg_tmod] at h3
 omega
theorem Ij (n:Int) (w:World) (hn0: -9223372036854775808<=n) (hn1:n<=9223372036854775807):
  Calls Tryz.prog 72 #[.int .i64 n] w fun e w'=>e=.returned (.int .i64 (C.EH n))/\w=w':=by
 have hr: ∀x:Int,x=C.EH n->Ending.returned (.int .i64 x)=.returned (.int .i64 (C.EH n)):=fun x h=>Ck h
 have HR:=Lib.hid hr
 obtain⟨d0,d1⟩:=YP n hn0 hn1
 clear hr
 have hc:n%4=0\/n%4=1\/n%4=2\/n%4=3:=by omega
 rcases hc with h | h | h | h
 ·have c1:=fun w'=>BN n 0 3 0 (by omega) w' hn0 hn1 (by omega) (by omega) (by omega)
  have C1:=hide c1
  have E:=hide (show-1=C.EH n by unfold C.EH;rw [if_pos h])
  clear c1 h
  go_enter Tryz.func72,Tryz.ntmps72
  go_wp2_with fail
  refine(C1.out _).mono ?_
  rintro e w' ⟨rfl,rfl⟩
  go_wp2_with fail
  go_ret
  exact⟨HR.out _ E.out,rfl⟩
 ·have c1:=fun w'=>BN n 0 3 1 (by omega) w' hn0 hn1 (by omega) (by omega) (by omega)
  have c2:=fun w'=>BN (n.tdiv 4) 0 15 (n.tdiv 4%16) (by omega) w' (by omega) (by omega) (by omega) (by omega) (by omega)
  have C1:=hide c1
  have C2:=hide c2
  have E:=hide (show n.tdiv 4%16=C.EH n by unfold C.EH;rw [if_neg (by omega),if_pos h])
  clear c1 c2 h
  go_enter Tryz.func72,Tryz.ntmps72
  go_wp2_with fail
  refine(C1.out _).mono ?_
  rintro e w' ⟨rfl,rfl⟩
  go_wp2_with fail
  refine(C2.out _).mono ?_
  rintro e w' ⟨rfl,rfl⟩
  go_wp2_with fail
  go_ret
  exact⟨HR.out _ E.out,rfl⟩
 ·have c1:=fun w'=>BN n 0 3 2 (by omega) w' hn0 hn1 (by omega) (by omega) (by omega)
  have c2:=fun w'=>BN (n.tdiv 4) 0 255 (n.tdiv 4%256) (by omega) w' (by omega) (by omega) (by omega) (by omega) (by omega)
  have C1:=hide c1
  have C2:=hide c2
  have E:=hide (show n.tdiv 4%256=C.EH n by unfold C.EH;rw [if_neg (by omega),if_neg (by omega),if_pos h])
  clear c1 c2 h
  go_enter Tryz.func72,Tryz.ntmps72
  go_wp2_with fail
  refine(C1.out _).mono ?_
  rintro e w' ⟨rfl,rfl⟩
  go_wp2_with fail
  refine(C2.out _).mono ?_
  rintro e w' ⟨rfl,rfl⟩
  go_wp2_with fail
  go_ret
  exact⟨HR.out _ E.out,rfl⟩
 ·have c1:=fun w'=>BN n 0 3 3 (by omega) w' hn0 hn1 (by omega) (by omega) (by omega)
  have c2:=fun w'=>BN (n.tdiv 4) 0 16777215 (n.tdiv 4%16777216) (by omega) w' (by omega) (by omega) (by omega) (by omega) (by omega)
  have E:=show 16777216+n.tdiv 4%16777216=C.EH n by unfold C.EH;rw [if_neg (by omega),if_neg (by omega),if_neg (by omega)]
  have q0:0<=n.tdiv 4%16777216:=by omega
  have q1:n.tdiv 4%16777216<16777216:=by omega
  generalize n.tdiv 4%16777216=q at c2 E q0 q1
  have C1:=hide c1
  have C2:=hide c2
  have E2:=hide E
  clear c1 c2 h E
  go_enter Tryz.func72,Tryz.ntmps72
  go_wp2_with fail
  refine(C1.out _).mono ?_
  rintro e w' ⟨rfl,rfl⟩
  go_wp2_with fail
  refine(C2.out _).mono ?_
  rintro e w' ⟨rfl,rfl⟩
  go_wp2_with fail
  go_ret
  exact⟨HR.out _ E2.out,rfl⟩
theorem Ik (a b c:Int) (w:World) (a0: -9223372036854775808<=a) (a1:a<=9223372036854775807) (b0: -9223372036854775808<=b) (b1:b<=9223372036854775807) (c0: -9223372036854775808<=c) (c1:c<=9223372036854775807):
  Calls Tryz.prog 36 #[.agg #[.int .i64 a,.int .i64 b,.int .i64 c]] w fun e w'=>e=.returned (.agg #[.int .i64 (C.EH a),.int .i64 (C.EH b),.int .i64 (c%256)])/\Below w.heap.size w w':=by
 have k1:=fun w'=>Ij a w' a0 a1
 have k2:=fun w'=>Ij b w' b0 b1
 have k3:=fun w'=>BN c 0 255 (c%256) (by omega) w' c0 c1 (by omega) (by omega) (by omega)
 have K: ∀x w',x=a\/x=b->Calls Tryz.prog 72 #[.int .i64 x] w' fun e w''=>e=.returned (.int .i64 (C.EH x))/\w'=w'':=by
  rintro x w' (rfl | rfl)
  ·exact k1 w'
  ·exact k2 w'
 generalize c%256=z at k3
 have K:=hide K
 have K3:=hide k3
 clear k1 k2 k3 a0 a1 b0 b1 c0 c1
 go_enter Tryz.func36,Tryz.ntmps36
 go_wp2_with fail
 go_region_held3 (fun w'=>w'.cell? ⟨w.heap.size,0,none⟩=some (.int .i64 a)/\w'.cell? ⟨w.heap.size,1,none⟩=some (.int .i64 b)/\w'.cell? ⟨w.heap.size,2,none⟩=some (.int .i64 c)) (go_keep)
  (first | (go_at_call 72;refine(K.out _ _ ?_).mono ?_;(first | exact .inl rfl | exact .inr rfl);rintro e w' ⟨rfl,rfl⟩) | (go_at_call 20;refine(K3.out _).mono ?_;rintro e w' ⟨rfl,rfl⟩))
 go_wp2_with fail
 refine bodyPost_ret (v:=.agg #[.int .i64 (C.EH a),.int .i64 (C.EH b),.int .i64 z]) (by simp [results,Tryz.results36,go_sem]) rfl ⟨rfl,?_⟩
 repeat(first | exact Below.refl _ _ | refine Below.drew ?_ | refine Below.setCell ?_ (by first | omega | (simp;done) | (simp;omega)) _ | refine Below.alloc ?_ (by first | omega | (simp;done) | (simp;omega)) _)
end Go.Proofs.YtoaabebgmdbjeaaGreatDoor
