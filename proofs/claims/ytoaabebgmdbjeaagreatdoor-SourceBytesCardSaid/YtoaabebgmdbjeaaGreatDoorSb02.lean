/- A part of the proof: CellSpec, TabsFun, TabsLaid. -/
import Derived.Test.YtoaabebgmdbjeaaGreatDoorSb01
import Derived.Lib.TrailingZeros
import Derived.Laws.ShiftsVar
import Derived.Shelf.Spec.TrailingZeros
set_option maxRecDepth 100000
set_option maxHeartbeats 16000000
set_option linter.unusedVariables false
namespace Go.Proofs.YtoaabebgmdbjeaaGreatDoor
namespace C
def spans:List (Int × Int × Int):= [(127,159,0),(768,879,0),(4352,4447,2),(11904,42191,2),(44032,55203,2),(55296,57343,0),(63744,64255,2),(65072,65135,2),(65280,65376,2),(65504,65510,2),(127744,129791,2),(131072,262141,2)]
def find:List (Int × Int × Int)->Int->Int
 | [],_=>1
 | s::r,x=>if s.1<=x/\x<=s.2.1 then s.2.2 else find r x
def width (x:Int):Int:=if x<32\/1114111<x then 0 else find spans x
def UO:List (Int × Int):= [(4352,4447),(11904,42191),(44032,55203),(63744,64255),(65072,65135),(65280,65376),(65504,65510),(127744,129791),(131072,262141)]
def H7:List (Int × Int)->Int->Int
 | [],_=>1
 | s::r,x=>if s.1<=x/\x<=s.2 then 2 else H7 r x
def narrow (n:Int):Prop:=n<32\/(127<=n/\n<160)\/(768<=n/\n<=879)\/1114111<n\/(55296<=n/\n<=57343)
instance (n:Int):Decidable (narrow n):=by unfold narrow;infer_instance
def JW (n:Int):Int:=if narrow n then 0 else H7 UO n
theorem Bn {a b v x:Int} {r:List (Int × Int × Int)} (h:a<=x/\x<=b):find ((a,b,v)::r) x=v:=by simp [find,h]
theorem Ay {a b v x:Int} {r:List (Int × Int × Int)} (h:x<a\/b<x):find ((a,b,v)::r) x=find r x:=by
 show(if a<=x/\x<=b then v else find r x)=_
 rw [if_neg (by omega)]
theorem EG {a b x:Int} {r:List (Int × Int)} (h:a<=x/\x<=b):H7 ((a,b)::r) x=2:=by simp [H7,h]
theorem Dr {a b x:Int} {r:List (Int × Int)} (h:x<a\/b<x):H7 ((a,b)::r) x=H7 r x:=by
 show(if a<=x/\x<=b then 2 else H7 r x)=_
 rw [if_neg (by omega)]
theorem NQ (n:Int):width n=JW n:=by
 unfold width JW
 by_cases h0:n<32\/1114111<n
 ·rw [if_pos h0,if_pos (show narrow n from by unfold narrow;omega)]
 rw [if_neg h0]
 unfold spans UO
 have go: ∀(a b v:Int) (r:List (Int × Int × Int)) (y:Int),(a<=n/\n<=b->v=y)->((n<a\/b<n)->find r n=y)->find ((a,b,v)::r) n=y:=by
  intro a b v r y h1 h2
  by_cases h:a<=n/\n<=b
  ·rw [Bn h];exact h1 h
  ·rw [Ay (by omega)];exact h2 (by omega)
 by_cases hn:(127<=n/\n<160)\/(768<=n/\n<=879)\/(55296<=n/\n<=57343)
 ·rw [if_pos (show narrow n from by unfold narrow;omega)]
  refine go _ _ _ _ _ (fun _=>rfl) fun _=>go _ _ _ _ _ (fun _=>rfl) fun _=>go _ _ _ _ _ (fun _=>by omega) fun _=>go _ _ _ _ _ (fun _=>by omega) fun _=>go _ _ _ _ _ (fun _=>by omega) fun _=>go _ _ _ _ _ (fun _=>rfl) fun _=>?_
  omega
 ·rw [if_neg (show¬narrow n from by unfold narrow;omega)]
  refine go _ _ _ _ _ (fun _=>by omega) fun _=>go _ _ _ _ _ (fun _=>by omega) fun _=>?_
  refine go _ _ _ _ _ (fun h=>(EG h).symm) fun h=>?_
  rw [Dr h]
  refine go _ _ _ _ _ (fun h=>(EG h).symm) fun h=>?_
  rw [Dr h]
  refine go _ _ _ _ _ (fun h=>(EG h).symm) fun h=>?_
  rw [Dr h]
  refine go _ _ _ _ _ (fun _=>by omega) fun _=>?_
  refine go _ _ _ _ _ (fun h=>(EG h).symm) fun h=>?_
  rw [Dr h]
  refine go _ _ _ _ _ (fun h=>(EG h).symm) fun h=>?_
  rw [Dr h]
  refine go _ _ _ _ _ (fun h=>(EG h).symm) fun h=>?_
  rw [Dr h]
  refine go _ _ _ _ _ (fun h=>(EG h).symm) fun h=>?_
  rw [Dr h]
  refine go _ _ _ _ _ (fun h=>(EG h).symm) fun h=>?_
  rw [Dr h]
  refine go _ _ _ _ _ (fun h=>(EG h).symm) fun h=>?_
  rw [Dr h]
  rfl
def col (c:Int):Bool:=decide (c= -1\/(0<=c/\c<=255)\/(16777216<=c/\c<33554432))
theorem Ih {c:Int}:col c=true<->(c= -1\/(0<=c/\c<=255)\/(16777216<=c/\c<33554432)):=by simp [col]
def right (f b g:Int):Bool:=col f&&col b&&decide (0<=g/\g<=255)
theorem Gl {f b g:Int}:right f b g=true<->(col f=true/\col b=true/\0<=g/\g<=255):=by simp [right,and_assoc]
def fo (n:Int):Int:=n / 256%67108864-1
def ba (n:Int):Int:=n / 17179869184-1
def fl (n:Int):Int:=n%256
def ors (g:Int) (l:List Int):Int:=l.foldl (fun a f=>bits .or .i64 a f) g
theorem Xz (g:Int) (l:List Int) (f:Int):ors g (l++ [f])=bits .or .i64 (ors g l) f:=by simp [ors]
def oN (n:Int):Int:=if n%4=0 then-1 else if n%4=1 then n.tdiv 4%16 else if n%4=2 then n.tdiv 4%256 else 16777216+n.tdiv 4%16777216
end C
end Go.Proofs.YtoaabebgmdbjeaaGreatDoor
namespace Go.Proofs.YtoaabebgmdbjeaaGreatDoor.U
def isR (n:Int):Bool:=decide (0<=n/\n<=1114111/\(n<55296\/57343<n))
def sz (r:Int):Int:=if r<128 then 1 else if r<2048 then 2 else if r<65536 then 3 else 4
def wh (need acc:Int):Int:=if isR acc=true/\sz acc=need then acc else 65533
structure St where
 need:Int
 have_:Int
 acc:Int
def z:St:=⟨0,0,0⟩
def St.val (s:St):Value:=.agg #[.int .i64 s.need,.int .i64 s.have_,.int .i64 s.acc]
def bg (b:Int):St × List Int:=
 if b<128 then (z, [b]) else if b<194 then (z, [65533]) else if b<224 then (⟨2,1,b-192⟩, []) else if b<240 then (⟨3,1,b-224⟩, []) else if b<=244 then (⟨4,1,b-240⟩, []) else (z, [65533])
def it (s:St) (b:Int):St × List Int:=
 if s.need<=0 then bg b
 else if b<128\/192<=b then ((bg b).1,65533::(bg b).2)
 else if s.have_+1<s.need then (⟨s.need,s.have_+1,s.acc*64+(b-128)⟩, [])
 else (z, [wh s.need (s.acc*64+(b-128))])
def St.ok (s:St):Prop:=(s.need=0/\s.have_=0/\s.acc=0)\/(2<=s.need/\s.need<=4/\1<=s.have_/\s.have_<s.need/\0<=s.acc/\(s.have_=1->s.acc<32)/\(s.have_=2->s.acc<2048)/\(s.have_=3->s.acc<131072))
theorem RO:z.ok:=.inl ⟨rfl,rfl,rfl⟩
theorem St.ok.bd {s:St} (h:s.ok):0<=s.need/\s.need<=4/\0<=s.have_/\s.have_<=3/\0<=s.acc/\s.acc<131072:=by
 unfold St.ok at h
 omega
theorem jq (b:Int) (h1:b<256):(bg b).1.ok:=by
 unfold bg
 split; · exact RO
 split; · exact RO
 split; · exact .inr ⟨by simp,by simp,by simp,by simp,by simp;omega,by simp;omega,by simp,by simp⟩
 split; · exact .inr ⟨by simp,by simp,by simp,by simp,by simp;omega,by simp;omega,by simp,by simp⟩
 split; · exact .inr ⟨by simp,by simp,by simp,by simp,by simp;omega,by simp;omega,by simp,by simp⟩
 exact RO
theorem jr {s:St} (h:s.ok) (b:Int) (h1:b<256):(it s b).1.ok:=by
 unfold it
 split; · exact jq b h1
 split; · exact jq b h1
 split
 ·rename_i h2 h3 h4
  unfold St.ok at h⊢
  simp only []
  rcases h with h | ⟨h5,h6,h7,h8,h9,ha,hb,hc⟩
  ·omega
  ·refine .inr ⟨h5,h6,by omega,h4,by omega,fun e=>by omega,fun e=>?_,fun e=>?_⟩
   ·have:=ha (by omega);omega
   ·have:=hb (by omega);omega
 ·exact RO
theorem kR (b:Int):(bg b).2.length<=1:=by
 unfold bg;repeat' (split)
 all_goals simp
theorem RQ (s:St) (b:Int):(it s b).2.length<=2:=by
 have:=kR b
 unfold it;repeat' (split)
 all_goals simp
 all_goals omega
def dec:St->List Int->St × List Int
 | s, [] =>(s, [])
 | s,b::l=>((dec (it s b).1 l).1,(it s b).2++(dec (it s b).1 l).2)
theorem RU (s:St) (l m:List Int):dec s (l++m)=((dec (dec s l).1 m).1,(dec s l).2++(dec (dec s l).1 m).2):=by
 induction l generalizing s with
 | nil=>simp [dec]
 | cons b l ih=>simp [dec,ih]
theorem bS (s:St) (b:Int):dec s [b] =it s b:=by simp [dec]
theorem LQ (s:St) (l:List Int) (b:Int):dec s (l++ [b])=((it (dec s l).1 b).1,(dec s l).2++(it (dec s l).1 b).2):=by
 rw [RU,bS]
theorem kS {s:St} (h:s.ok) (l:List Int) (hl: ∀x∈l,x<256):(dec s l).1.ok:=by
 induction l generalizing s with
 | nil=>exact h
 | cons b l ih=>exact ih (jr h b (hl b (by simp))) (fun x hx=>hl x (by simp [hx]))
theorem bT (s:St) (l:List Int):(dec s l).2.length<=2*l.length:=by
 induction l generalizing s with
 | nil=>simp [dec]
 | cons b l ih=>
  have h1:=RQ s b
  have h2:=ih (it s b).1
  simp only [dec,List.length_append,List.length_cons]
  omega
def tl (r:Int):Int:=128+r%64
def en (r:Int):List Int:=
 if r<128 then [r] else if r<2048 then [192+r / 64,tl r] else if r<65536 then [224+r / 4096,tl (r / 64),tl r] else [240+r / 262144,tl (r / 4096),tl (r / 64),tl r]
def en1 (r:Int):List Int:=if isR r=true then en r else [239,191,189]
def enc (l:List Int):List Int:=l.flatMap en1
theorem Dl {p:Int->Prop} [DecidablePred p] (h: ∀n:Fin 256,p (n.val:Int)) (b:Int) (h0:0<=b) (h1:b<256):p b:=by
 obtain⟨n,rfl⟩:=Int.eq_ofNat_of_zero_le h0
 exact h ⟨n,by omega⟩
theorem LU (b:Int) (h0:0<=b) (h1:b<256):bits .andNot .u8 b 63=b-b%64:=
 Dl (p:=fun b=>bits .andNot .u8 b 63=b-b%64) (by decide+kernel) b h0 h1
theorem U9 (b:Int) (h0:0<=b) (h1:b<256):bits .andNot .u8 b 192=b%64:=
 Dl (p:=fun b=>bits .andNot .u8 b 192=b%64) (by decide+kernel) b h0 h1
theorem VA (b:Int) (h0:0<=b) (h1:b<256):bits .andNot .u8 b 224=b%32:=
 Dl (p:=fun b=>bits .andNot .u8 b 224=b%32) (by decide+kernel) b h0 h1
theorem VB (b:Int) (h0:0<=b) (h1:b<256):bits .andNot .u8 b 240=b%16:=
 Dl (p:=fun b=>bits .andNot .u8 b 240=b%16) (by decide+kernel) b h0 h1
theorem Pg (b:Int) (h0:0<=b) (h1:b<256):bits .and .u8 b 63=b%64:=
 Dl (p:=fun b=>bits .and .u8 b 63=b%64) (by decide+kernel) b h0 h1
end Go.Proofs.YtoaabebgmdbjeaaGreatDoor.U
namespace Go.Proofs.YtoaabebgmdbjeaaGreatDoor.PG
abbrev Pn:=Int × Int × Int
abbrev Cl:=Int × Int × Pn
def rn (c:Cl):Int:=c.1
def kd (c:Cl):Int:=c.2.1
def pn (c:Cl):Pn:=c.2.2
def Cv (p:Pn):Prop:=C.right p.1 p.2.1 p.2.2=true
def blank (p:Pn):Cl:=(32,0,p)
def plain:Pn:=(-1, -1,0)
theorem H8 (p:Pn):kd (blank p)=0:=rfl
theorem Gm:Cv plain:=by unfold Cv plain;decide
def mend (f:Nat->Cl) (n:Nat) (j:Nat):Cl:=
 if (kd (f j)=1/\ ¬(j+1<n/\kd (f (j+1))=2))\/(kd (f j)=2/\ ¬(0<j/\kd (f (j-1))=1)) then blank (pn (f j)) else f j
def E5 (f:Nat->Cl) (a b:Nat) (p:Pn) (j:Nat):Cl:=if a<=j/\j<b then blank p else f j
def putRow (f:Nat->Cl) (c:Nat) (x:Int) (p:Pn) (w:Nat) (j:Nat):Cl:=
 if j=c then (x,if w=2 then 1 else 0,p)
 else if w=2/\j=c+1 then (0,2,p)
 else if j+1=c/\kd (f c)=2 then blank (pn (f j))
 else if j=c+w/\kd (f (c+w-1))=1 then blank (pn (f j))
 else f j
def Bg (f:Nat->Cl) (n:Nat):Prop:= ∀j,j<n->Cv (pn (f j))/\
 ((kd (f j)=0/\C.width (rn (f j))=1)\/
  (kd (f j)=1/\C.width (rn (f j))=2/\j+1<n/\kd (f (j+1))=2/\pn (f (j+1))=pn (f j))\/
  (kd (f j)=2/\rn (f j)=0/\0<j/\kd (f (j-1))=1))
theorem Dm:C.width 32=1:=by decide
theorem H9 (p:Pn) (hp:Cv p) (n:Nat):Bg (fun _=>blank p) n:=fun j _=>⟨hp,.inl ⟨rfl,Dm⟩⟩
theorem Bg.left {f:Nat->Cl} {n j:Nat} (h:Bg f n) (hj:j<n) (hk:kd (f j)=1):C.width (rn (f j))=2/\j+1<n/\kd (f (j+1))=2/\pn (f (j+1))=pn (f j):=by
 rcases(h j hj).2 with h | h | h
 ·omega
 ·exact h.2
 ·omega
theorem Bg.Gn {f:Nat->Cl} {n j:Nat} (h:Bg f n) (hj:j<n) (hk:kd (f j)=2):rn (f j)=0/\0<j/\kd (f (j-1))=1:=by
 rcases(h j hj).2 with h | h | h
 ·omega
 ·omega
 ·exact h.2
theorem Bg.kind {f:Nat->Cl} {n j:Nat} (h:Bg f n) (hj:j<n):kd (f j)=0\/kd (f j)=1\/kd (f j)=2:=by
 rcases(h j hj).2 with h | h | h
 ·exact .inl h.1
 ·exact .inr (.inl h.1)
 ·exact .inr (.inr h.1)
theorem RV {f h:Nat->Cl} {n m:Nat} (hf:Bg f n) (hh: ∀j,j<m->(h j=f j/\j<n)\/ ∃p,Cv p/\h j=blank p):Bg (mend h m) m:=by
 intro j hj
 have hkind: ∀i,kd (mend h m i)=(if (kd (h i)=1/\ ¬(i+1<m/\kd (h (i+1))=2))\/(kd (h i)=2/\ ¬(0<i/\kd (h (i-1))=1)) then 0 else kd (h i)):=fun i=>by
  unfold mend
  split<;>rfl
 have hpn: ∀i,pn (mend h m i)=pn (h i):=fun i=>by
  unfold mend
  split<;>rfl
 rcases hh j hj with ⟨e,hjn⟩ | ⟨p,hp,e⟩
 ·have hr:=hf j hjn
  refine⟨by rw [hpn,e];exact hr.1,?_⟩
  by_cases hb:(kd (h j)=1/\ ¬(j+1<m/\kd (h (j+1))=2))\/(kd (h j)=2/\ ¬(0<j/\kd (h (j-1))=1))
  ·left
   refine⟨by rw [hkind,if_pos hb],?_⟩
   unfold mend
   rw [if_pos hb]
   exact Dm
  ·have hm:mend h m j=h j:=by unfold mend;rw [if_neg hb]
   rw [hm,e]
   rcases hf.kind hjn with h0 | h1 | h2
   ·left
    refine⟨h0,?_⟩
    rcases hr.2 with h | h | h
    ·exact h.2
    ·omega
    ·omega
   ·right;left
    have hl:=hf.left hjn h1
    have hn:j+1<m/\kd (h (j+1))=2:=by
     by_cases hx:j+1<m/\kd (h (j+1))=2
     ·exact hx
     ·exact absurd (.inl ⟨by rw [e];exact h1,hx⟩) hb
    refine⟨h1,hl.1,hn.1,?_,?_⟩
    ·rw [hkind,if_neg,hn.2]
     rintro (⟨a,_⟩ | ⟨_,b⟩)
     ·omega
     ·exact b ⟨by omega,by rw [Nat.add_sub_cancel,e];exact h1⟩
    ·rw [hpn]
     rcases hh (j+1) hn.1 with ⟨e',_⟩ | ⟨p,_,e'⟩
     ·rw [e'];exact hl.2.2.2
     ·rw [e'] at hn;have:=hn.2;rw [H8] at this;omega
   ·right;right
    have hl:=hf.Gn hjn h2
    have hn:0<j/\kd (h (j-1))=1:=by
     by_cases hx:0<j/\kd (h (j-1))=1
     ·exact hx
     ·exact absurd (.inr ⟨by rw [e];exact h2,hx⟩) hb
    refine⟨h2,hl.1,hn.1,?_⟩
    rw [hkind,if_neg,hn.2]
    rintro (⟨_,b⟩ | ⟨a,_⟩)
    ·exact b ⟨by omega,by rw [show j-1+1=j from by omega,e];exact h2⟩
    ·omega
 ·have hm:mend h m j=blank p:=by
   unfold mend
   rw [e]
   rw [if_neg (by rw [H8];omega)]
  rw [hm]
  exact⟨hp,.inl ⟨rfl,Dm⟩⟩
theorem LV {f:Nat->Cl} {n:Nat} (hf:Bg f n) (a b:Nat) {p:Pn} (hp:Cv p):Bg (mend (E5 f a b p) n) n:=by
 refine RV hf fun j hj=>?_
 unfold E5
 by_cases h:a<=j/\j<b
 ·rw [if_pos h];exact .inr ⟨p,hp,rfl⟩
 ·rw [if_neg h];exact .inl ⟨rfl,hj⟩
theorem VD {f:Nat->Cl} {n c:Nat} {x:Int} {p:Pn} {w:Nat} (hf:Bg f n) (hp:Cv p) (hw:C.width x=(w:Int)) (hw0:1<=w) (hw2:w<=2) (hc:c+w<=n):Bg (putRow f c x p w) n:=by
 intro j hj
 have hfj:=hf j hj
 have hat: ∀i,putRow f c x p w i=if i=c then (x,if w=2 then 1 else 0,p) else if w=2/\i=c+1 then (0,2,p) else if i+1=c/\kd (f c)=2 then blank (pn (f i)) else if i=c+w/\kd (f (c+w-1))=1 then blank (pn (f i)) else f i:=fun _=>rfl
 by_cases h1:j=c
 ·have e:putRow f c x p w j=(x,if w=2 then 1 else 0,p):=by rw [hat,if_pos h1]
  rw [e]
  refine⟨hp,?_⟩
  by_cases h2:w=2
  ·right;left
   refine⟨by simp [kd,h2],by show C.width x=2;rw [hw,h2];rfl,by omega,?_,?_⟩
   ·rw [hat,if_neg (by omega),if_pos ⟨h2,by omega⟩];rfl
   ·rw [hat,if_neg (by omega),if_pos ⟨h2,by omega⟩];rfl
  ·left
   refine⟨by simp [kd,h2],?_⟩
   show C.width x=1
   rw [hw]
   omega
 by_cases h2:w=2/\j=c+1
 ·have e:putRow f c x p w j=(0,2,p):=by rw [hat,if_neg h1,if_pos h2]
  rw [e]
  refine⟨hp,.inr (.inr ⟨rfl,rfl,by omega,?_⟩)⟩
  rw [hat,if_pos (by omega)]
  simp [kd,h2.1]
 by_cases h3:j+1=c/\kd (f c)=2
 ·have e:putRow f c x p w j=blank (pn (f j)):=by rw [hat,if_neg h1,if_neg h2,if_pos h3]
  rw [e]
  exact⟨hfj.1,.inl ⟨rfl,Dm⟩⟩
 by_cases h4:j=c+w/\kd (f (c+w-1))=1
 ·have e:putRow f c x p w j=blank (pn (f j)):=by rw [hat,if_neg h1,if_neg h2,if_neg h3,if_pos h4]
  rw [e]
  exact⟨hfj.1,.inl ⟨rfl,Dm⟩⟩
 have e:putRow f c x p w j=f j:=by rw [hat,if_neg h1,if_neg h2,if_neg h3,if_neg h4]
 rw [e]
 refine⟨hfj.1,?_⟩
 rcases hfj.2 with h | ⟨k1,k2,k3,k4,k5⟩ | ⟨k1,k2,k3,k4⟩
 ·exact .inl h
 ·right;left
  have n1: ¬j+1=c:=fun hx=>h3 ⟨hx,by rw [<- hx];exact k4⟩
  have n2: ¬(w=2/\j+1=c+1):=fun hx=>h1 (by omega)
  have n4: ¬(j+1=c+w/\kd (f (c+w-1))=1):=fun hx=>by
   have:j=c\/(w=2/\j=c+1):=by omega
   rcases this with h | h
   ·exact h1 h
   ·exact h2 h
  have n3: ¬(j+1+1=c/\kd (f c)=2):=fun hx=>by
   have:=hf.Gn (j:=c) (by omega) hx.2
   rw [show c-1=j+1 from by omega] at this
   omega
  have e1:putRow f c x p w (j+1)=f (j+1):=by rw [hat,if_neg n1,if_neg n2,if_neg n3,if_neg n4]
  exact⟨k1,k2,k3,by rw [e1];exact k4,by rw [e1];exact k5⟩
 ·right;right
  have n1: ¬j-1=c:=fun hx=>by
   by_cases hw2':w=2
   ·exact h2 ⟨hw2',by omega⟩
   ·exact h4 ⟨by omega,by rw [show c+w-1=j-1 from by omega];exact k4⟩
  have n2: ¬(w=2/\j-1=c+1):=fun hx=>h4 ⟨by omega,by rw [show c+w-1=j-1 from by omega];exact k4⟩
  have n3: ¬(j-1+1=c/\kd (f c)=2):=fun hx=>h1 (by omega)
  have n4: ¬(j-1=c+w/\kd (f (c+w-1))=1):=fun hx=>by
   have:=hf.left (j:=c+w-1) (by omega) hx.2
   rw [show c+w-1+1=j-1 from by omega] at this
   omega
  have e1:putRow f c x p w (j-1)=f (j-1):=by rw [hat,if_neg n1,if_neg n2,if_neg n3,if_neg n4]
  exact⟨k1,k2,k3,by rw [e1];exact k4⟩
structure Gr where
 rows:Nat
 AB:Nat
 f:Nat->Nat->Cl
def Alike (a b:Gr):Prop:=a.rows=b.rows/\a.AB=b.AB/\ ∀r c,r<a.rows->c<a.AB->a.f r c=b.f r c
theorem Alike.refl (a:Gr):Alike a a:=⟨rfl,rfl,fun _ _ _ _=>rfl⟩
theorem Alike.symm {a b:Gr} (h:Alike a b):Alike b a:=⟨h.1.symm,h.2.1.symm,fun r c hr hc=>(h.2.2 r c (by rw [h.1];exact hr) (by rw [h.2.1];exact hc)).symm⟩
theorem Alike.trans {a b c:Gr} (h:Alike a b) (k:Alike b c):Alike a c:=⟨h.1.trans k.1,h.2.1.trans k.2.1,fun r x hr hx=>(h.2.2 r x hr hx).trans (k.2.2 r x (by rw [<- h.1];exact hr) (by rw [<- h.2.1];exact hx))⟩
def cells (g:Gr):List Cl:=(List.range (g.rows*g.AB)).map fun i=>g.f (i / g.AB) (i%g.AB)
theorem Aw (g:Gr):(cells g).length=g.rows*g.AB:=by simp [cells]
theorem Bt {R K r c:Nat} (hr:r<R) (hc:c<K):r*K+c<R*K:=by
 have h:(r+1)*K<=R*K:=Nat.mul_le_mul_right K hr
 rw [Nat.succ_mul] at h
 omega
theorem J8 {K r c:Nat} (hc:c<K):(r*K+c) / K=r/\(r*K+c)%K=c:=by
 constructor
 ·rw [Nat.mul_comm,Nat.mul_add_div (by omega),Nat.div_eq_of_lt hc,Nat.add_zero]
 ·rw [Nat.mul_comm,Nat.mul_add_mod,Nat.mod_eq_of_lt hc]
theorem Cw (g:Gr) {r c:Nat} (hr:r<g.rows) (hc:c<g.AB):(cells g)[r*g.AB+c]? =some (g.f r c):=by
 unfold cells
 rw [List.getElem?_map,List.getElem?_range (Bt hr hc)]
 obtain⟨h1,h2⟩:=J8 (r:=r) hc
 simp only [Option.map_some,h1,h2]
theorem Ph {R K i:Nat} (h:i<R*K):0<K/\i / K<R/\i%K<K/\i / K*K+i%K=i:=by
 have hK:0<K:=by
  rcases Nat.eq_zero_or_pos K with h0 | h0
  ·subst h0;simp at h
  ·exact h0
 exact⟨hK,Nat.div_lt_of_lt_mul (by rw [Nat.mul_comm];exact h),Nat.mod_lt _ hK,by rw [Nat.mul_comm];exact Nat.div_add_mod i K⟩
theorem Ke {a b:Gr}:Alike a b<->(a.rows=b.rows/\a.AB=b.AB/\cells a=cells b):=by
 constructor
 ·rintro ⟨h1,h2,h3⟩
  refine⟨h1,h2,?_⟩
  unfold cells
  rw [<- h1, <- h2]
  refine List.map_congr_left fun i hi=>?_
  obtain⟨_,h4,h5,_⟩:=Ph (List.mem_range.1 hi)
  exact h3 _ _ h4 h5
 ·rintro ⟨h1,h2,h3⟩
  refine⟨h1,h2,fun r c hr hc=>?_⟩
  have e1:=Cw a hr hc
  have e2:=Cw b (r:=r) (c:=c) (by rw [<- h1];exact hr) (by rw [<- h2];exact hc)
  rw [<- h2, <- h3,e1] at e2
  exact Option.some.inj e2
def newG (R K:Nat) (p:Pn):Gr:=⟨R,K,fun _ _=>blank p⟩
def EL (g:Gr) (r c:Nat) (x:Int) (p:Pn):Gr:=
 if r<g.rows/\1<=C.width x/\c+(C.width x).toNat<=g.AB then ⟨g.rows,g.AB,fun i j=>if i=r then putRow (g.f r) c x p (C.width x).toNat j else g.f i j⟩ else g
def DW (g:Gr) (r a b:Nat) (p:Pn):Gr:=if r<g.rows then ⟨g.rows,g.AB,fun i j=>if i=r then mend (E5 (g.f r) a b p) g.AB j else g.f i j⟩ else g
def bU (g:Gr) (R K:Nat):Gr:=⟨R,K,fun i j=>mend (fun j=>if i<g.rows/\j<g.AB then g.f i j else blank plain) K j⟩
def BL (g:Gr):Prop:=1<=g.rows/\g.rows<=40/\1<=g.AB/\g.AB<=60/\ ∀r,r<g.rows->Bg (g.f r) g.AB
theorem FX (x:Int):C.width x=0\/C.width x=1\/C.width x=2:=by
 rw [C.NQ]
 unfold C.JW
 split
 ·exact .inl rfl
 ·generalize C.UO=l
  induction l with
  | nil=>right;left;rfl
  | cons p l ih=>
   obtain⟨a,b⟩:=p
   unfold C.H7
   split
   ·right;right;rfl
   ·exact ih
theorem RX {R K:Nat} {p:Pn} (hp:Cv p) (h1:1<=R) (h2:R<=40) (h3:1<=K) (h4:K<=60):BL (newG R K p):=⟨h1,h2,h3,h4,fun _ _=>H9 p hp K⟩
theorem RY {g:Gr} (h:BL g) {p:Pn} (hp:Cv p) (r c:Nat) (x:Int):BL (EL g r c x p):=by
 unfold EL
 by_cases hc:r<g.rows/\1<=C.width x/\c+(C.width x).toNat<=g.AB
 ·rw [if_pos hc]
  refine⟨h.1,h.2.1,h.2.2.1,h.2.2.2.1,fun i hi=>?_⟩
  by_cases hir:i=r
  ·subst hir
   simp only [if_true]
   have hw:=FX x
   exact VD (h.2.2.2.2 i hi) hp (by omega) (by omega) (by omega) hc.2.2
  ·simp only [if_neg hir]
   exact h.2.2.2.2 i hi
 ·rw [if_neg hc];exact h
theorem Kg {g:Gr} (h:BL g) {p:Pn} (hp:Cv p) (r a b:Nat):BL (DW g r a b p):=by
 unfold DW
 by_cases hc:r<g.rows
 ·rw [if_pos hc]
  refine⟨h.1,h.2.1,h.2.2.1,h.2.2.2.1,fun i hi=>?_⟩
  by_cases hir:i=r
  ·subst hir
   simp only [if_true]
   exact LV (h.2.2.2.2 i hi) a b hp
  ·simp only [if_neg hir]
   exact h.2.2.2.2 i hi
 ·rw [if_neg hc];exact h
theorem bV {g:Gr} {r c:Nat} {x:Int} {p:Pn} (h: ¬(r<g.rows/\1<=C.width x/\c+(C.width x).toNat<=g.AB)):EL g r c x p=g:=if_neg h
theorem Cm (g:Gr) (r c:Nat) (x:Int) (p:Pn):(EL g r c x p).rows=g.rows/\(EL g r c x p).AB=g.AB:=by
 unfold EL
 split<;>exact⟨rfl,rfl⟩
theorem DL (g:Gr) (r a b:Nat) (p:Pn):(DW g r a b p).rows=g.rows/\(DW g r a b p).AB=g.AB:=by
 unfold DW
 split<;>exact⟨rfl,rfl⟩
theorem LW {f h:Nat->Cl} {n:Nat} (e: ∀j,j<n->f j=h j) {j:Nat} (hj:j<n):mend f n j=mend h n j:=by
 unfold mend
 rw [e j hj]
 have a1:(j+1<n/\kd (f (j+1))=2)<->(j+1<n/\kd (h (j+1))=2):=and_congr_right fun hh=>by rw [e _ hh]
 have a2:(0<j/\kd (f (j-1))=1)<->(0<j/\kd (h (j-1))=1):=and_congr_right fun hh=>by rw [e _ (by omega)]
 simp only [a1,a2]
end Go.Proofs.YtoaabebgmdbjeaaGreatDoor.PG
namespace Go.Proofs.YtoaabebgmdbjeaaGreatDoor.PG
def runes (f:Nat->Cl) (n:Nat):List Int:=((List.range n).filter fun j=>kd (f j)≠2).map fun j=>rn (f j)
def UO (l:List Int):Nat:=(l.filter fun x=>C.width x=2).length
theorem RZ (f:Nat->Cl) (n:Nat):runes f (n+1)=runes f n++(if kd (f n)≠2 then [rn (f n)] else []):=by
 unfold runes
 rw [List.range_succ,List.filter_append,List.map_append]
 congr 1
 by_cases h:kd (f n)=2<;>simp [h]
theorem Ra {f:Nat->Cl} {n:Nat} (h:Bg f n) {x:Int} (hx:x∈runes f n):C.width x=1\/C.width x=2:=by
 unfold runes at hx
 obtain⟨j,hj,rfl⟩:=List.mem_map.1 hx
 obtain⟨hj,hk⟩:=List.mem_filter.1 hj
 have hk:kd (f j)≠2:=by simpa using hk
 rcases(h j (List.mem_range.1 hj)).2 with k | k | k
 ·exact .inl k.2
 ·exact .inr k.2.1
 ·exact absurd k.1 hk
end Go.Proofs.YtoaabebgmdbjeaaGreatDoor.PG
namespace Go.Proofs.YtoaabebgmdbjeaaGreatDoor.PG
def none:Cl:=(0,0,(0,0,0))
theorem Gp {g:Gr} {l:List Cl} (hl:l.length=g.rows*g.AB) (h: ∀r c,r<g.rows->c<g.AB->l[r*g.AB+c]? =some (g.f r c)):l=cells g:=by
 refine List.ext_getElem? fun i=>?_
 by_cases hi:i<g.rows*g.AB
 ·obtain⟨_,h1,h2,h3⟩:=Ph hi
  rw [<- h3,h _ _ h1 h2,Cw g h1 h2]
 ·rw [List.getElem?_eq_none (by omega),List.getElem?_eq_none (by rw [Aw];omega)]
theorem VE {K r c i j:Nat} (hc:c<K) (hj:j<K) (h:r*K+c=i*K+j):r=i/\c=j:=by
 have a:=J8 (r:=r) hc
 have b:=J8 (r:=i) hj
 rw [h] at a
 exact⟨a.1.symm.trans b.1,a.2.symm.trans b.2⟩
theorem X6 {g:Gr} {r c:Nat} (hr:r<g.rows) (hc:c<g.AB) (x:Cl):(cells g).set (r*g.AB+c) x=cells ⟨g.rows,g.AB,fun i j=>if i=r/\j=c then x else g.f i j⟩:=by
 refine Gp (g:=⟨g.rows,g.AB,fun i j=>if i=r/\j=c then x else g.f i j⟩) (by rw [List.length_set,Aw]) fun i j hi hj=>?_
 show((cells g).set (r*g.AB+c) x)[i*g.AB+j]? =some (if i=r/\j=c then x else g.f i j)
 have hi:i<g.rows:=hi
 have hj:j<g.AB:=hj
 by_cases h:i=r/\j=c
 ·obtain⟨rfl,rfl⟩:=h
  rw [if_pos ⟨rfl,rfl⟩,List.getElem?_set_self (by rw [Aw];exact Bt hi hj)]
 ·rw [if_neg h,List.getElem?_set_ne,Cw g hi hj]
  intro e
  have:=VE hc hj e
  exact h ⟨this.1.symm,this.2.symm⟩
theorem Ii {g:Gr} {r:Nat} (hr:r<g.rows):((cells g).drop (r*g.AB)).take g.AB=(List.range g.AB).map (g.f r):=by
 refine List.ext_getElem? fun j=>?_
 by_cases hj:j<g.AB
 ·rw [List.getElem?_take_of_lt hj,List.getElem?_drop,Cw g hr hj,List.getElem?_map,List.getElem?_range hj]
  rfl
 ·rw [List.getElem?_eq_none (by rw [List.length_take];omega),List.getElem?_eq_none (by rw [List.length_map,List.length_range];omega)]
structure Ok (w:Nat) (l:List Cl):Prop where
 each: ∀j c,l[j]? =some c->Cv (pn c)/\
  ((kd c=0/\C.width (rn c)=1)\/
   (kd c=1/\C.width (rn c)=2/\(j+1)%w≠0/\ ∃d,l[j+1]? =some d/\kd d=2/\pn d=pn c)\/
   (kd c=2/\rn c=0/\j%w≠0/\ ∃d,l[j-1]? =some d/\kd d=1))
theorem I8 {x:Int} (h:C.width x=1\/C.width x=2):U.isR x=true:=by
 have hn: ¬C.narrow x:=fun hn=>by
  rw [C.NQ] at h
  unfold C.JW at h
  rw [if_pos hn] at h
  omega
 unfold C.narrow at hn
 unfold U.isR
 exact decide_eq_true (by omega)
def text (f:Nat->Cl) (n:Nat):List Int:=U.enc (runes f n)
theorem VF {f:Nat->Cl} {n:Nat} (h:Bg f n): ∀x∈runes f n,U.isR x=true:=fun x hx=>I8 (Ra h hx)
end Go.Proofs.YtoaabebgmdbjeaaGreatDoor.PG
namespace Go.Proofs.YtoaabebgmdbjeaaGreatDoor.PG
def pick (l:List Int) (i:Nat):Int:=if l= [] then 0 else l.getD (i%l.length) 0
def OT (v:Int):Pn:=(C.oN v,C.oN (v.tdiv 16),v.tdiv 64%256)
def X7 (rs ps:List Int) (w:Nat) (l:List Cl):List Cl:=
 if (pick rs l.length).tmod 5=4/\(l.length+1)%w≠0 then l++ [(19968+(pick rs l.length).tmod 9,1,OT (pick ps (l.length / 3))),(0,2,OT (pick ps (l.length / 3)))]
 else l++ [(97+pick rs l.length%10,0,OT (pick ps (l.length / 3)))]
def Rb (rs ps:List Int) (w total:Nat):Nat->List Cl->List Cl
 | 0,l=>l
 | k+1,l=>if l.length<total then Rb rs ps w total k (X7 rs ps w l) else l
end Go.Proofs.YtoaabebgmdbjeaaGreatDoor.PG
namespace Go.Proofs.YtoaabebgmdbjeaaGreatDoor.TB
def Ok (t:Nat):Prop:=t<18446744073709551616
def IC (t c:Nat):Nat:=t||| 2 ^ c
def drop1 (t c:Nat):Nat:=t&&& (18446744073709551615-2 ^ c)
theorem Rc {c:Nat} (h:c<64):2 ^ c<18446744073709551616:=by
 have:2 ^ c<=2 ^ 63:=Nat.pow_le_pow_right (by omega) (by omega)
 have e:(2:Nat) ^ 63=9223372036854775808:=by decide
 omega
theorem UQ {t c:Nat} (h:Ok t) (hc:c<64):Ok (IC t c):=by
 have e:(18446744073709551616:Nat)=2 ^ 64:=by decide
 unfold Ok IC at*
 rw [e] at h⊢
 exact Nat.or_lt_two_pow h (by rw [<- e];exact Rc hc)
theorem X8 {t c:Nat} (h:Ok t):Ok (drop1 t c):=Nat.lt_of_le_of_lt Nat.and_le_left h
theorem Pj (t c i:Nat):(IC t c).testBit i=(t.testBit i||decide (c=i)):=by
 unfold IC
 rw [Nat.testBit_or,Nat.testBit_two_pow]
theorem VG {t c i:Nat} (hc:c<64) (hi:i<64):(drop1 t c).testBit i=(t.testBit i&& !decide (c=i)):=by
 have e:18446744073709551615-2 ^ c=2 ^ 64-(2 ^ c+1):=by
  have:(2:Nat) ^ 64=18446744073709551616:=by decide
  omega
 have h:(2:Nat) ^ c<2 ^ 64:=Nat.pow_lt_pow_right (by omega) hc
 unfold drop1
 rw [Nat.testBit_and,e,Nat.testBit_two_pow_sub_succ h,Nat.testBit_two_pow,decide_eq_true hi,Bool.true_and]
theorem Pk {t i:Nat} (h:Ok t) (hi:64<=i):t.testBit i=false:=Nat.testBit_lt_two_pow (Nat.lt_of_lt_of_le h (by
 have:(2:Nat) ^ 64<=2 ^ i:=Nat.pow_le_pow_right (by omega) hi
 have e:(2:Nat) ^ 64=18446744073709551616:=by decide
 omega))
theorem ext {a b:Nat} (ha:Ok a) (hb:Ok b) (h: ∀i,i<64->a.testBit i=b.testBit i):a=b:=Nat.eq_of_testBit_eq fun i=>by
 by_cases hi:i<64
 ·exact h i hi
 ·rw [Pk ha (by omega),Pk hb (by omega)]
def col (x:Int):Prop:=0<=x/\x<64
instance (x:Int):Decidable (col x):=inferInstanceAs (Decidable (_/\_))
def puts (t:Nat):List Int->Nat
 | [] =>t
 | x::l=>puts (if col x then IC t x.toNat else t) l
def drops (t:Nat):List Int->Nat
 | [] =>t
 | x::l=>drops (if col x then drop1 t x.toNat else t) l
theorem G9: ∀{l:List Int} {t:Nat},Ok t->Ok (puts t l)
 | [],t,h=>h
 | x::l,t,h=>G9 (t:=if col x then IC t x.toNat else t) (by
  split
  ·rename_i hx
   exact UQ h (by unfold col at hx;omega)
  ·exact h)
theorem Pm: ∀{l:List Int} {t:Nat},Ok t->Ok (drops t l)
 | [],t,h=>h
 | x::l,t,h=>Pm (t:=if col x then drop1 t x.toNat else t) (by
  split
  ·exact X8 h
  ·exact h)
theorem JX: ∀(l:List Int) (t i:Nat),i<64->(puts t l).testBit i=(t.testBit i||l.any fun x=>decide (x=(i:Int)))
 | [],t,i,hi=>by simp [puts]
 | x::l,t,i,hi=>by
  show(puts _ l).testBit i=_
  rw [JX l _ i hi,List.any_cons]
  by_cases hx:col x
  ·rw [if_pos hx,Pj]
   have e:decide (x.toNat=i)=decide (x=(i:Int)):=by
    unfold col at hx
    by_cases h:x=(i:Int)
    ·rw [decide_eq_true h,decide_eq_true (by omega)]
    ·rw [decide_eq_false h,decide_eq_false (by omega)]
   rw [e,Bool.or_assoc]
  ·rw [if_neg hx]
   have e:decide (x=(i:Int))=false:=decide_eq_false (fun h=>hx (by unfold col;omega))
   rw [e,Bool.false_or]
theorem NS: ∀(l:List Int) (t i:Nat),i<64->(drops t l).testBit i=(t.testBit i&& !(l.any fun x=>decide (x=(i:Int))))
 | [],t,i,hi=>by simp [drops]
 | x::l,t,i,hi=>by
  show(drops _ l).testBit i=_
  rw [NS l _ i hi,List.any_cons]
  by_cases hx:col x
  ·rw [if_pos hx,VG (by unfold col at hx;omega) hi]
   have e:decide (x.toNat=i)=decide (x=(i:Int)):=by
    unfold col at hx
    by_cases h:x=(i:Int)
    ·rw [decide_eq_true h,decide_eq_true (by omega)]
    ·rw [decide_eq_false h,decide_eq_false (by omega)]
   rw [e,Bool.not_or,Bool.and_assoc]
  ·rw [if_neg hx]
   have e:decide (x=(i:Int))=false:=decide_eq_false (fun h=>hx (by unfold col;omega))
   rw [e,Bool.false_or]
theorem Kh (t:Nat): ∀(a b:List Int),puts t (a++b)=puts (puts t a) b
 | [],b=>rfl
 | x::a,b=>Kh _ a b
def next (t c k:Nat):Nat:=(((List.range k).filter fun i=>decide (c<i)&&t.testBit i).head?).getD (k-1)
theorem bW {t c k:Nat} (hk:1<=k):next t c k<k:=by
 unfold next
 cases h:((List.range k).filter fun i=>decide (c<i)&&t.testBit i).head? with
 | none=>show k-1<k;omega
 | some x=>
  have:=List.mem_of_mem_head? (by rw [h];rfl:x∈_)
  rw [List.mem_filter,List.mem_range] at this
  exact this.1
theorem bX {t c k x:Nat} (h1:c<x) (h2:x<k) (h3:t.testBit x=true) (h4: ∀i,c<i->i<x->t.testBit i=false):next t c k=x:=by
 unfold next
 rw [List.head?_filter]
 have:(List.range k).find? (fun i=>decide (c<i)&&t.testBit i)=some x:=by
  rw [List.find?_range_eq_some]
  refine⟨by simp [h1,h3],by simpa using h2,fun j hj=>?_⟩
  by_cases hc:c<j
  ·simp [h4 j hc hj]
  ·simp [hc]
 rw [this]
 rfl
theorem VH {t c k:Nat} (h: ∀i,c<i->i<k->t.testBit i=false):next t c k=k-1:=by
 unfold next
 rw [List.head?_filter]
 have:(List.range k).find? (fun i=>decide (c<i)&&t.testBit i)=none:=by
  rw [List.find?_eq_none]
  intro j hj
  rw [List.mem_range] at hj
  by_cases hc:c<j
  ·simp [h j hc hj]
  ·simp [hc]
 rw [this]
 rfl
def OU (n:Nat):Nat->Nat
 | 0=>0
 | k+1=>if 8*(k+1)<n then IC (OU n k) (8*(k+1)) else OU n k
def news (n:Nat):Nat:=OU n 7
theorem OV (n:Nat): ∀k,k<=7->Ok (OU n k)
 | 0,_=>by unfold OU Ok;omega
 | k+1,h=>by
  unfold OU
  split
  ·exact UQ (OV n k (by omega)) (by omega)
  ·exact OV n k (by omega)
theorem LX (n i:Nat): ∀k,(OU n k).testBit i=decide (i%8=0/\0<i/\i<=8*k/\i<n)
 | 0=>by
  unfold OU
  rw [Nat.zero_testBit,decide_eq_false (by omega)]
 | k+1=>by
  unfold OU
  by_cases h:8*(k+1)<n
  ·rw [if_pos h,Pj,LX n i k]
   by_cases e:8*(k+1)=i
   ·rw [decide_eq_true e,Bool.or_true,decide_eq_true (by omega)]
   ·rw [decide_eq_false e,Bool.or_false]
    by_cases c:i%8=0/\0<i/\i<=8*k/\i<n
    ·rw [decide_eq_true c,decide_eq_true (by omega)]
    ·rw [decide_eq_false c,decide_eq_false (by omega)]
  ·rw [if_neg h,LX n i k]
   by_cases c:i%8=0/\0<i/\i<=8*k/\i<n
   ·rw [decide_eq_true c,decide_eq_true (by omega)]
   ·rw [decide_eq_false c,decide_eq_false (by omega)]
theorem UU (n:Nat):Ok (news n):=OV n 7 (by omega)
theorem X9 {n i:Nat} (hi:i<64):(news n).testBit i=decide (i%8=0/\0<i/\i<n):=by
 unfold news
 rw [LX]
 by_cases c:i%8=0/\0<i/\i<n
 ·rw [decide_eq_true c,decide_eq_true (by omega)]
 ·rw [decide_eq_false c,decide_eq_false (by omega)]
theorem bY {n t:Nat} (h:Ok t) (hb: ∀i,i<64->t.testBit i=decide (i%8=0/\0<i/\i<n)):t=news n:=ext h (UU n) fun i hi=>by rw [hb i hi,X9 hi]
end Go.Proofs.YtoaabebgmdbjeaaGreatDoor.TB
namespace Go.Proofs.YtoaabebgmdbjeaaGreatDoor.TB
def F8 (c:Int):Nat:=if col c then 2 ^ c.toNat else 0
theorem OW (c:Int):Ok (F8 c):=by
 unfold F8
 split
 ·rename_i h
  exact Rc (by unfold col at h;omega)
 ·unfold Ok;omega
theorem YA (c:Int) (i:Nat) (hi:i<64):(F8 c).testBit i=decide (c=(i:Int)):=by
 unfold F8
 split
 ·rename_i h
  unfold col at h
  rw [Nat.testBit_two_pow]
  by_cases e:c=(i:Int)
  ·rw [decide_eq_true e,decide_eq_true (by omega)]
  ·rw [decide_eq_false e,decide_eq_false (by omega)]
 ·rename_i h
  rw [Nat.zero_testBit,decide_eq_false (fun e=>h (by unfold col;omega))]
def Cn (c:Int):Nat:=2 ^ min c.toNat 64-1
theorem Gq (c:Int):Ok (Cn c):=by
 have h:2 ^ min c.toNat 64<=2 ^ 64:=Nat.pow_le_pow_right (by omega) (by omega)
 have e:(2:Nat) ^ 64=18446744073709551616:=by decide
 have p:0<2 ^ min c.toNat 64:=Nat.two_pow_pos _
 unfold Ok Cn
 omega
theorem I9 (c:Int) (i:Nat) (hi:i<64):(Cn c).testBit i=decide ((i:Int)<c):=by
 unfold Cn
 rw [Nat.testBit_two_pow_sub_one]
 by_cases e:(i:Int)<c
 ·rw [decide_eq_true e,decide_eq_true (by omega)]
 ·rw [decide_eq_false e,decide_eq_false (by omega)]
theorem VI {c:Int} (h:0<=c):((Cn c:Nat):Int)=((F8 c:Nat):Int)-1\/(F8 c=0/\Cn c=18446744073709551615):=by
 unfold Cn F8
 by_cases hc:col c
 ·left
  rw [if_pos hc]
  unfold col at hc
  rw [show min c.toNat 64=c.toNat by omega]
  have p:0<2 ^ c.toNat:=Nat.two_pow_pos _
  omega
 ·right
  rw [if_neg hc]
  unfold col at hc
  rw [show min c.toNat 64=64 by omega]
  exact⟨rfl,by decide⟩
theorem OX {y i:Nat} (hy:Ok y) (hi:i<64):(18446744073709551615-y).testBit i= !y.testBit i:=by
 have e:18446744073709551615-y=2 ^ 64-(y+1):=by
  have:(2:Nat) ^ 64=18446744073709551616:=by decide
  omega
 have h:y<2 ^ 64:=Nat.lt_of_lt_of_eq hy (by decide)
 rw [e,Nat.testBit_two_pow_sub_succ h,decide_eq_true hi,Bool.true_and]
theorem oO {a b:Nat} (ha:Ok a) (hb:Ok b):Ok (a||| b):=by
 have e:(18446744073709551616:Nat)=2 ^ 64:=by decide
 unfold Ok at*
 rw [e] at*
 exact Nat.or_lt_two_pow ha hb
theorem IE {a b:Nat} (ha:Ok a):Ok (a&&& b):=Nat.lt_of_le_of_lt Nat.and_le_left ha
theorem bZ (t:Nat) (c:Int):t||| F8 c=if col c then IC t c.toNat else t:=by
 unfold F8 IC
 split
 ·rfl
 ·exact Nat.or_zero t
theorem VJ (t:Nat) (x:Int) (l:List Int):puts t (x::l)=puts (t||| F8 x) l:=by
 rw [bZ]
 rfl
theorem VK (t:Nat) (l:List Int) (x:Int):puts t (l++ [x])=puts t l||| F8 x:=by
 rw [Kh,VJ]
 rfl
theorem ok0:Ok 0:=by unfold Ok;omega
theorem bf {t:Nat} (ht:Ok t) (l:List Int):t||| puts 0 l=puts t l:=ext (oO ht (G9 ok0)) (G9 ht) fun i hi=>by
 rw [Nat.testBit_or,JX l 0 i hi,JX l t i hi]
 simp
theorem VL {t:Nat} (ht:Ok t) (l:List Int):t&&& (18446744073709551615-puts 0 l)=drops t l:=ext (IE ht) (Pm ht) fun i hi=>by
 rw [Nat.testBit_and,OX (G9 ok0) hi,JX l 0 i hi,NS l t i hi]
 simp
theorem YB {n:Int} (hn:0<=n):72340172838076672&&& Cn n=news n.toNat:=bY (IE (by unfold Ok;omega)) fun i hi=>by
 rw [Nat.testBit_and,I9 n i hi]
 have h: ∀j,j<64->(72340172838076672:Nat).testBit j=decide (j%8=0/\0<j):=by decide
 rw [h i hi]
 by_cases c:i%8=0/\0<i
 ·rw [decide_eq_true c,Bool.true_and]
  by_cases e:(i:Int)<n
  ·rw [decide_eq_true e,decide_eq_true (by omega)]
  ·rw [decide_eq_false e,decide_eq_false (by omega)]
 ·rw [decide_eq_false c,Bool.false_and,decide_eq_false (by omega)]
def behind (t:Nat) (c k:Int):Nat:=((t&&& Cn k)&&& (18446744073709551615-Cn c))&&& (18446744073709551615-F8 c)
theorem NT {t:Nat} (ht:Ok t) (c k:Int):Ok (behind t c k):=IE (IE (IE ht))
theorem JA (t:Nat) (c k:Nat) (i:Nat) (hi:i<64):(behind t c k).testBit i=(t.testBit i&&decide (c<i/\i<k)):=by
 unfold behind
 rw [Nat.testBit_and,Nat.testBit_and,Nat.testBit_and,OX (Gq _) hi,OX (OW _) hi,I9 _ i hi,I9 _ i hi,YA _ i hi]
 by_cases h:c<i/\i<k
 ·rw [decide_eq_true h,decide_eq_true (by omega:(i:Int)<(k:Int)),decide_eq_false (by omega: ¬(i:Int)<(c:Int)),decide_eq_false (by omega: ¬(c:Int)=(i:Int))]
  simp
 ·rw [decide_eq_false h,Bool.and_false]
  by_cases h1:(i:Int)<(k:Int)
  ·by_cases h2:(i:Int)<(c:Int)
   ·rw [decide_eq_true h2]
    simp
   ·rw [decide_eq_true (by omega:(c:Int)=(i:Int))]
    simp
  ·rw [decide_eq_false h1]
   simp
theorem Po {t c k:Nat} (hk:k<=64) (h:behind t c k=0):next t c k=k-1:=VH fun i h1 h2=>by
 have:=JA t c k i (by omega)
 rw [h,Nat.zero_testBit,decide_eq_true ⟨h1,h2⟩,Bool.and_true] at this
 exact this.symm
theorem bn {x:Nat} (h0:x≠0) (h:Ok x):x.testBit (Lib.ctz 64 x)=true/\Lib.ctz 64 x<64/\ ∀i,i<Lib.ctz 64 x->x.testBit i=false:=by
 obtain⟨m,hm,hk⟩:=Lib.ctzFrom_spec 64 x (by omega) (Nat.lt_of_lt_of_eq h (by decide))
 have e:Lib.ctz 64 x=Lib.ctzFrom 64 x:=by simp [Lib.ctz,h0]
 rw [e]
 generalize Lib.ctzFrom 64 x=k at*
 subst hm
 refine⟨?_,hk,fun i hi=>?_⟩
 ·rw [Nat.mul_comm,Nat.testBit_mul_two_pow]
  simp
 ·rw [Nat.mul_comm,Nat.testBit_mul_two_pow,decide_eq_false (by omega),Bool.false_and]
theorem Pp {t c k:Nat} (ht:Ok t) (h:behind t c k≠0):Lib.ctz 64 (behind t c k)=next t c k:=by
 obtain⟨h1,h2,h3⟩:=bn h (NT ht _ _)
 generalize Lib.ctz 64 (behind t c k)=z at*
 rw [JA t c k z h2] at h1
 simp only [Bool.and_eq_true,decide_eq_true_eq] at h1
 refine(bX h1.2.1 h1.2.2 h1.1 fun i hc hi=>?_).symm
 have:=h3 i hi
 rw [JA t c k i (by omega),decide_eq_true ⟨hc,by omega⟩,Bool.and_true] at this
 exact this
end Go.Proofs.YtoaabebgmdbjeaaGreatDoor.TB
namespace Go.Proofs.YtoaabebgmdbjeaaGreatDoor
namespace SN
structure Sv where
 row:Nat
 col:Nat
 pen:PG.Pn
 s0:Int
 s1:Int
 sh:Int
 org:Bool
structure Sc where
 g:PG.Gr
 row:Nat
 col:Nat
 pend:Bool
 top:Nat
 bot:Nat
 pen:PG.Pn
 tabs:Nat
 s0:Int
 s1:Int
 sh:Int
 wrap:Bool
 org:Bool
 shown:Bool
 keys:Bool
 pad:Bool
 sv:Sv
def YC (x y h:Int):Prop:=(x=66\/x=48)/\(y=66\/y=48)/\(h=0\/h=1)
structure JY (R K:Nat) (s:Sv):Prop where
 row:s.row<R
 col:s.col<K
 pen:PG.Cv s.pen
 set:YC s.s0 s.s1 s.sh
structure Ac (s:Sc):Prop where
 g:PG.BL s.g
 row:s.row<s.g.rows
 col:s.col<s.g.AB
 bot:s.bot<s.g.rows
 top:s.top<s.bot\/(s.g.rows=1/\s.top=0/\s.bot=0)
 pen:PG.Cv s.pen
 tabs:TB.Ok s.tabs
 set:YC s.s0 s.s1 s.sh
 pend:s.pend=true->s.wrap=true/\s.col+1=s.g.AB
 sv:JY s.g.rows s.g.AB s.sv
def full (R K:Nat):Sc:=⟨PG.newG R K PG.plain,0,0,false,0,R-1,PG.plain,TB.news K,66,66,0,true,false,true,false,false,⟨0,0,PG.plain,66,66,0,false⟩⟩
def sized (s:Sc) (R K:Nat):Sc:={s with g:=PG.bU s.g R K,row:=min s.row (R-1),col:=min s.col (K-1),pend:=false,top:=0,bot:=R-1,tabs:=TB.news K,sv:={s.sv with row:=min s.sv.row (R-1),col:=min s.sv.col (K-1)}}
theorem oP:YC 66 66 0:=⟨.inl rfl,.inl rfl,.inl rfl⟩
theorem JB {R K:Nat} (h1:1<=R) (h2:R<=40) (h3:1<=K) (h4:K<=60):Ac (full R K) where
 g:=PG.RX PG.Gm h1 h2 h3 h4
 row:=by show 0<R;omega
 col:=by show 0<K;omega
 bot:=by show R-1<R;omega
 top:=by
  show 0<R-1\/(R=1/\0=0/\R-1=0)
  omega
 pen:=PG.Gm
 tabs:=TB.UU K
 set:=oP
 pend:=fun h=>nomatch h
 sv:=⟨by show 0<R;omega,by show 0<K;omega,PG.Gm,oP⟩
def YD (a b:Sc):Prop:=PG.Alike a.g b.g/\{a with g:=b.g}=b
theorem YD.refl (a:Sc):YD a a:=⟨PG.Alike.refl _,rfl⟩
def fl (f:Int) (k:Nat):Bool:=f / 2 ^ k%2==1
end SN
end Go.Proofs.YtoaabebgmdbjeaaGreatDoor
namespace Go.Proofs.YtoaabebgmdbjeaaGreatDoor
open SN
end Go.Proofs.YtoaabebgmdbjeaaGreatDoor
namespace Go.Proofs.YtoaabebgmdbjeaaGreatDoor
open Go.RowKit
theorem Pq {c:Int} (hc:0<=c):IntKind.u64.wrap (2 ^ min c.toNat 64)=((TB.F8 c:Nat):Int):=by
 unfold TB.F8
 by_cases h:TB.col c
 ·rw [if_pos h]
  unfold TB.col at h
  have hp:=TB.Rc (c:=c.toNat) (by omega)
  have e:(2:Int) ^ min c.toNat 64=((2 ^ c.toNat:Nat):Int):=by
   rw [show min c.toNat 64=c.toNat by omega]
   simp
  rw [e,IntKind.wrap_u64]
  generalize 2 ^ c.toNat=q at hp
  omega
 ·rw [if_neg h]
  unfold TB.col at h
  rw [show min c.toNat 64=64 by omega]
  decide
theorem bq (c:Int) (w:World) (h0: -9223372036854775808<=c) (h1:c<=9223372036854775807):Calls Tryz.prog 162 #[.int .i64 c] w fun e w'=>e=.returned (.int .u64 (TB.F8 c:Nat))/\w=w':=by
 by_cases hc:0<=c
 ·go_enter Tryz.func162,Tryz.ntmps162
  go_wp2
  go_ret
  exact⟨CV (Pq hc),rfl⟩
 ·go_enter Tryz.func162,Tryz.ntmps162
  go_wp2
  go_ret
  refine⟨CV ?_,rfl⟩
  rw [Pq (by rw [IntKind.wrap_u64];omega)]
  unfold TB.F8
  rw [if_neg (by unfold TB.col;rw [IntKind.wrap_u64];omega),if_neg (by unfold TB.col;omega)]
theorem Rf (c:Int) (n:Nat) (hn:TB.F8 c=n) (w:World) (h0: -9223372036854775808<=c) (h1:c<=9223372036854775807):Calls Tryz.prog 162 #[.int .i64 c] w fun e w'=>e=.returned (.int .u64 n)/\w=w':=by
 subst hn
 exact bq c w h0 h1
theorem VN (c:Int) (w:World) (h0: -9223372036854775808<=c) (h1:c<=9223372036854775807):Calls Tryz.prog 131 #[.int .i64 c] w fun e w'=>e=.returned (.int .u64 (TB.Cn c:Nat))/\w=w':=by
 obtain⟨d,hd,hd0,hd1⟩: ∃d:Int,max c 0=d/\0<=d/\d<=9223372036854775807:=⟨_,rfl,by omega,by omega⟩
 have E:TB.Cn c=TB.Cn d:=by
  unfold TB.Cn
  rw [show d.toNat=c.toNat by omega]
 have W:IntKind.u64.wrap ((TB.F8 d:Nat)-1:Int)=((TB.Cn d:Nat):Int):=by
  have h1:=TB.Gq d
  unfold TB.Ok at h1
  rw [IntKind.wrap_u64]
  rcases TB.VI hd0 with h | ⟨h,h'⟩
  ·omega
  ·rw [h,h']
   decide
 rw [E]
 have HB:=hide fun w'=>Rf d _ rfl w' (by omega) hd1
 have HW:=hide W
 generalize TB.F8 d=x at HB HW
 generalize TB.Cn d=y at HW
 clear E W
 by_cases hc:0<=c
 ·obtain rfl:d=c:=by omega
  clear hd
  go_enter Tryz.func131,Tryz.ntmps131
  go_wp2_with fail
  refine(HB.out _).mono ?_
  rintro e w1 ⟨rfl,rfl⟩
  go_wp2_with fail
  go_ret
  exact⟨CV HW.out,rfl⟩
 ·obtain rfl:d=0:=by omega
  clear hd
  go_enter Tryz.func131,Tryz.ntmps131
  go_wp2_with fail
  refine(HB.out _).mono ?_
  rintro e w1 ⟨rfl,rfl⟩
  go_wp2_with fail
  go_ret
  exact⟨CV HW.out,rfl⟩
theorem LY (c:Int) (n:Nat) (hn:TB.Cn c=n) (w:World) (h0: -9223372036854775808<=c) (h1:c<=9223372036854775807):Calls Tryz.prog 131 #[.int .i64 c] w fun e w'=>e=.returned (.int .u64 n)/\w=w':=by
 subst hn
 exact VN c w h0 h1
theorem u64_and {a b:Nat} (ha:TB.Ok a) (hb:TB.Ok b):bits .and .u64 (a:Int) (b:Int)=((a&&& b:Nat):Int):=u64_and_nat a b ha hb
theorem u64_or {a b:Nat} (ha:TB.Ok a) (hb:TB.Ok b):bits .or .u64 (a:Int) (b:Int)=((a||| b:Nat):Int):=u64_or_nat a b ha hb
theorem u64_andNot {a b:Nat} (ha:TB.Ok a) (hb:TB.Ok b):bits .andNot .u64 (a:Int) (b:Int)=((a&&& (18446744073709551615-b):Nat):Int):=u64_andNot_nat a b ha hb
theorem YE (n:Int) (w:World) (h0:0<=n) (h1:n<=9223372036854775807):Calls Tryz.prog 96 #[.int .i64 n] w fun e w'=>e=.returned (.int .u64 (TB.news n.toNat:Nat))/\w=w':=by
 have HB:=hide fun w'=>LY n _ rfl w' (by omega) h1
 have E1:=u64_and (show TB.Ok 72340172838076672 by unfold TB.Ok;omega) (TB.Gq n)
 rw [TB.YB h0] at E1
 have E2:=hide (show bits .and .u64 72340172838076672 ((TB.Cn n:Nat):Int)=((TB.news n.toNat:Nat):Int) from E1)
 generalize TB.Cn n=x at HB E2
 generalize TB.news n.toNat=y at E2
 clear E1
 go_enter Tryz.func96,Tryz.ntmps96
 go_wp2_with fail
 refine(HB.out _).mono ?_
 rintro e w1 ⟨rfl,rfl⟩
 go_wp2_with fail
 go_ret
 exact⟨CV E2.out,rfl⟩
theorem cB (n:Int) (t:Nat) (ht:TB.news n.toNat=t) (w:World) (h0:0<=n) (h1:n<=9223372036854775807):Calls Tryz.prog 96 #[.int .i64 n] w fun e w'=>e=.returned (.int .u64 t)/\w=w':=by
 subst ht
 exact YE n w h0 h1
theorem cK (A:Option Addr) (n c B:Nat) (l:List Int) (w:World) (hA:Seen w B A n (l.map (Value.int .i64))) (hn:n<=1099511627776) (hl: ∀x∈l, -9223372036854775808<=x/\x<=9223372036854775807):
  Calls Tryz.prog 191 #[.slice A n c] w fun e w'=>e=.returned (.int .u64 (TB.puts 0 l:Nat))/\w=w':=by
 have hlen:l.length=n:=by simpa using hA.1
 have HA:=hide hA
 have HL:=hide hlen
 have HX:=hide hl
 clear hA hlen hl
 go_enter Tryz.func191,Tryz.ntmps191
 go_wp2
 go_loopw [3,8] (fun t i wr=> ∃k:Nat,k<=n/\i=.int .i64 k/\t=.int .u64 (TB.puts 0 (l.take k):Nat)/\wr=w) (fun _ i _=>n-(intOf i).toNat)
 case atStart=>exact⟨0,Nat.zero_le _,rfl,rfl,rfl⟩
 case round=>
  obtain⟨k,hk,rfl,rfl,rfl⟩:=hrel
  by_cases hlt:k<n
  ·obtain⟨ad,u,rfl,_,hu,hc⟩:=HA.out.at_ hlt
   rw [List.getElem?_map] at hu
   obtain⟨x,hx,rfl⟩:=Option.map_eq_some_iff.1 hu
   obtain⟨x0,x1⟩:=HX.out x (List.mem_of_getElem? hx)
   have hs:=TB.VK 0 (l.take k) x
   rw [show l.take k++ [x] =l.take (k+1) from by rw [List.take_add_one,hx];rfl] at hs
   have E1:=u64_or (TB.G9 (l:=l.take k) TB.ok0) (TB.OW x)
   rw [<- hs] at E1
   have E:=hide E1
   generalize TB.puts 0 (l.take k)=z at E
   have HB:=hide fun w'=>Rf x _ rfl w' x0 x1
   generalize TB.F8 x=y at HB E
   clear hu hx hs E1 x0 x1
   go_wp2_with fail
   refine(HB.out _).mono ?_
   rintro e w1 ⟨rfl,rfl⟩
   go_wp2_with fail
   go_roundw
   case rel=>exact⟨k+1,by omega,by go_num,by rw [E.out],by first | rfl | trivial⟩
   case measure=>simp [intOf];omega
  ·obtain rfl:k=n:=by omega
   have e:l.take k=l:=List.take_of_length_le (by rw [HL.out];omega)
   rw [e]
   generalize hz:TB.puts 0 l=z
   have HZ:=hide hz
   clear hz
   go_wp2
   go_ret
   exact⟨CV (by rw [HZ.out]),rfl⟩
theorem YF (A:Option Addr) (n c B:Nat) (l:List Int) (z:Nat) (hz:TB.puts 0 l=z) (w:World) (hA:Seen w B A n (l.map (Value.int .i64))) (hn:n<=1099511627776) (hl: ∀x∈l, -9223372036854775808<=x/\x<=9223372036854775807):
  Calls Tryz.prog 191 #[.slice A n c] w fun e w'=>e=.returned (.int .u64 z)/\w=w':=by
 subst hz
 exact cK A n c B l w hA hn hl
theorem kT (t:Nat) (A:Option Addr) (n c B:Nat) (l:List Int) (z:Nat) (hz:TB.puts t l=z) (w:World) (ht:TB.Ok t) (hA:Seen w B A n (l.map (Value.int .i64))) (hn:n<=1099511627776) (hl: ∀x∈l, -9223372036854775808<=x/\x<=9223372036854775807):
  Calls Tryz.prog 167 #[.int .u64 t,.slice A n c] w fun e w'=>e=.returned (.int .u64 z)/\w=w':=by
 subst hz
 have HB:=hide fun w' (h:Seen w' B A n (l.map (Value.int .i64)))=>YF A n c B l _ rfl w' h hn hl
 have E1:=u64_or ht (TB.G9 (l:=l) TB.ok0)
 rw [TB.bf ht] at E1
 have E:=hide E1
 have HT:=hide ht
 have HA:=hide hA
 generalize TB.puts 0 l=x at HB E
 generalize TB.puts t l=y at E
 clear hA hl E1 ht
 go_enter Tryz.func167,Tryz.ntmps167
 go_wp2_with fail
 refine(HB.out _ HA.out).mono ?_
 rintro e w1 ⟨rfl,rfl⟩
 go_wp2_with fail
 go_ret
 exact⟨CV E.out,rfl⟩
theorem cO (t:Nat) (A:Option Addr) (n c B:Nat) (l:List Int) (z:Nat) (hz:TB.drops t l=z) (w:World) (ht:TB.Ok t) (hA:Seen w B A n (l.map (Value.int .i64))) (hn:n<=1099511627776) (hl: ∀x∈l, -9223372036854775808<=x/\x<=9223372036854775807):
  Calls Tryz.prog 219 #[.int .u64 t,.slice A n c] w fun e w'=>e=.returned (.int .u64 z)/\w=w':=by
 subst hz
 have HB:=hide fun w' (h:Seen w' B A n (l.map (Value.int .i64)))=>YF A n c B l _ rfl w' h hn hl
 have E1:=u64_andNot ht (TB.G9 (l:=l) TB.ok0)
 rw [TB.VL ht] at E1
 have E:=hide E1
 have HT:=hide ht
 have HA:=hide hA
 generalize TB.puts 0 l=x at HB E
 generalize TB.drops t l=y at E
 clear hA hl E1 ht
 go_enter Tryz.func219,Tryz.ntmps219
 go_wp2_with fail
 refine(HB.out _ HA.out).mono ?_
 rintro e w1 ⟨rfl,rfl⟩
 go_wp2_with fail
 go_ret
 exact⟨CV E.out,rfl⟩
def JZ (w:World):Prop:=TabAt 4 Lib.deBruijn64tab w
theorem JZ.keep {w w':World} (h:JZ w) (hb:Below w.heap.size w w'):JZ w':=fun j hj=>by
 have hc:=h j hj
 rw [<- hc]
 exact World.cell?_of_block (hb.block _ (World.block_lt_of_cell? w _ hc))
theorem JZ.drewN {w:World} (h:JZ w) (k:Nat):JZ (w.drewN k):=h
theorem cZ (x k idx:Nat) (w:World) (hx0:((x:Int)==0)=false)
  (key:IntKind.u64.wrap (bits BinOp.and IntKind.u64 (x:Int) (IntKind.u64.wrap (-(x:Int)))*285870213051353865) / 288230376151711744=(idx:Int))
  (hi:idx<64) (hk:k<64) (hcell:w.cell? ⟨4,idx,none⟩=some (.int .u8 k)):
  Calls Tryz.prog 163 #[.int .u64 x] w fun e w'=>e=.returned (.int .i64 k)/\w=w':=by
 go_enter Tryz.func163,Tryz.ntmps163
 go_wp2_with (simp only [key])
 go_ret
 exact⟨rfl,rfl⟩
theorem kU (x:Nat) (hx:TB.Ok x) (h0:x≠0) (w:World) (hT:JZ w):Calls Tryz.prog 163 #[.int .u64 x] w fun e w'=>e=.returned (.int .i64 (Lib.ctz 64 x:Nat))/\w=w':=by
 obtain⟨hlow,hk⟩:=Lib.lowest_bit 64 x h0 hx
 obtain⟨hi,htab⟩:=Lib.deBruijn64_at _ hk
 have hcell:=hT _ hi
 rw [htab] at hcell
 exact cZ x _ _ w (by simp;omega) (tz64_key x _ hx h0 hlow) hi hk hcell
theorem YG (t:Nat) (c k:Nat) (z:Nat) (hz:TB.next t c k=z) (w:World) (ht:TB.Ok t) (hT:JZ w) (hc:c<=1000) (h1:1<=k) (h2:k<=64):
  Calls Tryz.prog 133 #[.int .u64 t,.int .i64 c,.int .i64 k] w fun e w'=>e=.returned (.int .i64 z)/\w=w':=by
 have HK:=hide fun w'=>LY k _ rfl w' (by omega) (by omega)
 have HC:=hide fun w'=>LY c _ rfl w' (by omega) (by omega)
 have HB:=hide fun w'=>Rf c _ rfl w' (by omega) (by omega)
 have E1:=hide (u64_and ht (TB.Gq k))
 have E2:=hide (u64_andNot (TB.IE ht (b:=TB.Cn k)) (TB.Gq c))
 have E3:=hide (u64_andNot (TB.IE (TB.IE ht (b:=TB.Cn k)) (b:=18446744073709551615-TB.Cn c)) (TB.OW c))
 have E4:=hide (show((t&&& TB.Cn k)&&& (18446744073709551615-TB.Cn c))&&& (18446744073709551615-TB.F8 c)=TB.behind t c k from rfl)
 have B0:TB.behind t c k=0->z=k-1:=fun h=>by rw [<- hz];exact TB.Po h2 h
 have B1:TB.behind t c k≠0->Lib.ctz 64 (TB.behind t c k)=z:=fun h=>by rw [<- hz];exact TB.Pp ht h
 have hbo:=TB.NT ht c k
 generalize TB.behind t c k=b at E4 B0 B1 hbo
 generalize TB.Cn k=xk at HK E1 E2 E3 E4
 generalize TB.Cn c=xc at HC E2 E3 E4
 generalize TB.F8 c=xb at HB E3 E4
 generalize t&&& xk=y1 at E1 E2 E3 E4
 generalize y1&&& (18446744073709551615-xc)=y2 at E2 E3 E4
 generalize y2&&& (18446744073709551615-xb)=y3 at E3 E4
 obtain rfl:y3=b:=E4.out
 have TZ:y3≠0-> ∀w',JZ w'->Calls Tryz.prog 163 #[.int .u64 y3] w' fun e w1=>e=.returned (.int .i64 z)/\w'=w1:=fun h w' hw=>by
  rw [<- B1 h]
  exact kU y3 hbo h w' hw
 have HT:=hide hT
 clear ht hT hbo hz B1
 rcases Nat.eq_zero_or_pos y3 with h | h
 ·subst h
  have hz:=B0 rfl
  have hz':(k:Int)-1=(z:Int):=by omega
  have HZ:=hide hz'
  have E3':=hide (show bits .andNot .u64 (y2:Int) (xb:Int)=0 from E3.out)
  clear B0 TZ hz hz' E3 E4
  go_enter Tryz.func133,Tryz.ntmps133
  go_wp2_with fail
  refine(HK.out _).mono ?_
  rintro e w1 ⟨rfl,rfl⟩
  go_wp2_with fail
  refine(HC.out _).mono ?_
  rintro e w1 ⟨rfl,rfl⟩
  go_wp2_with fail
  refine(HB.out _).mono ?_
  rintro e w1 ⟨rfl,rfl⟩
  rw [E1.out,E2.out]
  go_wp2_with (simp only [E3'.out])
  go_ret
  exact⟨CV HZ.out,rfl⟩
 ·have TZ':=hide (TZ (by omega))
  have h':((y3:Int)==0)=false:=by simp;omega
  clear TZ B0 E4
  go_enter Tryz.func133,Tryz.ntmps133
  go_wp2_with fail
  refine(HK.out _).mono ?_
  rintro e w1 ⟨rfl,rfl⟩
  go_wp2_with fail
  refine(HC.out _).mono ?_
  rintro e w1 ⟨rfl,rfl⟩
  go_wp2_with fail
  refine(HB.out _).mono ?_
  rintro e w1 ⟨rfl,rfl⟩
  rw [E1.out,E2.out]
  go_wp2_with (first | simp only [E3.out] | (refine(TZ'.out _ HT.out).mono ?_;rintro e w1 ⟨rfl,rfl⟩))
  go_ret
  exact⟨rfl,rfl⟩
end Go.Proofs.YtoaabebgmdbjeaaGreatDoor
namespace Go.Proofs.YtoaabebgmdbjeaaGreatDoor
open Go.RowKit
end Go.Proofs.YtoaabebgmdbjeaaGreatDoor
namespace Go.Proofs.YtoaabebgmdbjeaaGreatDoor
open Go.RowKit
theorem oQ:Tryz.prog.globalNamed "math/bits.deBruijn64tab" =some 4:=by kernel_rfl
theorem oU:(Tryz.prog.globals[4]?).map (·.type)=some 192:=by kernel_rfl
theorem VO:tiled Tryz.prog 4 192=true:=by kernel_rfl
theorem YH:flat (H:=Unit) Rows.laid_math_bits_deBruijn64tab=some (Lib.deBruijn64tab.map fun z:Nat=>Value.int .u8 (z:Int)):=by kernel_rfl
theorem VP {w:World} {l:List (String × DataW Unit)} (h:laidMet Tryz.prog l w) (hm:("math/bits.deBruijn64tab",Rows.laid_math_bits_deBruijn64tab)∈l):JZ w:=by
 have hl:(Lib.deBruijn64tab.map fun z:Nat=>Value.int .u8 (z:Int)).length=64:=by kernel_rfl
 obtain⟨t,ht⟩:=Db 4 oQ oU VO YH (by rw [hl];omega) h hm
 intro j hj
 rw [cell_of_row w _ j _ t (0,0) ht,List.getElem?_toArray,List.getElem?_map,List.getD_eq_getElem?_getD,List.getElem?_eq_getElem hj]
 rfl
end Go.Proofs.YtoaabebgmdbjeaaGreatDoor
