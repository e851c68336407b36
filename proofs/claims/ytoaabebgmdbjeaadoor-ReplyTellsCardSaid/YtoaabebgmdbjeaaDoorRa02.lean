/- Package cell's functions as plain mathematics: how wide a rune is, right pens, a pen's number. What package utf computes, as plain functions on whole numbers: the runes of bytes, the bytes of runes. Grids in plain Lean: cells in rows; what New, Put, Wipe, Resize, Mend make of them; which are right; what follows. Names no function of a program. A row's text in plain Lean: how many runes, and the row built anew by Put from left to right. Names no function of a program. A grid's cells as one list, row behind row: what may be a grid, one or two cells more, one cell set; the runes that are wide enough can be written. Names no function of a program. The grids that the statements make of numbers, as plain lists of cells: each is right. Names no function of a program. Tab stops as bits, in plain Lean: put, dropped, listed, the next one. Names no function of a program. Tab stops in plain Lean, as package tabs reckons them: a bit, all bits below, the lowest bit. Names no function of a program. Screens, told plainly: what they hold, which are right, what New and Sized make, what the given numbers make. One bit of an int, asked as Go asks it. -/
import Derived.Test.YtoaabebgmdbjeaaDoorRa01
import Derived.Lib.TrailingZeros
set_option maxRecDepth 100000
set_option maxHeartbeats 16000000
set_option linter.unusedVariables false
namespace Go.Proofs.YtoaabebgmdbjeaaDoor
namespace C
def spans:List (Int × Int × Int):= [(127,159,0),(768,879,0),(4352,4447,2),(11904,42191,2),(44032,55203,2),(55296,57343,0),(63744,64255,2),(65072,65135,2),(65280,65376,2),(65504,65510,2),(127744,129791,2),(131072,262141,2)]
def find:List (Int × Int × Int)->Int->Int
 | [],_=>1
 | s::r,x=>if s.1<=x/\x<=s.2.1 then s.2.2 else find r x
def width (x:Int):Int:=if x<32\/1114111<x then 0 else find spans x
def Iz:List (Int × Int):= [(4352,4447),(11904,42191),(44032,55203),(63744,64255),(65072,65135),(65280,65376),(65504,65510),(127744,129791),(131072,262141)]
def Eh:List (Int × Int)->Int->Int
 | [],_=>1
 | s::r,x=>if s.1<=x/\x<=s.2 then 2 else Eh r x
def narrow (n:Int):Prop:=n<32\/(127<=n/\n<160)\/(768<=n/\n<=879)\/1114111<n\/(55296<=n/\n<=57343)
instance (n:Int):Decidable (narrow n):=by unfold narrow;infer_instance
def Es (n:Int):Int:=if narrow n then 0 else Eh Iz n
theorem IQ {a b v x:Int} {r:List (Int × Int × Int)} (h:a<=x/\x<=b):find ((a,b,v)::r) x=v:=by simp [find,h]
theorem Gs {a b v x:Int} {r:List (Int × Int × Int)} (h:x<a\/b<x):find ((a,b,v)::r) x=find r x:=by
 show(if a<=x/\x<=b then v else find r x)=_
 rw [if_neg (by omega)]
theorem Bj {a b x:Int} {r:List (Int × Int)} (h:a<=x/\x<=b):Eh ((a,b)::r) x=2:=by simp [Eh,h]
theorem Ag {a b x:Int} {r:List (Int × Int)} (h:x<a\/b<x):Eh ((a,b)::r) x=Eh r x:=by
 show(if a<=x/\x<=b then 2 else Eh r x)=_
 rw [if_neg (by omega)]
theorem Hf (n:Int):width n=Es n:=by
 unfold width Es
 by_cases h0:n<32\/1114111<n
 ·rw [if_pos h0,if_pos (show narrow n from by unfold narrow;omega)]
 rw [if_neg h0]
 unfold spans Iz
 have go: ∀(a b v:Int) (r:List (Int × Int × Int)) (y:Int),(a<=n/\n<=b->v=y)->((n<a\/b<n)->find r n=y)->find ((a,b,v)::r) n=y:=by
  intro a b v r y h1 h2
  by_cases h:a<=n/\n<=b
  ·rw [IQ h];exact h1 h
  ·rw [Gs (by omega)];exact h2 (by omega)
 by_cases hn:(127<=n/\n<160)\/(768<=n/\n<=879)\/(55296<=n/\n<=57343)
 ·rw [if_pos (show narrow n from by unfold narrow;omega)]
  refine go _ _ _ _ _ (fun _=>rfl) fun _=>go _ _ _ _ _ (fun _=>rfl) fun _=>go _ _ _ _ _ (fun _=>by omega) fun _=>go _ _ _ _ _ (fun _=>by omega) fun _=>go _ _ _ _ _ (fun _=>by omega) fun _=>go _ _ _ _ _ (fun _=>rfl) fun _=>?_
  omega
 ·rw [if_neg (show¬narrow n from by unfold narrow;omega)]
  refine go _ _ _ _ _ (fun _=>by omega) fun _=>go _ _ _ _ _ (fun _=>by omega) fun _=>?_
  refine go _ _ _ _ _ (fun h=>(Bj h).symm) fun h=>?_
  rw [Ag h]
  refine go _ _ _ _ _ (fun h=>(Bj h).symm) fun h=>?_
  rw [Ag h]
  refine go _ _ _ _ _ (fun h=>(Bj h).symm) fun h=>?_
  rw [Ag h]
  refine go _ _ _ _ _ (fun _=>by omega) fun _=>?_
  refine go _ _ _ _ _ (fun h=>(Bj h).symm) fun h=>?_
  rw [Ag h]
  refine go _ _ _ _ _ (fun h=>(Bj h).symm) fun h=>?_
  rw [Ag h]
  refine go _ _ _ _ _ (fun h=>(Bj h).symm) fun h=>?_
  rw [Ag h]
  refine go _ _ _ _ _ (fun h=>(Bj h).symm) fun h=>?_
  rw [Ag h]
  refine go _ _ _ _ _ (fun h=>(Bj h).symm) fun h=>?_
  rw [Ag h]
  refine go _ _ _ _ _ (fun h=>(Bj h).symm) fun h=>?_
  rw [Ag h]
  rfl
def col (c:Int):Bool:=decide (c= -1\/(0<=c/\c<=255)\/(16777216<=c/\c<33554432))
theorem Na {c:Int}:col c=true<->(c= -1\/(0<=c/\c<=255)\/(16777216<=c/\c<33554432)):=by simp [col]
def right (f b g:Int):Bool:=col f&&col b&&decide (0<=g/\g<=255)
theorem FQ {f b g:Int}:right f b g=true<->(col f=true/\col b=true/\0<=g/\g<=255):=by simp [right,and_assoc]
def num (f b g:Int):Int:=g+(f+1)*256+(b+1)*17179869184
def fl (n:Int):Int:=n%256
def CB (n:Int):Int:=if n%4=0 then-1 else if n%4=1 then n.tdiv 4%16 else if n%4=2 then n.tdiv 4%256 else 16777216+n.tdiv 4%16777216
theorem Db (n:Int):col (CB n)=true:=by
 rw [Na]
 unfold CB
 split
 ·omega
 split
 ·omega
 split
 ·omega
 ·omega
end C
end Go.Proofs.YtoaabebgmdbjeaaDoor
namespace Go.Proofs.YtoaabebgmdbjeaaDoor.U
def isR (n:Int):Bool:=decide (0<=n/\n<=1114111/\(n<55296\/57343<n))
def sz (r:Int):Int:=if r<128 then 1 else if r<2048 then 2 else if r<65536 then 3 else 4
def wh (need acc:Int):Int:=if isR acc=true/\sz acc=need then acc else 65533
structure St where
 need:Int
 have_:Int
 acc:Int
def z:St:=⟨0,0,0⟩
def St.val (s:St):Value:=.agg #[.int .i64 s.need,.int .i64 s.have_,.int .i64 s.acc]
def bg (b:Int):St × List Int:=
 if b<128 then (z, [b]) else if b<194 then (z, [65533]) else if b<224 then (⟨2,1,b-192⟩, []) else if b<240 then (⟨3,1,b-224⟩, []) else if b<=244 then (⟨4,1,b-240⟩, []) else (z, [65533])
def it (s:St) (b:Int):St × List Int:=
 if s.need<=0 then bg b
 else if b<128\/192<=b then ((bg b).1,65533::(bg b).2)
 else if s.have_+1<s.need then (⟨s.need,s.have_+1,s.acc*64+(b-128)⟩, [])
 else (z, [wh s.need (s.acc*64+(b-128))])
def St.ok (s:St):Prop:=(s.need=0/\s.have_=0/\s.acc=0)\/(2<=s.need/\s.need<=4/\1<=s.have_/\s.have_<s.need/\0<=s.acc/\(s.have_=1->s.acc<32)/\(s.have_=2->s.acc<2048)/\(s.have_=3->s.acc<131072))
def dec:St->List Int->St × List Int
 | s, [] =>(s, [])
 | s,b::l=>((dec (it s b).1 l).1,(it s b).2++(dec (it s b).1 l).2)
def tl (r:Int):Int:=128+r%64
def en (r:Int):List Int:=
 if r<128 then [r] else if r<2048 then [192+r / 64,tl r] else if r<65536 then [224+r / 4096,tl (r / 64),tl r] else [240+r / 262144,tl (r / 4096),tl (r / 64),tl r]
def en1 (r:Int):List Int:=if isR r=true then en r else [239,191,189]
theorem IU (r:Int):(en r).length<=4:=by
 unfold en
 split; · simp
 split; · simp
 split<;>simp
theorem Nb (r:Int):(en1 r).length<=4:=by
 have:=IU r
 unfold en1
 split
 ·exact this
 ·simp
def enc (l:List Int):List Int:=l.flatMap en1
theorem MC (l:List Int) (r:Int):enc (l++ [r])=enc l++en1 r:=by simp [enc]
theorem Nc (l:List Int):(enc l).length<=4*l.length:=by
 induction l with
 | nil=>simp [enc]
 | cons r l ih=>
  have h:=Nb r
  simp only [enc,List.flatMap_cons,List.length_append,List.length_cons] at ih⊢
  omega
end Go.Proofs.YtoaabebgmdbjeaaDoor.U
namespace Go.Proofs.YtoaabebgmdbjeaaDoor.PG
abbrev Pn:=Int × Int × Int
abbrev Cl:=Int × Int × Pn
def rn (c:Cl):Int:=c.1
def kd (c:Cl):Int:=c.2.1
def pn (c:Cl):Pn:=c.2.2
def Et (p:Pn):Prop:=C.right p.1 p.2.1 p.2.2=true
def blank (p:Pn):Cl:=(32,0,p)
def plain:Pn:=(-1, -1,0)
def mend (f:Nat->Cl) (n:Nat) (j:Nat):Cl:=
 if (kd (f j)=1/\ ¬(j+1<n/\kd (f (j+1))=2))\/(kd (f j)=2/\ ¬(0<j/\kd (f (j-1))=1)) then blank (pn (f j)) else f j
def F8 (f:Nat->Cl) (n:Nat):Prop:= ∀j,j<n->Et (pn (f j))/\
 ((kd (f j)=0/\C.width (rn (f j))=1)\/
  (kd (f j)=1/\C.width (rn (f j))=2/\j+1<n/\kd (f (j+1))=2/\pn (f (j+1))=pn (f j))\/
  (kd (f j)=2/\rn (f j)=0/\0<j/\kd (f (j-1))=1))
theorem F8.kind {f:Nat->Cl} {n j:Nat} (h:F8 f n) (hj:j<n):kd (f j)=0\/kd (f j)=1\/kd (f j)=2:=by
 rcases(h j hj).2 with h | h | h
 ·exact .inl h.1
 ·exact .inr (.inl h.1)
 ·exact .inr (.inr h.1)
structure Gr where
 rows:Nat
 AO:Nat
 f:Nat->Nat->Cl
def Alike (a b:Gr):Prop:=a.rows=b.rows/\a.AO=b.AO/\ ∀r c,r<a.rows->c<a.AO->a.f r c=b.f r c
theorem Alike.refl (a:Gr):Alike a a:=⟨rfl,rfl,fun _ _ _ _=>rfl⟩
theorem Alike.symm {a b:Gr} (h:Alike a b):Alike b a:=⟨h.1.symm,h.2.1.symm,fun r c hr hc=>(h.2.2 r c (by rw [h.1];exact hr) (by rw [h.2.1];exact hc)).symm⟩
theorem Alike.trans {a b c:Gr} (h:Alike a b) (k:Alike b c):Alike a c:=⟨h.1.trans k.1,h.2.1.trans k.2.1,fun r x hr hx=>(h.2.2 r x hr hx).trans (k.2.2 r x (by rw [<- h.1];exact hr) (by rw [<- h.2.1];exact hx))⟩
def cells (g:Gr):List Cl:=(List.range (g.rows*g.AO)).map fun i=>g.f (i / g.AO) (i%g.AO)
theorem Hg (g:Gr):(cells g).length=g.rows*g.AO:=by simp [cells]
theorem F9 {R K r c:Nat} (hr:r<R) (hc:c<K):r*K+c<R*K:=by
 have h:(r+1)*K<=R*K:=Nat.mul_le_mul_right K hr
 rw [Nat.succ_mul] at h
 omega
theorem Hl {K r c:Nat} (hc:c<K):(r*K+c) / K=r/\(r*K+c)%K=c:=by
 constructor
 ·rw [Nat.mul_comm,Nat.mul_add_div (by omega),Nat.div_eq_of_lt hc,Nat.add_zero]
 ·rw [Nat.mul_comm,Nat.mul_add_mod,Nat.mod_eq_of_lt hc]
theorem ME (g:Gr) {r c:Nat} (hr:r<g.rows) (hc:c<g.AO):(cells g)[r*g.AO+c]? =some (g.f r c):=by
 unfold cells
 rw [List.getElem?_map,List.getElem?_range (F9 hr hc)]
 obtain⟨h1,h2⟩:=Hl (r:=r) hc
 simp only [Option.map_some,h1,h2]
theorem MF {R K i:Nat} (h:i<R*K):0<K/\i / K<R/\i%K<K/\i / K*K+i%K=i:=by
 have hK:0<K:=by
  rcases Nat.eq_zero_or_pos K with h0 | h0
  ·subst h0;simp at h
  ·exact h0
 exact⟨hK,Nat.div_lt_of_lt_mul (by rw [Nat.mul_comm];exact h),Nat.mod_lt _ hK,by rw [Nat.mul_comm];exact Nat.div_add_mod i K⟩
def newG (R K:Nat) (p:Pn):Gr:=⟨R,K,fun _ _=>blank p⟩
def D5 (g:Gr):Prop:=1<=g.rows/\g.rows<=40/\1<=g.AO/\g.AO<=60/\ ∀r,r<g.rows->F8 (g.f r) g.AO
end Go.Proofs.YtoaabebgmdbjeaaDoor.PG
namespace Go.Proofs.YtoaabebgmdbjeaaDoor.PG
def runes (f:Nat->Cl) (n:Nat):List Int:=((List.range n).filter fun j=>kd (f j)≠2).map fun j=>rn (f j)
def Iz (l:List Int):Nat:=(l.filter fun x=>C.width x=2).length
end Go.Proofs.YtoaabebgmdbjeaaDoor.PG
namespace Go.Proofs.YtoaabebgmdbjeaaDoor.PG
def none:Cl:=(0,0,(0,0,0))
def ofL (R K:Nat) (l:List Cl):Gr:=⟨R,K,fun r c=>(l[r*K+c]?).getD none⟩
theorem IV {R K:Nat} {l:List Cl} (hl:l.length=R*K) {r c:Nat} (hr:r<R) (hc:c<K):l[r*K+c]? =some ((ofL R K l).f r c):=by
 have h:r*K+c<l.length:=by rw [hl];exact F9 hr hc
 show _=some ((l[r*K+c]?).getD none)
 rw [List.getElem?_eq_getElem h]
 rfl
theorem I4 {g:Gr} {l:List Cl} (hl:l.length=g.rows*g.AO) (h: ∀r c,r<g.rows->c<g.AO->l[r*g.AO+c]? =some (g.f r c)):l=cells g:=by
 refine List.ext_getElem? fun i=>?_
 by_cases hi:i<g.rows*g.AO
 ·obtain⟨_,h1,h2,h3⟩:=MF hi
  rw [<- h3,h _ _ h1 h2,ME g h1 h2]
 ·rw [List.getElem?_eq_none (by omega),List.getElem?_eq_none (by rw [Hg];omega)]
theorem Kw {R K:Nat} {l:List Cl} (hl:l.length=R*K):cells (ofL R K l)=l:=(I4 (g:=ofL R K l) hl fun _ _ hr hc=>IV hl hr hc).symm
structure Ok (w:Nat) (l:List Cl):Prop where
 each: ∀j c,l[j]? =some c->Et (pn c)/\
  ((kd c=0/\C.width (rn c)=1)\/
   (kd c=1/\C.width (rn c)=2/\(j+1)%w≠0/\ ∃d,l[j+1]? =some d/\kd d=2/\pn d=pn c)\/
   (kd c=2/\rn c=0/\j%w≠0/\ ∃d,l[j-1]? =some d/\kd d=1))
theorem MG (w:Nat):Ok w [] :=⟨fun j c h=>by simp at h⟩
theorem IW {α:Type} {l:List α} {x c:α} {j:Nat} (h:(l++ [x])[j]? =some c):l[j]? =some c\/(j=l.length/\c=x):=by
 rcases Nat.lt_or_ge j l.length with a | a
 ·rw [List.getElem?_append_left a] at h
  exact .inl h
 ·rw [List.getElem?_append_right a] at h
  rcases Nat.eq_or_lt_of_le a with b | b
  ·rw [<- b,Nat.sub_self] at h
   exact .inr ⟨b.symm,(Option.some.inj h).symm⟩
  ·rw [List.getElem?_eq_none (by simp;omega)] at h
   exact absurd h (by simp)
theorem Ka {α:Type} {l m:List α} {d:α} {j:Nat} (h:l[j]? =some d):(l++m)[j]? =some d:=by
 have a:j<l.length:=by
  rcases Nat.lt_or_ge j l.length with a | a
  ·exact a
  ·rw [List.getElem?_eq_none a] at h;exact absurd h (by simp)
 rw [List.getElem?_append_left a]
 exact h
theorem Ok.grow {w:Nat} {l m:List Cl} (h:Ok w l) {j:Nat} {c:Cl} (hc:l[j]? =some c):Et (pn c)/\
  ((kd c=0/\C.width (rn c)=1)\/
   (kd c=1/\C.width (rn c)=2/\(j+1)%w≠0/\ ∃d,(l++m)[j+1]? =some d/\kd d=2/\pn d=pn c)\/
   (kd c=2/\rn c=0/\j%w≠0/\ ∃d,(l++m)[j-1]? =some d/\kd d=1)):=by
 obtain⟨h0,h | ⟨h1,h2,h3,d,h4,h5⟩ | ⟨h1,h2,h3,d,h4,h5⟩⟩:=h.each j c hc
 ·exact⟨h0,.inl h⟩
 ·exact⟨h0,.inr (.inl ⟨h1,h2,h3,d,Ka h4,h5⟩)⟩
 ·exact⟨h0,.inr (.inr ⟨h1,h2,h3,d,Ka h4,h5⟩)⟩
theorem ok_one {w:Nat} {l:List Cl} (h:Ok w l) {x:Int} {p:Pn} (hx:C.width x=1) (hp:Et p):Ok w (l++ [(x,0,p)]):=by
 refine⟨fun j c hc=>?_⟩
 rcases IW hc with a | ⟨_,rfl⟩
 ·exact h.grow a
 ·exact⟨hp,.inl ⟨rfl,hx⟩⟩
theorem ok_two {w:Nat} {l:List Cl} (h:Ok w l) {x:Int} {p:Pn} (hx:C.width x=2) (hp:Et p) (hw:(l.length+1)%w≠0):Ok w (l++ [(x,1,p),(0,2,p)]):=by
 have e:l++ [(x,1,p),(0,2,p)] =l++ [(x,1,p)] ++ [(0,2,p)] :=by simp
 refine⟨fun j c hc=>?_⟩
 rw [e] at hc
 rcases IW hc with a | ⟨hj,rfl⟩
 ·rcases IW a with b | ⟨hj,rfl⟩
  ·exact h.grow b
  ·refine⟨hp,.inr (.inl ⟨rfl,hx,by rw [hj];exact hw,(0,2,p),?_,rfl,rfl⟩)⟩
   rw [e,hj]
   exact List.getElem?_concat_length (l:=l++ [(x,1,p)]) (a:=((0,2,p):Cl))▸by simp
 ·have hj:j=l.length+1:=by simpa using hj
  refine⟨hp,.inr (.inr ⟨rfl,rfl,by rw [hj];exact hw,(x,1,p),?_,rfl⟩)⟩
  rw [hj]
  simp
theorem Nf {w r c:Nat} (hc:c<w):(r*w+c)%w=c:=(Hl hc).2
theorem Ng {R K:Nat} {l:List Cl} (h:Ok K l) (hl:l.length=R*K) (h1:1<=R) (h2:R<=40) (h3:1<=K) (h4:K<=60):D5 (ofL R K l):=by
 refine⟨h1,h2,h3,h4,fun r hr c hc=>?_⟩
 have hc:c<K:=hc
 have hr:r<R:=hr
 have e:=IV hl hr hc
 obtain⟨h0,k | ⟨k1,k2,k3,d,k4,k5,k6⟩ | ⟨k1,k2,k3,d,k4,k5⟩⟩:=h.each _ _ e
 ·exact⟨h0,.inl k⟩
 ·have hn:c+1<K:=by
   rcases Nat.lt_or_ge (c+1) K with a | a
   ·exact a
   ·exfalso
    apply k3
    have:c+1=K:=by omega
    rw [Nat.add_assoc,this, <- Nat.succ_mul]
    exact Nat.mul_mod_left _ _
  have e':=IV hl hr hn
  rw [<- Nat.add_assoc,k4] at e'
  have e':=Option.some.inj e'
  exact⟨h0,.inr (.inl ⟨k1,k2,hn,by rw [<- e'];exact k5,by rw [<- e'];exact k6⟩)⟩
 ·rw [Nf hc] at k3
  have hn:c-1<K:=by omega
  have e':=IV hl hr hn
  rw [show r*K+(c-1)=r*K+c-1 from by omega,k4] at e'
  have e':=Option.some.inj e'
  exact⟨h0,.inr (.inr ⟨k1,k2,by omega,by rw [<- e'];exact k5⟩)⟩
theorem Nh {R K i:Nat} (hi:i<R*K) (hw:(i+1)%K≠0):i+2<=R*K:=by
 rcases Nat.lt_or_ge (i+1) (R*K) with a | a
 ·omega
 ·exfalso
  apply hw
  have:i+1=R*K:=by omega
  rw [this]
  exact Nat.mul_mod_left _ _
def text (f:Nat->Cl) (n:Nat):List Int:=U.enc (runes f n)
end Go.Proofs.YtoaabebgmdbjeaaDoor.PG
namespace Go.Proofs.YtoaabebgmdbjeaaDoor.PG
theorem Ky {x:Int} (h0:11904<=x) (h1:x<=42191):C.width x=2:=by
 rw [C.Hf]
 unfold C.Es
 rw [if_neg (show¬C.narrow x from by unfold C.narrow;omega)]
 unfold C.Iz
 rw [C.Ag (by omega),C.Bj (by omega)]
theorem I5 {x:Int} (h0:32<=x) (h1:x<=126):C.width x=1:=by
 rw [C.Hf]
 unfold C.Es
 rw [if_neg (show¬C.narrow x from by unfold C.narrow;omega)]
 unfold C.Iz
 rw [C.Ag (by omega),C.Ag (by omega),C.Ag (by omega),C.Ag (by omega),C.Ag (by omega),C.Ag (by omega),C.Ag (by omega),C.Ag (by omega),C.Ag (by omega)]
 rfl
def pick (l:List Int) (i:Nat):Int:=if l= [] then 0 else l.getD (i%l.length) 0
def DK (v:Int):Pn:=(C.CB v,C.CB (v.tdiv 16),v.tdiv 64%256)
theorem GA (v:Int):Et (DK v):=C.FQ.2 ⟨C.Db _,C.Db _,by show 0<=v.tdiv 64%256;omega,by show v.tdiv 64%256<=255;omega⟩
def CR (rs ps:List Int) (w:Nat) (l:List Cl):List Cl:=
 if (pick rs l.length).tmod 5=4/\(l.length+1)%w≠0 then l++ [(19968+(pick rs l.length).tmod 9,1,DK (pick ps (l.length / 3))),(0,2,DK (pick ps (l.length / 3)))]
 else l++ [(97+pick rs l.length%10,0,DK (pick ps (l.length / 3)))]
theorem I6 {n:Int} (h:n.tmod 5=4):0<=n:=by
 rcases Int.lt_or_le n 0 with a | a
 ·exfalso
  have h1:=Int.neg_tmod n 5
  rw [h] at h1
  have h2:=Int.tmod_nonneg (5:Int) (show(0:Int)<= -n by omega)
  omega
 ·exact a
theorem D6 (rs ps:List Int) {R w:Nat} {l:List Cl} (h:Ok w l) (hl:l.length<R*w):Ok w (CR rs ps w l)/\l.length<(CR rs ps w l).length/\(CR rs ps w l).length<=R*w:=by
 unfold CR
 by_cases hc:(pick rs l.length).tmod 5=4/\(l.length+1)%w≠0
 ·rw [if_pos hc]
  have h0:=I6 hc.1
  have h1:=Int.tmod_nonneg (9:Int) h0
  have h2:=Int.tmod_lt_of_pos (pick rs l.length) (b:=9) (by omega)
  refine⟨ok_two h (Ky (by omega) (by omega)) (GA _) hc.2,by simp,?_⟩
  have:=Nh hl hc.2
  simpa using this
 ·rw [if_neg hc]
  exact⟨ok_one h (I5 (by omega) (by omega)) (GA _),by simp,by simp;omega⟩
def CX (rs ps:List Int) (w total:Nat):Nat->List Cl->List Cl
 | 0,l=>l
 | k+1,l=>if l.length<total then CX rs ps w total k (CR rs ps w l) else l
theorem Kz (rs ps:List Int) {R w:Nat}: ∀k l,Ok w l->l.length<=R*w->R*w-l.length<=k->Ok w (CX rs ps w (R*w) k l)/\(CX rs ps w (R*w) k l).length=R*w:=by
 intro k
 induction k with
 | zero=>intro l h hl hk;exact⟨h,by show l.length=_;omega⟩
 | succ k ih=>
  intro l h hl hk
  unfold CX
  by_cases hc:l.length<R*w
  ·rw [if_pos hc]
   obtain⟨a,b,c⟩:=D6 rs ps h hc
   exact ih _ a c (by omega)
  ·rw [if_neg hc]
   exact⟨h,by omega⟩
def Bb (rs ps:List Int) (R w:Nat):List Cl:=CX rs ps w (R*w) (R*w) []
theorem Cv (rs ps:List Int) (R w:Nat):Ok w (Bb rs ps R w)/\(Bb rs ps R w).length=R*w:=Kz rs ps _ _ (MG w) (by simp) (by simp)
theorem I7 (rs ps:List Int) {R w k:Nat} {l:List Cl} (h:Ok w l) (hl:l.length<R*w) (hk:R*w-l.length<=k):CX rs ps w (R*w) k l=CX rs ps w (R*w) k (CR rs ps w l):=by
 induction k generalizing l with
 | zero=>omega
 | succ k ih=>
  obtain⟨a,b,c⟩:=D6 rs ps h hl
  conv=>lhs;unfold CX
  rw [if_pos hl]
  rcases Nat.lt_or_ge (CR rs ps w l).length (R*w) with d | d
  ·rw [ih a d (by omega)]
   conv=>rhs;unfold CX
   rw [if_pos d]
  ·conv=>rhs;unfold CX
   rw [if_neg (by omega)]
   cases k with
   | zero=>rfl
   | succ k=>unfold CX;rw [if_neg (by omega)]
theorem I8 (rs ps:List Int) {w total k:Nat} {l:List Cl} (hl:total<=l.length):CX rs ps w total k l=l:=by
 cases k with
 | zero=>rfl
 | succ k=>unfold CX;rw [if_neg (by omega)]
theorem Ei (rs ps:List Int) {R w:Nat} (h1:1<=R) (h2:R<=40) (h3:1<=w) (h4:w<=60):D5 (ofL R w (Bb rs ps R w)):=Ng (Cv rs ps R w).1 (Cv rs ps R w).2 h1 h2 h3 h4
theorem Jv (rs ps:List Int) (R w:Nat):cells (ofL R w (Bb rs ps R w))=Bb rs ps R w:=Kw (Cv rs ps R w).2
end Go.Proofs.YtoaabebgmdbjeaaDoor.PG
namespace Go.Proofs.YtoaabebgmdbjeaaDoor.TB
def Ok (t:Nat):Prop:=t<18446744073709551616
def Jw (t c:Nat):Nat:=t||| 2 ^ c
theorem MH {c:Nat} (h:c<64):2 ^ c<18446744073709551616:=by
 have:2 ^ c<=2 ^ 63:=Nat.pow_le_pow_right (by omega) (by omega)
 have e:(2:Nat) ^ 63=9223372036854775808:=by decide
 omega
theorem Ni {t c:Nat} (h:Ok t) (hc:c<64):Ok (Jw t c):=by
 have e:(18446744073709551616:Nat)=2 ^ 64:=by decide
 unfold Ok Jw at*
 rw [e] at h⊢
 exact Nat.or_lt_two_pow h (by rw [<- e];exact MH hc)
theorem MI (t c i:Nat):(Jw t c).testBit i=(t.testBit i||decide (c=i)):=by
 unfold Jw
 rw [Nat.testBit_or,Nat.testBit_two_pow]
theorem I9 {t i:Nat} (h:Ok t) (hi:64<=i):t.testBit i=false:=Nat.testBit_lt_two_pow (Nat.lt_of_lt_of_le h (by
 have:(2:Nat) ^ 64<=2 ^ i:=Nat.pow_le_pow_right (by omega) hi
 have e:(2:Nat) ^ 64=18446744073709551616:=by decide
 omega))
theorem ext {a b:Nat} (ha:Ok a) (hb:Ok b) (h: ∀i,i<64->a.testBit i=b.testBit i):a=b:=Nat.eq_of_testBit_eq fun i=>by
 by_cases hi:i<64
 ·exact h i hi
 ·rw [I9 ha (by omega),I9 hb (by omega)]
def col (x:Int):Prop:=0<=x/\x<64
instance (x:Int):Decidable (col x):=inferInstanceAs (Decidable (_/\_))
def next (t c k:Nat):Nat:=(((List.range k).filter fun i=>decide (c<i)&&t.testBit i).head?).getD (k-1)
def IX (n:Nat):Nat->Nat
 | 0=>0
 | k+1=>if 8*(k+1)<n then Jw (IX n k) (8*(k+1)) else IX n k
def news (n:Nat):Nat:=IX n 7
theorem IY (n:Nat): ∀k,k<=7->Ok (IX n k)
 | 0,_=>by unfold IX Ok;omega
 | k+1,h=>by
  unfold IX
  split
  ·exact Ni (IY n k (by omega)) (by omega)
  ·exact IY n k (by omega)
theorem GD (n i:Nat): ∀k,(IX n k).testBit i=decide (i%8=0/\0<i/\i<=8*k/\i<n)
 | 0=>by
  unfold IX
  rw [Nat.zero_testBit,decide_eq_false (by omega)]
 | k+1=>by
  unfold IX
  by_cases h:8*(k+1)<n
  ·rw [if_pos h,MI,GD n i k]
   by_cases e:8*(k+1)=i
   ·rw [decide_eq_true e,Bool.or_true,decide_eq_true (by omega)]
   ·rw [decide_eq_false e,Bool.or_false]
    by_cases c:i%8=0/\0<i/\i<=8*k/\i<n
    ·rw [decide_eq_true c,decide_eq_true (by omega)]
    ·rw [decide_eq_false c,decide_eq_false (by omega)]
  ·rw [if_neg h,GD n i k]
   by_cases c:i%8=0/\0<i/\i<=8*k/\i<n
   ·rw [decide_eq_true c,decide_eq_true (by omega)]
   ·rw [decide_eq_false c,decide_eq_false (by omega)]
theorem Nj (n:Nat):Ok (news n):=IY n 7 (by omega)
theorem MJ {n i:Nat} (hi:i<64):(news n).testBit i=decide (i%8=0/\0<i/\i<n):=by
 unfold news
 rw [GD]
 by_cases c:i%8=0/\0<i/\i<n
 ·rw [decide_eq_true c,decide_eq_true (by omega)]
 ·rw [decide_eq_false c,decide_eq_false (by omega)]
theorem Nk {n t:Nat} (h:Ok t) (hb: ∀i,i<64->t.testBit i=decide (i%8=0/\0<i/\i<n)):t=news n:=ext h (Nj n) fun i hi=>by rw [hb i hi,MJ hi]
end Go.Proofs.YtoaabebgmdbjeaaDoor.TB
namespace Go.Proofs.YtoaabebgmdbjeaaDoor.TB
def Gt (c:Int):Nat:=if col c then 2 ^ c.toNat else 0
def Bt (c:Int):Nat:=2 ^ min c.toNat 64-1
theorem Ho (c:Int):Ok (Bt c):=by
 have h:2 ^ min c.toNat 64<=2 ^ 64:=Nat.pow_le_pow_right (by omega) (by omega)
 have e:(2:Nat) ^ 64=18446744073709551616:=by decide
 have p:0<2 ^ min c.toNat 64:=Nat.two_pow_pos _
 unfold Ok Bt
 omega
theorem Jy (c:Int) (i:Nat) (hi:i<64):(Bt c).testBit i=decide ((i:Int)<c):=by
 unfold Bt
 rw [Nat.testBit_two_pow_sub_one]
 by_cases e:(i:Int)<c
 ·rw [decide_eq_true e,decide_eq_true (by omega)]
 ·rw [decide_eq_false e,decide_eq_false (by omega)]
theorem K4 {c:Int} (h:0<=c):((Bt c:Nat):Int)=((Gt c:Nat):Int)-1\/(Gt c=0/\Bt c=18446744073709551615):=by
 unfold Bt Gt
 by_cases hc:col c
 ·left
  rw [if_pos hc]
  unfold col at hc
  rw [show min c.toNat 64=c.toNat by omega]
  have p:0<2 ^ c.toNat:=Nat.two_pow_pos _
  omega
 ·right
  rw [if_neg hc]
  unfold col at hc
  rw [show min c.toNat 64=64 by omega]
  exact⟨rfl,by decide⟩
theorem Ot {a b:Nat} (ha:Ok a):Ok (a&&& b):=Nat.lt_of_le_of_lt Nat.and_le_left ha
theorem MK {n:Int} (hn:0<=n):72340172838076672&&& Bt n=news n.toNat:=Nk (Ot (by unfold Ok;omega)) fun i hi=>by
 rw [Nat.testBit_and,Jy n i hi]
 have h: ∀j,j<64->(72340172838076672:Nat).testBit j=decide (j%8=0/\0<j):=by decide
 rw [h i hi]
 by_cases c:i%8=0/\0<i
 ·rw [decide_eq_true c,Bool.true_and]
  by_cases e:(i:Int)<n
  ·rw [decide_eq_true e,decide_eq_true (by omega)]
  ·rw [decide_eq_false e,decide_eq_false (by omega)]
 ·rw [decide_eq_false c,Bool.false_and,decide_eq_false (by omega)]
end Go.Proofs.YtoaabebgmdbjeaaDoor.TB
namespace Go.Proofs.YtoaabebgmdbjeaaDoor
namespace SN
structure Sv where
 row:Nat
 col:Nat
 pen:PG.Pn
 s0:Int
 s1:Int
 sh:Int
 org:Bool
structure Sc where
 g:PG.Gr
 row:Nat
 col:Nat
 pend:Bool
 top:Nat
 bot:Nat
 pen:PG.Pn
 tabs:Nat
 s0:Int
 s1:Int
 sh:Int
 wrap:Bool
 org:Bool
 shown:Bool
 keys:Bool
 pad:Bool
 sv:Sv
def ML (x y h:Int):Prop:=(x=66\/x=48)/\(y=66\/y=48)/\(h=0\/h=1)
structure Nl (R K:Nat) (s:Sv):Prop where
 row:s.row<R
 col:s.col<K
 pen:PG.Et s.pen
 set:ML s.s0 s.s1 s.sh
structure Jz (s:Sc):Prop where
 g:PG.D5 s.g
 row:s.row<s.g.rows
 col:s.col<s.g.AO
 bot:s.bot<s.g.rows
 top:s.top<s.bot\/(s.g.rows=1/\s.top=0/\s.bot=0)
 pen:PG.Et s.pen
 tabs:TB.Ok s.tabs
 set:ML s.s0 s.s1 s.sh
 pend:s.pend=true->s.wrap=true/\s.col+1=s.g.AO
 sv:Nl s.g.rows s.g.AO s.sv
def full (R K:Nat):Sc:=⟨PG.newG R K PG.plain,0,0,false,0,R-1,PG.plain,TB.news K,66,66,0,true,false,true,false,false,⟨0,0,PG.plain,66,66,0,false⟩⟩
def MN (a b:Sc):Prop:=PG.Alike a.g b.g/\{a with g:=b.g}=b
theorem MN.refl (a:Sc):MN a a:=⟨PG.Alike.refl _,rfl⟩
def fl (f:Int) (k:Nat):Bool:=f / 2 ^ k%2==1
structure Ks where
 row:Int
 col:Int
 top:Int
 bot:Int
 fl:Int
 p0:Int
 p1:Int
 p2:Int
 tabs:Nat
def CO (R:Nat) (t:Int):Nat:=if 1<R then (t%(R-1)).toNat else 0
def Dc (R:Nat) (t b:Int):Nat:=if 1<R then CO R t+1+(b%(R-1-CO R t)).toNat else R-1
def JA (g:PG.Gr) (k:Ks):Sc where
 g:=g
 row:=(k.row%g.rows).toNat
 col:=(k.col%g.AO).toNat
 pend:= !fl k.fl 0&&decide ((k.col%g.AO).toNat+1=g.AO)&&fl k.fl 5
 top:=CO g.rows k.top
 bot:=Dc g.rows k.top k.bot
 pen:=(C.CB k.p0,C.CB k.p1,k.p2%256)
 tabs:=k.tabs
 s0:=if fl k.fl 6=true then 48 else 66
 s1:=66
 sh:=if fl k.fl 7=true then 1 else 0
 wrap:= !fl k.fl 0
 org:=fl k.fl 1
 shown:= !fl k.fl 2
 keys:=fl k.fl 3
 pad:=fl k.fl 4
 sv:=⟨(k.col%g.rows).toNat,(k.row%g.AO).toNat,(C.CB k.fl,C.CB 0,0),66,48,0,fl k.fl 8⟩
theorem IZ {R:Nat} (h:1<R) (t:Int):CO R t<R-1/\CO R t=(t%((R:Int)-1)).toNat:=by
 have h0:=Int.emod_nonneg t (b:=(R:Int)-1) (by omega)
 have h1:=Int.emod_lt_of_pos t (b:=(R:Int)-1) (by omega)
 have e:CO R t=(t%((R:Int)-1)).toNat:=if_pos h
 exact⟨by omega,e⟩
theorem J2 {R:Nat} (h:1<R) (t b:Int):CO R t<Dc R t b/\Dc R t b<R:=by
 have ht:=(IZ h t).1
 have e:Dc R t b=CO R t+1+(b%((R:Int)-1-CO R t)).toNat:=if_pos h
 have h0:=Int.emod_nonneg b (b:=(R:Int)-1-CO R t) (by omega)
 have h1:=Int.emod_lt_of_pos b (b:=(R:Int)-1-CO R t) (by omega)
 omega
theorem J3 {g:PG.Gr} (h:PG.D5 g) (k:Ks) (ht:TB.Ok k.tabs):Jz (JA g k) where
 g:=h
 row:=by
  show(k.row%(g.rows:Int)).toNat<g.rows
  have:=h.1
  have h0:=Int.emod_nonneg k.row (b:=(g.rows:Int)) (by omega)
  have h1:=Int.emod_lt_of_pos k.row (b:=(g.rows:Int)) (by omega)
  omega
 col:=by
  show(k.col%(g.AO:Int)).toNat<g.AO
  have:=h.2.2.1
  have h0:=Int.emod_nonneg k.col (b:=(g.AO:Int)) (by omega)
  have h1:=Int.emod_lt_of_pos k.col (b:=(g.AO:Int)) (by omega)
  omega
 bot:=by
  show Dc g.rows k.top k.bot<g.rows
  have:=h.1
  by_cases h1:1<g.rows
  ·exact(J2 h1 _ _).2
  ·have e:Dc g.rows k.top k.bot=g.rows-1:=if_neg h1
   omega
 top:=by
  show CO g.rows k.top<Dc g.rows k.top k.bot\/(g.rows=1/\CO g.rows k.top=0/\Dc g.rows k.top k.bot=0)
  have:=h.1
  by_cases h1:1<g.rows
  ·exact .inl (J2 h1 _ _).1
  ·have e:Dc g.rows k.top k.bot=g.rows-1:=if_neg h1
   have e':CO g.rows k.top=0:=if_neg h1
   omega
 pen:=C.FQ.2 ⟨C.Db _,C.Db _,by show 0<=k.p2%256;omega,by show k.p2%256<=255;omega⟩
 tabs:=ht
 set:=by
  show ML (if fl k.fl 6=true then 48 else 66) 66 (if fl k.fl 7=true then 1 else 0)
  refine⟨?_,.inl rfl,?_⟩<;>split<;>simp
 pend:=by
  show(!fl k.fl 0&&decide ((k.col%(g.AO:Int)).toNat+1=g.AO)&&fl k.fl 5)=true->(!fl k.fl 0)=true/\(k.col%(g.AO:Int)).toNat+1=g.AO
  intro e
  simp only [Bool.and_eq_true,decide_eq_true_eq] at e
  exact e.1
 sv:=by
  have i1:=h.1
  have i2:=h.2.2.1
  have hp:PG.Et (C.CB k.fl,C.CB 0,0):=C.FQ.2 ⟨C.Db k.fl,C.Db 0,by show(0:Int)<=0;omega,by show(0:Int)<=255;omega⟩
  refine⟨?_,?_,hp,⟨.inl rfl,.inr rfl,.inl rfl⟩⟩
  ·show(k.col%(g.rows:Int)).toNat<g.rows
   have h0:=Int.emod_nonneg k.col (b:=(g.rows:Int)) (by omega)
   have h1:=Int.emod_lt_of_pos k.col (b:=(g.rows:Int)) (by omega)
   omega
  ·show(k.row%(g.AO:Int)).toNat<g.AO
   have h0:=Int.emod_nonneg k.row (b:=(g.AO:Int)) (by omega)
   have h1:=Int.emod_lt_of_pos k.row (b:=(g.AO:Int)) (by omega)
   omega
end SN
end Go.Proofs.YtoaabebgmdbjeaaDoor
namespace Go.Proofs.YtoaabebgmdbjeaaDoor
open SN
theorem Nn (x:Int) (i:Nat) (hi:i<=61):((x%((2 ^ 64:Nat):Int)).toNat.testBit i)=fl x i:=by
 have e:=Cw x (i+1) 64 (by omega)
 generalize (x%((2 ^ 64:Nat):Int)).toNat=n at*
 have h1:n.testBit i=(n%2 ^ (i+1)).testBit i:=by rw [Nat.testBit_mod_two_pow];simp
 have h2:fl x i=(x%((2 ^ (i+1):Nat):Int) / ((2 ^ i:Nat):Int)==1):=by
  have hp:(0:Int)<((2 ^ i:Nat):Int):=by exact_mod_cast Nat.two_pow_pos i
  have hs:((2 ^ (i+1):Nat):Int)=((2 ^ i:Nat):Int)*2:=by rw [Nat.pow_succ];exact Int.natCast_mul _ _
  unfold fl
  rw [show(2:Int) ^ i=((2 ^ i:Nat):Int) by simp,hs]
  generalize ((2 ^ i:Nat):Int)=q at hp
  rw [Int.emod_def x,Int.mul_assoc,Int.sub_mul_ediv_left _ _ (by omega), <- Int.ediv_ediv_of_nonneg (by omega),Int.emod_def (x / q)]
 have hz:((n%2 ^ (i+1) / 2 ^ i:Nat):Int)=x%((2 ^ (i+1):Nat):Int) / ((2 ^ i:Nat):Int):=by rw [<- e];exact Int.natCast_ediv _ _
 rw [h1,h2, <- hz,Nat.testBit_eq_decide_div_mod_eq]
 have hl:n%2 ^ (i+1) / 2 ^ i<2:=by
  have:=Nat.mod_lt n (Nat.two_pow_pos (i+1))
  rw [Nat.div_lt_iff_lt_mul (Nat.two_pow_pos i)]
  rw [Nat.pow_succ] at this⊢
  omega
 generalize n%2 ^ (i+1) / 2 ^ i=k at hl
 obtain rfl | rfl:k=0\/k=1:=by omega
 ·rfl
 ·rfl
theorem JB (n i:Nat):n&&& 2 ^ i=if n.testBit i=true then 2 ^ i else 0:=by
 apply Nat.eq_of_testBit_eq
 intro j
 rw [Nat.testBit_and,Nat.testBit_two_pow]
 by_cases h:i=j
 ·subst h
  cases n.testBit i<;>simp
 ·rw [decide_eq_false h,Bool.and_false]
  split
  ·rw [Nat.testBit_two_pow,decide_eq_false h]
  ·simp
theorem Kc (x:Int) (i:Nat) (hi:i<=61):bits .and .i64 x ((2 ^ i:Nat):Int)=if fl x i=true then ((2 ^ i:Nat):Int) else 0:=by
 have hp:2 ^ i<=2 ^ 61:=Nat.pow_le_pow_right (by omega) hi
 have hq:0<2 ^ i:=Nat.two_pow_pos i
 show IntKind.i64.wrap ((BitVec.ofInt 64 x&&& BitVec.ofInt 64 ((2 ^ i:Nat):Int)).toNat:Int)=_
 rw [BitVec.toNat_and,BitVec.toNat_ofInt,BitVec.ofInt_natCast,BitVec.toNat_ofNat,Nat.mod_eq_of_lt (a:=2 ^ i) (by omega),JB,Nn x i hi,IntKind.wrap_i64]
 cases fl x i
 ·rw [if_neg (by simp),if_neg (by simp)]
  omega
 ·rw [if_pos rfl,if_pos rfl]
  omega
theorem GH (x:Int) (i:Nat) (p:Int) (b:Bool) (hi:i<=61) (hp:((2 ^ i:Nat):Int)=p) (hb:fl x i=b):(bits .and .i64 x p==p)=b:=by
 subst hp hb
 have hq:0<2 ^ i:=Nat.two_pow_pos i
 have h0:((2 ^ i:Nat):Int)≠0:=by omega
 rw [Kc x i hi]
 generalize ((2 ^ i:Nat):Int)=q at h0
 cases fl x i
 ·rw [if_neg (by simp)]
  exact beq_eq_false_iff_ne.2 (Ne.symm h0)
 ·rw [if_pos rfl]
  exact beq_iff_eq.2 rfl
theorem MO (x:Int) (i:Nat) (p:Int) (b:Bool) (hi:i<=61) (hp:((2 ^ i:Nat):Int)=p) (hb:fl x i= !b):(bits .and .i64 x p==0)=b:=by
 subst hp
 have hq:0<2 ^ i:=Nat.two_pow_pos i
 have h0:((2 ^ i:Nat):Int)≠0:=by omega
 rw [Kc x i hi,hb]
 generalize ((2 ^ i:Nat):Int)=q at h0
 cases b
 ·rw [if_pos (by rfl)]
  exact beq_eq_false_iff_ne.2 h0
 ·rw [if_neg (by simp)]
  rfl
end Go.Proofs.YtoaabebgmdbjeaaDoor
