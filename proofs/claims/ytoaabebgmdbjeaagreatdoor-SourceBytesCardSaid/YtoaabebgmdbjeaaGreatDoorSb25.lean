/- A part of the proof: RefParse, Equal, SeqSame, StrCut, RefSmall, RefNext, RefRc. -/
import Derived.Test.YtoaabebgmdbjeaaGreatDoorSb24
import Derived.Test.YtoaabebgmdbjeaaGreatDoorSb23
set_option maxRecDepth 100000
set_option maxHeartbeats 16000000
set_option linter.unusedVariables false
namespace Go.Proofs.YtoaabebgmdbjeaaGreatDoor.PA
def ex (c:Int):Ev:=⟨2,0,0,0,c, [], []⟩
def E (s:S) (l:List Int):List Ev:=(feed s l).2
theorem Ht (s:S) (b:Int) (l:List Int):E s (b::l)=(take s b).2++E (take s b).1 l:=rfl
theorem EU {s t:S} {b:Int} {es:List Ev} (h:take s b=(t,es)) (l:List Int):E s (b::l)=es++E t l:=by rw [Ht,h]
def nx:List Int->List Ev × List Int × Option Int
 | [] =>([], [],none)
 | c::l=>if c=24\/c=26 then ([],l,none) else if c=27\/128<=c then ([],c::l,none) else if c=127 then nx l
   else if c<32 then (ex c::(nx l).1,(nx l).2) else ([],l,some c)
theorem Cr: ∀l,(nx l).2.1<:+l
 | [] =>List.suffix_refl _
 | c::l=>by
  have ih:=Cr l
  unfold nx
  repeat' split
  all_goals first | exact List.suffix_cons _ _ | exact List.suffix_refl _ | exact ih.trans (List.suffix_cons _ _)
theorem F7: ∀l c,(nx l).2.2=some c->(nx l).2.1.length<l.length
 | [],c,h=>by cases h
 | d::l,c,h=>by
  have ih:=F7 l c
  unfold nx at h⊢
  by_cases h1:d=24\/d=26
  ·rw [if_pos h1] at h
   cases h
  rw [if_neg h1] at h⊢
  by_cases h2:d=27\/128<=d
  ·rw [if_pos h2] at h
   cases h
  rw [if_neg h2] at h⊢
  by_cases h3:d=127
  ·rw [if_pos h3] at h⊢
   exact Nat.lt_succ_of_lt (ih h)
  rw [if_neg h3] at h⊢
  by_cases h4:d<32
  ·rw [if_pos h4] at h⊢
   exact Nat.lt_succ_of_lt (ih h)
  ·rw [if_neg h4]
   exact Nat.lt_succ_self _
structure Sq (s:S):Prop where
 z:s.dec=U.z
 lo:2<=s.st
 hi:s.st<=8
 rX:clr s=s
theorem Sq.form {s:S} (h:Sq s):s=⟨s.st,U.z,s.d⟩:=by
 obtain⟨st,dec,d⟩:=s
 have:=h.z
 simp only at this
 rw [this]
theorem O9 (st:Int) (h0:2<=st) (h1:st<=8):(act st 24=0/\nxt st 24=1)/\(act st 26=0/\nxt st 26=1)/\(act st 27=0/\nxt st 27=2)/\(act st 127=0/\nxt st 127=st):=
 pX (p:=fun st=>2<=st->st<=8->(act st 24=0/\nxt st 24=1)/\(act st 26=0/\nxt st 26=1)/\(act st 27=0/\nxt st 27=2)/\(act st 127=0/\nxt st 127=st)) (by decide+kernel) st (by omega) (by omega) h0 h1
theorem aS (st b:Int) (h0:2<=st) (h1:st<=8) (b0:0<=b) (b1:b<256):((b<32/\b≠24/\b≠26/\b≠27)->act st b=32/\nxt st b=st)/\(128<=b->act st b=48/\nxt st b=1):=
 KM (p:=fun st b=>(2<=st/\st<=8)->((b<32/\b≠24/\b≠26/\b≠27)->act st b=32/\nxt st b=st)/\(128<=b->act st b=48/\nxt st b=1)) (by decide+kernel) st b (by omega) (by omega) b0 b1 ⟨h0,h1⟩
theorem aT {s:S} (h:Sq s):take s 24=(s0, [])/\take s 26=(s0, []):=by
 have t:=O9 s.st h.lo h.hi
 rw [h.form]
 exact⟨Bq s.d t.1.1 t.1.2 (by decide),Bq s.d t.2.1.1 t.2.1.2 (by decide)⟩
def Iw:S:=⟨2,U.z,d0⟩
theorem nk {s:S} (h:Sq s):take s 27=(Iw, []):=by
 have t:=O9 s.st h.lo h.hi
 rw [h.form]
 exact Bq s.d t.2.2.1.1 t.2.2.1.2 (by decide)
theorem PD:take s0 27=(Iw, []):=by kernel_rfl
theorem nu {s:S} (h:Sq s):take s 127=(s, []):=by
 have t:=O9 s.st h.lo h.hi
 have e:take ⟨s.st,U.z,s.d⟩ 127=(clr ⟨s.st,U.z,s.d⟩, []):=Bq s.d t.2.2.2.1 t.2.2.2.2 (by decide)
 rw [<- h.form] at e
 rw [e,h.rX]
theorem ny {s:S} (h:Sq s) {b:Int} (b0:0<=b) (b1:b<32) (h4:b≠24) (h6:b≠26) (h7:b≠27):take s b=(s, [ex b]):=by
 have t:=(aS s.st b h.lo h.hi b0 (by omega)).1 ⟨b1,h4,h6,h7⟩
 have e:take ⟨s.st,U.z,s.d⟩ b=(clr ⟨s.st,U.z,s.d⟩, [ex b]):=Bq s.d t.1 t.2 (by decide)
 rw [<- h.form] at e
 rw [e,h.rX]
theorem jZ {s:S} (h:Sq s) {b:Int} (b0:128<=b) (b1:b<256):take s b=take s0 b:=by
 have t:=(aS s.st b h.lo h.hi (by omega) b1).2 b0
 rw [h.form,Nr U.z b0 b1 |> (show take s0 b=_ from ·)]
 exact Bq s.d t.1 t.2 (by decide)
theorem Qz {s:S} (h:Sq s): ∀l,(∀x∈l,0<=x/\x<256)->((nx l).2.2=none->E s l=(nx l).1++E s0 (nx l).2.1)/\ ∀c,(nx l).2.2=some c->E s l=(nx l).1++E s (c::(nx l).2.1)/\32<=c/\c<127
 | [],_=>⟨fun _=>rfl,fun c e=>by cases e⟩
 | b::l,hb=>by
  have ih:=Qz h l (fun x hx=>hb x (by simp [hx]))
  have hb0:=hb b (by simp)
  unfold nx
  by_cases h1:b=24\/b=26
  ·rw [if_pos h1]
   refine⟨fun _=>?_,fun c e=>by cases e⟩
   rcases h1 with rfl | rfl
   ·exact EU (aT h).1 l
   ·exact EU (aT h).2 l
  rw [if_neg h1]
  by_cases h2:b=27\/128<=b
  ·rw [if_pos h2]
   refine⟨fun _=>?_,fun c e=>by cases e⟩
   rcases h2 with rfl | h2
   ·show E s (27::l)= [] ++E s0 (27::l)
    rw [EU (nk h) l,EU PD l]
    rfl
   ·show E s (b::l)= [] ++E s0 (b::l)
    rw [Ht,Ht,jZ h h2 hb0.2]
    rfl
  rw [if_neg h2]
  by_cases h3:b=127
  ·subst h3
   rw [if_pos rfl,EU (nu h) l]
   exact ih
  rw [if_neg h3]
  by_cases h4:b<32
  ·rw [if_pos h4,EU (ny h hb0.1 h4 (by omega) (by omega) (by omega)) l]
   refine⟨fun e=>?_,fun c e=>?_⟩
   ·rw [ih.1 e]
    rfl
   ·rw [(ih.2 c e).1]
    exact⟨rfl,(ih.2 c e).2⟩
  ·rw [if_neg h4]
   refine⟨fun e=>(by cases e),fun c e=>?_⟩
   cases e
   exact⟨rfl,by omega,by omega⟩
def PE (told:Bool) (n:Nat) (b:List Int):List Ev:=if told=true/\n<=4096 then [⟨5,0,0,0,0, [],b⟩] else []
def tx (told:Bool):List Int->List Int->Nat->List Ev × List Int
 | [],_,_=>([], [])
 | c::l,b,n=>if c=24\/c=26 then ([],l)
   else if c=27 then (if l= [] then ([], []) else if l.head?=some 92 then (PE told n b,l.drop 1) else ([],c::l))
   else if c=7 then (PE told n b,l)
   else if 32<=c then tx told l (if n<4096 then b++ [c] else b) (n+1) else tx told l b n
theorem KX (told:Bool): ∀l b n,(tx told l b n).2<:+l
 | [],_,_=>List.suffix_refl _
 | c::l,b,n=>by
  have ih:=fun b n=>KX told l b n
  unfold tx
  repeat' split
  all_goals first | exact List.suffix_cons _ _ | exact List.suffix_refl _ | exact(List.drop_suffix _ _).trans (List.suffix_cons _ _) | exact List.nil_suffix | exact(ih _ _).trans (List.suffix_cons _ _)
def KY (told:Bool) (b:List Int) (n:Nat):S:=if told=true/\n<=4096 then osc b else oth
theorem jc (t:List Int):take (osc t) 24=(s0, [])/\take (osc t) 26=(s0, []):=⟨by kernel_rfl,by kernel_rfl⟩
theorem jd:take oth 24=(s0, [])/\take oth 26=(s0, []):=⟨by kernel_rfl,by kernel_rfl⟩
theorem je (t:List Int):take (osc t) 7=(s0, [⟨5,0,0,0,0, [],t⟩]):=by kernel_rfl
theorem jf:take oth 7=(s0, []):=by kernel_rfl
def oC (t:List Int):S:=⟨10,U.z,⟨0,0,0, [],t⟩⟩
def oD:S:=⟨12,U.z,d0⟩
theorem PK (t:List Int):take (osc t) 27=(oC t, []):=by kernel_rfl
theorem PO:take oth 27=(oD, []):=by kernel_rfl
theorem aU (t:List Int):take (oC t) 92=(s0, [⟨5,0,0,0,0, [],t⟩]):=by kernel_rfl
theorem aV:take oD 92=(s0, []):=by kernel_rfl
theorem OI (b:Int) (b0:0<=b) (b1:b<256) (h:b≠92):(act 10 b=192/\nxt 10 b=2)/\(act 12 b=192/\nxt 12 b=2):=
 U.Dl (p:=fun b=>b≠92->(act 10 b=192/\nxt 10 b=2)/\(act 12 b=192/\nxt 12 b=2)) (by decide+kernel) b b0 b1 h
theorem again {st:Int} {d:D} {b:Int} (h1:act st b=192) (h2:nxt st b=2) (b0:0<=b) (b1:b<256):take ⟨st,U.z,d⟩ b=take Iw b:=by
 have hb: ∀s:S,s.dec=U.z->brk s b=(s, []):=fun s hs=>by
  unfold brk
  rw [if_neg (fun h=>by have:=h.2;rw [hs] at this;exact absurd this (by decide))]
 have hm:mid ⟨st,U.z,d⟩ b=(act 2 b,⟨nxt 2 b,U.z,d0⟩):=by
  unfold mid
  rw [if_pos h1,h2]
 have hm2:mid Iw b=(act 2 b,⟨nxt 2 b,U.z,d0⟩):=by
  unfold mid Iw
  have:I5 (act 2 b):=by
   have:=Y7 2 b (by omega) (by omega) b0 b1
   rcases this with h | h
   ·exact h
   ·exact(Nl 2 b (by omega) (by omega) b0 b1 h).2
  rw [if_neg (fun h=>by
   have: ∀b:Int,0<=b->b<256->act 2 b≠192:=fun b b0 b1=>U.Dl (p:=fun b=>act 2 b≠192) (by decide+kernel) b b0 b1
   exact this b b0 b1 h)]
 unfold take
 rw [hb _ rfl,hb Iw rfl]
 simp only []
 rw [hm,hm2]
theorem jg (t:List Int) {b:Int} (b0:0<=b) (b1:b<32) (h4:b≠24) (h6:b≠26) (h7:b≠27) (h5:b≠7):take (osc t) b=(osc t, []):=by
 have h: ∀b:Int,0<=b->b<256->b<32->b≠24->b≠26->b≠27->b≠7->act 9 b=0/\nxt 9 b=9:=fun b b0 b1=>U.Dl (p:=fun b=>b<32->b≠24->b≠26->b≠27->b≠7->act 9 b=0/\nxt 9 b=9) (by decide+kernel) b b0 b1
 have:=h b b0 (by omega) b1 h4 h6 h7 h5
 exact Bq _ this.1 this.2 (by decide)
theorem jh {b:Int} (b0:0<=b) (b1:b<32) (h4:b≠24) (h6:b≠26) (h7:b≠27) (h5:b≠7):take oth b=(oth, []):=by
 have h: ∀b:Int,0<=b->b<256->b<32->b≠24->b≠26->b≠27->b≠7->act 11 b=0/\nxt 11 b=11:=fun b b0 b1=>U.Dl (p:=fun b=>b<32->b≠24->b≠26->b≠27->b≠7->act 11 b=0/\nxt 11 b=11) (by decide+kernel) b b0 b1
 have:=h b b0 (by omega) b1 h4 h6 h7 h5
 exact Bq _ this.1 this.2 (by decide)
theorem aW (told:Bool) (b:List Int) (n:Nat) (hn:told=true->b.length=min n 4096):
  (take (KY told b n) 24=(s0, [])/\take (KY told b n) 26=(s0, []))/\take (KY told b n) 7=(s0,PE told n b)/\
   (∀c,0<=c->c<256->32<=c->take (KY told b n) c=(KY told (if n<4096 then b++ [c] else b) (n+1), []))/\
   (∀c,0<=c->c<32->c≠24->c≠26->c≠27->c≠7->take (KY told b n) c=(KY told b n, []))/\
   (∀l,E (KY told b n) (27::l)=if l= [] then [] else if l.head?=some 92 then PE told n b++E s0 (l.drop 1) else if∀x∈l,0<=x/\x<256 then E s0 (27::l) else E (KY told b n) (27::l)):=by
 unfold KY PE
 by_cases h:told=true/\n<=4096
 ·rw [if_pos h,if_pos h]
  have hl:=hn h.1
  refine⟨jc b,je b,fun c c0 c1 c2=>?_,fun c c0 c1 c4 c6 c7 c5=>jg b c0 c1 c4 c6 c7 c5,fun l=>?_⟩
  ·by_cases h1:n<4096
   ·rw [if_pos ⟨h.1,by omega⟩,if_pos h1]
    exact ZC b c2 c1 (by omega)
   ·rw [if_neg (fun hh=>by omega)]
    exact WG b c2 c1 (by omega)
  ·rcases l with _ | ⟨d,l⟩
   ·rw [if_pos rfl,EU (PK b)]
    rfl
   ·rw [if_neg (by simp)]
    by_cases hd:d=92
    ·subst hd
     rw [if_pos (show(92::l).head?=some 92 from rfl),EU (PK b),EU (aU b)]
     rfl
    ·rw [if_neg (by simpa using hd)]
     by_cases ha: ∀x∈d::l,0<=x/\x<256
     ·rw [if_pos ha]
      have hdb:=ha d (by simp)
      have t:=(OI d hdb.1 hdb.2 hd).1
      rw [EU (PK b),EU PD,Ht,Ht]
      rw [show take (oC b) d=take Iw d from again t.1 t.2 hdb.1 hdb.2]
     ·rw [if_neg ha]
 ·rw [if_neg h,if_neg h]
  refine⟨jd,jf,fun c c0 c1 c2=>?_,fun c c0 c1 c4 c6 c7 c5=>jh c0 c1 c4 c6 c7 c5,fun l=>?_⟩
  ·rw [if_neg (fun hh=>h ⟨hh.1,by omega⟩)]
   exact ZE c2 c1
  ·rcases l with _ | ⟨d,l⟩
   ·rw [if_pos rfl,EU PO]
    rfl
   ·rw [if_neg (by simp)]
    by_cases hd:d=92
    ·subst hd
     rw [if_pos (show(92::l).head?=some 92 from rfl),EU PO,EU aV]
     rfl
    ·rw [if_neg (by simpa using hd)]
     by_cases ha: ∀x∈d::l,0<=x/\x<256
     ·rw [if_pos ha]
      have hdb:=ha d (by simp)
      have t:=(OI d hdb.1 hdb.2 hd).2
      rw [EU PO,EU PD,Ht,Ht]
      rw [show take oD d=take Iw d from again t.1 t.2 hdb.1 hdb.2]
     ·rw [if_neg ha]
theorem U3 (told:Bool): ∀l b n,(told=true->b.length=min n 4096)->(∀x∈l,0<=x/\x<256)->E (KY told b n) l=(tx told l b n).1++E s0 (tx told l b n).2
 | [],b,n,_,_=>rfl
 | c::l,b,n,hn,hb=>by
  have hl: ∀x∈l,0<=x/\x<256:=fun x hx=>hb x (by simp [hx])
  have hc:=hb c (by simp)
  obtain⟨⟨k1,k2⟩,k3,k4,k5,k6⟩:=aW told b n hn
  unfold tx
  by_cases h1:c=24\/c=26
  ·rw [if_pos h1]
   rcases h1 with rfl | rfl
   ·exact EU k1 l
   ·exact EU k2 l
  rw [if_neg h1]
  by_cases h2:c=27
  ·subst h2
   rw [if_pos rfl,k6 l,if_pos hl]
   by_cases h3:l= []
   ·subst h3
    rw [if_pos rfl,if_pos rfl]
    rfl
   rw [if_neg h3,if_neg h3]
   by_cases h4:l.head?=some 92
   ·rw [if_pos h4,if_pos h4]
   ·rw [if_neg h4,if_neg h4]
    rfl
  rw [if_neg h2]
  by_cases h3:c=7
  ·subst h3
   rw [if_pos rfl]
   exact EU k3 l
  rw [if_neg h3]
  by_cases h4:32<=c
  ·rw [if_pos h4,EU (k4 c hc.1 hc.2 h4) l]
   exact U3 told l _ (n+1) (fun ht=>by
    have:=hn ht
    by_cases h5:n<4096
    ·rw [if_pos h5,List.length_append]
     simp
     omega
    ·rw [if_neg h5]
     omega) hl
  ·rw [if_neg h4,EU (k5 c hc.1 (by omega) (by omega) (by omega) h2 h3) l]
   exact U3 told l b n hn hl
def fin (r:RC) (c:Int):List Ev:=if r.right=true/\r.many<2 then [⟨4,0,r.priv,r.inter,c,if 1<r.params.length\/r.params.getD 0 0≠ -1 then r.params.take 16 else [], []⟩] else []
def cs:Nat->RC->List Int->List Ev × List Int
 | 0,_,l=>([],l)
 | f+1,r,l=>match (nx l).2.2 with
  | none=>((nx l).1,(nx l).2.1)
  | some c=>if 64<=c then ((nx l).1++fin r c,(nx l).2.1) else ((nx l).1++(cs f (Cj r c) (nx l).2.1).1,(cs f (Cj r c) (nx l).2.1).2)
theorem OJ: ∀f r l,(cs f r l).2<:+l
 | 0,_,_=>List.suffix_refl _
 | f+1,r,l=>by
  unfold cs
  split
  ·exact Cr l
  ·split
   ·exact Cr l
   ·exact(OJ f _ _).trans (Cr l)
def Par (ps:List Int) (k:Nat) (q:List Int):Prop:=(ps= [-1] /\k=0/\q= [])\/(1<=k/\ps.length=k/\q=ps.take 16/\(k=1->ps≠ [-1]))
theorem Par.start:Par [-1] 0 [] :=.inl ⟨rfl,rfl,rfl⟩
theorem Par.out {ps:List Int} {k:Nat} {q:List Int} (h:Par ps k q):(if 1<ps.length\/ps.getD 0 0≠ -1 then ps.take 16 else [])=q:=by
 rcases h with ⟨rfl,rfl,rfl⟩ | ⟨h1,h2,rfl,h3⟩
 ·rfl
 ·by_cases hk:1<ps.length
  ·rw [if_pos (.inl hk)]
  ·rcases ps with _ | ⟨y,_ | ⟨z,l⟩⟩
   ·simp at h2
    omega
   ·have:=h3 (by simpa using h2.symm)
    rw [if_pos (.inr (fun h=>this (by simp at h;rw [h])))]
   ·simp at hk
theorem Par.semi {ps:List Int} {k:Nat} {q:List Int} {p i:Int} (h:Par ps k q): ∃k' q',D.semi ⟨p,i,k,q, []⟩=⟨p,i,k',q', []⟩/\Par (ps++ [-1]) k' q':=by
 rcases h with ⟨rfl,rfl,rfl⟩ | ⟨h1,h2,rfl,h3⟩
 ·exact⟨2, [-1, -1],rfl,.inr ⟨by omega,rfl,rfl,fun h=>by omega⟩⟩
 ·refine⟨k+1,_,?_,.inr ⟨by omega,by rw [List.length_append,h2];rfl,rfl,fun h=>by omega⟩⟩
  unfold D.semi D.first
  rw [if_neg (by simp;omega)]
  unfold D.begin_
  simp only []
  by_cases hk:k<16
  ·rw [if_pos hk,List.take_of_length_le (by omega),List.take_of_length_le (by rw [List.length_append,h2];simp;omega)]
  ·rw [if_neg hk,List.take_append_of_le_length (by omega)]
theorem kL (x:Int) {n:Int} (h:0<=n):0<=up x n:=by
 unfold up
 repeat' split
 all_goals omega
theorem Par.digit {ps:List Int} {k:Nat} {q:List Int} {p i:Int} {n:Int} (hn:0<=n) (h:Par ps k q): ∃k' q',D.digit ⟨p,i,k,q, []⟩ n=⟨p,i,k',q', []⟩/\Par (ps.set (ps.length-1) (up (ps.getD (ps.length-1) 0) n)) k' q':=by
 rcases h with ⟨rfl,rfl,rfl⟩ | ⟨h1,h2,rfl,h3⟩
 ·refine⟨1, [up (-1) n],rfl,.inr ⟨by omega,rfl,rfl,fun _ h=>?_⟩⟩
  have:=kL (-1) hn
  simp at h
  omega
 ·refine⟨k,_,?_,.inr ⟨h1,by rw [List.length_set];exact h2,rfl,fun hk h=>?_⟩⟩
  ·unfold D.digit D.first
   rw [if_neg (by simp;omega)]
   unfold D.put
   simp only []
   by_cases hk:16<k
   ·rw [if_pos hk,h2,List.take_set,List.set_eq_of_length_le (by rw [List.length_take];omega)]
   ·rw [if_neg hk,h2,List.take_of_length_le (by omega),List.take_of_length_le (by rw [List.length_set];omega)]
  ·subst hk
   rcases ps with _ | ⟨y,_ | ⟨z,l⟩⟩
   ·simp at h2
   ·have:=kL y hn
    simp at h
    omega
   ·simp at h2
def Xk (r:RC) (s:S):Prop:=
 (s=⟨8,U.z,d0⟩/\(r.right=false\/2<=r.many))\/(∃k q,s=⟨7,U.z,⟨r.priv,r.inter,k,q, []⟩⟩/\r.right=true/\r.many=1/\Par r.params k q)\/
 (s=⟨5,U.z,d0⟩/\r=rc0)\/(∃k q,s=⟨6,U.z,⟨r.priv,0,k,q, []⟩⟩/\r.right=true/\r.many=0/\r.first=false/\r.inter=0/\Par r.params k q)
theorem Xk.sq {r:RC} {s:S} (h:Xk r s):Sq s:=by
 rcases h with ⟨rfl,_⟩ | ⟨k,q,rfl,_⟩ | ⟨rfl,_⟩ | ⟨k,q,rfl,_⟩
 ·exact⟨rfl,by show(2:Int)<=8;omega,by show(8:Int)<=8;omega,rfl⟩
 ·exact⟨rfl,by show(2:Int)<=7;omega,by show(7:Int)<=8;omega,rfl⟩
 ·exact⟨rfl,by show(2:Int)<=5;omega,by show(5:Int)<=8;omega,rfl⟩
 ·exact⟨rfl,by show(2:Int)<=6;omega,by show(6:Int)<=8;omega,rfl⟩
theorem Xl (c:Int) (h0:32<=c) (h1:c<64):(act 8 c=0/\nxt 8 c=8)/\(act 7 c=0/\nxt 7 c=8):=
 U.Dl (p:=fun c=>(32<=c/\c<64)->(act 8 c=0/\nxt 8 c=8)/\(act 7 c=0/\nxt 7 c=8)) (by decide+kernel) c (by omega) (by omega) ⟨h0,h1⟩
theorem U4 (c:Int) (h0:32<=c) (h1:c<48):(act 5 c=112/\nxt 5 c=7)/\(act 6 c=112/\nxt 6 c=7):=
 U.Dl (p:=fun c=>(32<=c/\c<48)->(act 5 c=112/\nxt 5 c=7)/\(act 6 c=112/\nxt 6 c=7)) (by decide+kernel) c (by omega) (by omega) ⟨h0,h1⟩
theorem U5 (c:Int) (h0:48<=c) (h1:c<58):(act 5 c=80/\nxt 5 c=6)/\(act 6 c=80/\nxt 6 c=6):=
 U.Dl (p:=fun c=>(48<=c/\c<58)->(act 5 c=80/\nxt 5 c=6)/\(act 6 c=80/\nxt 6 c=6)) (by decide+kernel) c (by omega) (by omega) ⟨h0,h1⟩
theorem Q0 (c:Int) (h0:60<=c) (h1:c<64):(act 5 c=64/\nxt 5 c=6)/\(act 6 c=0/\nxt 6 c=8):=
 U.Dl (p:=fun c=>(60<=c/\c<64)->(act 5 c=64/\nxt 5 c=6)/\(act 6 c=0/\nxt 6 c=8)) (by decide+kernel) c (by omega) (by omega) ⟨h0,h1⟩
theorem ji (c:Int) (h0:64<=c) (h1:c<127):(act 5 c=160/\nxt 5 c=1)/\(act 6 c=160/\nxt 6 c=1)/\(act 7 c=160/\nxt 7 c=1)/\(act 8 c=0/\nxt 8 c=1):=
 U.Dl (p:=fun c=>(64<=c/\c<127)->(act 5 c=160/\nxt 5 c=1)/\(act 6 c=160/\nxt 6 c=1)/\(act 7 c=160/\nxt 7 c=1)/\(act 8 c=0/\nxt 8 c=1)) (by decide+kernel) c (by omega) (by omega) ⟨h0,h1⟩
theorem aX {r:RC} {c:Int} (h:r.right=false\/2<=r.many):(Cj r c).right=false\/2<=(Cj r c).many:=by
 unfold Cj
 split
 ·rcases h with h | h
  ·exact .inl h
  ·exact .inr (by show 2<=r.many+1;omega)
 split
 ·exact .inl rfl
 rename_i hm
 have h:r.right=false:=h.resolve_right (by omega)
 split
 ·exact .inl (by show(r.right&&r.first)=false;rw [h];rfl)
 split
 ·exact .inl h
 ·exact .inl h
theorem Xm {r:RC} {s:S} (h:Xk r s) {c:Int} (h0:32<=c) (h1:c<64): ∃s',take s c=(s', [])/\Xk (Cj r c) s':=by
 have tw:=Xl c h0 h1
 rcases h with ⟨rfl,hw⟩ | ⟨k,q,rfl,hr,hm,hp⟩ | ⟨rfl,rfl⟩ | ⟨k,q,rfl,hr,hm,hf,hi,hp⟩
 ·exact⟨⟨8,U.z,d0⟩,Bq _ tw.1.1 tw.1.2 (by decide),.inl ⟨rfl,aX hw⟩⟩
 ·refine⟨⟨8,U.z,d0⟩,Bq _ tw.2.1 tw.2.2 (by decide),.inl ⟨rfl,?_⟩⟩
  unfold Cj
  by_cases h48:c<48
  ·rw [if_pos h48]
   exact .inr (by show 2<=r.many+1;omega)
  ·rw [if_neg h48,if_pos (.inl (by omega))]
   exact .inl rfl
 ·by_cases h48:c<48
  ·have t:=(U4 c h0 h48).1
   refine⟨⟨7,U.z,⟨0,c,0, [], []⟩⟩,Bq _ t.1 t.2 (by decide),.inr (.inl ⟨0, [],?_⟩)⟩
   unfold Cj
   rw [if_pos h48]
   exact⟨rfl,rfl,rfl,Par.start⟩
  by_cases h58:c<58
  ·have t:=(U5 c (by omega) h58).1
   obtain⟨k',q',e,hp'⟩:=Par.start.digit (p:=0) (i:=0) (n:=c-48) (by omega)
   refine⟨⟨6,U.z,⟨0,0,k',q', []⟩⟩,?_,.inr (.inr (.inr ⟨k',q',?_⟩))⟩
   ·rw [<- e]
    exact Bq _ t.1 t.2 (by decide)
   ·unfold Cj
    rw [if_neg h48,if_neg (by show¬(0<0\/c=58);omega),if_neg (by omega),if_neg (by omega)]
    exact⟨rfl,rfl,rfl,rfl,rfl,hp'⟩
  by_cases oF:c=58
  ·subst oF
   refine⟨⟨8,U.z,d0⟩,by kernel_rfl,.inl ⟨rfl,?_⟩⟩
   unfold Cj
   rw [if_neg h48,if_pos (.inr rfl)]
   exact .inl rfl
  by_cases h59:c=59
  ·subst h59
   refine⟨⟨6,U.z,⟨0,0,2, [-1, -1], []⟩⟩,by kernel_rfl,.inr (.inr (.inr ⟨2, [-1, -1],?_⟩))⟩
   exact⟨rfl,rfl,rfl,rfl,rfl,.inr ⟨by omega,rfl,rfl,fun h=>by omega⟩⟩
  ·have t:=(Q0 c (by omega) h1).1
   refine⟨⟨6,U.z,⟨c,0,0, [], []⟩⟩,Bq _ t.1 t.2 (by decide),.inr (.inr (.inr ⟨0, [],?_⟩))⟩
   unfold Cj
   rw [if_neg h48,if_neg (by show¬(0<0\/c=58);omega),if_pos (by omega)]
   exact⟨rfl,rfl,rfl,rfl,rfl,Par.start⟩
 ·by_cases h48:c<48
  ·have t:=(U4 c h0 h48).2
   refine⟨⟨7,U.z,⟨r.priv,c,k,q, []⟩⟩,Bq _ t.1 t.2 (by decide),.inr (.inl ⟨k,q,?_⟩)⟩
   unfold Cj
   rw [if_pos h48]
   exact⟨rfl,hr,by show r.many+1=1;omega,hp⟩
  by_cases h58:c<58
  ·have t:=(U5 c (by omega) h58).2
   obtain⟨k',q',e,hp'⟩:=hp.digit (p:=r.priv) (i:=0) (n:=c-48) (by omega)
   refine⟨⟨6,U.z,⟨r.priv,0,k',q', []⟩⟩,?_,.inr (.inr (.inr ⟨k',q',?_⟩))⟩
   ·rw [<- e]
    exact Bq _ t.1 t.2 (by decide)
   ·unfold Cj
    rw [if_neg h48,if_neg (by omega),if_neg (by omega),if_neg (by omega)]
    exact⟨rfl,hr,hm,rfl,hi,hp'⟩
  by_cases oF:c=58
  ·subst oF
   have t:act 6 58=0/\nxt 6 58=8:=by decide+kernel
   refine⟨⟨8,U.z,d0⟩,Bq _ t.1 t.2 (by decide),.inl ⟨rfl,?_⟩⟩
   unfold Cj
   rw [if_neg h48,if_pos (.inr rfl)]
   exact .inl rfl
  by_cases h59:c=59
  ·subst h59
   have t:act 6 59=96/\nxt 6 59=6:=by decide+kernel
   obtain⟨k',q',e,hp'⟩:=hp.semi (p:=r.priv) (i:=0)
   refine⟨⟨6,U.z,⟨r.priv,0,k',q', []⟩⟩,?_,.inr (.inr (.inr ⟨k',q',?_⟩))⟩
   ·rw [<- e]
    exact Bq _ t.1 t.2 (by decide)
   ·unfold Cj
    rw [if_neg h48,if_neg (by omega),if_neg (by omega),if_pos rfl]
    exact⟨rfl,hr,hm,rfl,hi,hp'⟩
  ·have t:=(Q0 c (by omega) h1).2
   refine⟨⟨8,U.z,d0⟩,Bq _ t.1 t.2 (by decide),.inl ⟨rfl,?_⟩⟩
   unfold Cj
   rw [if_neg h48,if_neg (by omega),if_pos (by omega)]
   exact .inl (by show(r.right&&r.first)=false;rw [hf,Bool.and_false])
theorem aY {r:RC} {s:S} (h:Xk r s) {c:Int} (h0:64<=c) (h1:c<127):take s c=(s0,fin r c):=by
 obtain⟨t5,t6,t7,t8⟩:=ji c h0 h1
 unfold fin
 rcases h with ⟨rfl,hw⟩ | ⟨k,q,rfl,hr,hm,hp⟩ | ⟨rfl,rfl⟩ | ⟨k,q,rfl,hr,hm,hf,hi,hp⟩
 ·rw [if_neg (fun h=>by rcases hw with hw | hw;(rw [hw] at h;cases h.1);omega)]
  exact Bq _ t8.1 t8.2 (by decide)
 ·rw [if_pos ⟨hr,by omega⟩,hp.out]
  exact Bq _ t7.1 t7.2 (by decide)
 ·rw [if_pos ⟨rfl,by decide⟩]
  exact Bq _ t5.1 t5.2 (by decide)
 ·rw [if_pos ⟨hr,by omega⟩,hp.out,hi]
  exact Bq _ t6.1 t6.2 (by decide)
theorem kM: ∀(f:Nat) (r:RC) (s:S) (l:List Int),Xk r s->l.length<f->(∀x∈l,0<=x/\x<256)->E s l=(cs f r l).1++E s0 (cs f r l).2
 | 0,r,s,l,_,h,_=>by omega
 | f+1,r,s,l,hr,hl,hb=>by
  obtain⟨n1,n2⟩:=Qz hr.sq l hb
  unfold cs
  cases hc:(nx l).2.2 with
  | none=>exact n1 hc
  | some c=>
   obtain⟨e,c0,c1⟩:=n2 c hc
   have hs:=F7 l c hc
   have hb': ∀x∈(nx l).2.1,0<=x/\x<256:=fun x hx=>hb x ((Cr l).subset hx)
   simp only []
   rw [e]
   by_cases h64:64<=c
   ·rw [if_pos h64,EU (aY hr h64 c1)]
    simp
   ·rw [if_neg h64]
    obtain⟨s',e',hr'⟩:=Xm hr c0 (by omega)
    rw [EU e',kM f _ s' _ hr' (by omega) hb']
    simp
def ei:Nat->Int->Nat->Int->List Int->List Ev × List Int
 | 0,_,_,_,l=>([],l)
 | f+1,i,m,c,l=>if c<48 then (match (nx l).2.2 with
   | none=>((nx l).1,(nx l).2.1)
   | some d=>((nx l).1++(ei f c (m+1) d (nx l).2.1).1,(ei f c (m+1) d (nx l).2.1).2))
  else (if m<2 then [⟨3,0,0,i,c, [], []⟩] else [],l)
theorem OL: ∀f i m c l,(ei f i m c l).2<:+l
 | 0,_,_,_,_=>List.suffix_refl _
 | f+1,i,m,c,l=>by
  unfold ei
  split
  ·split
   ·exact Cr l
   ·exact(OL f _ _ _ _).trans (Cr l)
  ·exact List.suffix_refl _
def aZ (m:Nat) (i:Int) (s:S):Prop:=(m=0/\i=0/\s=Iw)\/(m=1/\s=⟨3,U.z,⟨0,i,0, [], []⟩⟩)\/(2<=m/\s=⟨4,U.z,d0⟩)
theorem aZ.sq {m:Nat} {i:Int} {s:S} (h:aZ m i s):Sq s:=by
 rcases h with ⟨_,_,rfl⟩ | ⟨_,rfl⟩ | ⟨_,rfl⟩
 ·exact⟨rfl,by show(2:Int)<=2;omega,by show(2:Int)<=8;omega,rfl⟩
 ·exact⟨rfl,by show(2:Int)<=3;omega,by show(3:Int)<=8;omega,rfl⟩
 ·exact⟨rfl,by show(2:Int)<=4;omega,by show(4:Int)<=8;omega,rfl⟩
theorem ah (c:Int) (h0:32<=c) (h1:c<48):(act 2 c=112/\nxt 2 c=3)/\(act 3 c=0/\nxt 3 c=4)/\(act 4 c=0/\nxt 4 c=4):=
 U.Dl (p:=fun c=>(32<=c/\c<48)->(act 2 c=112/\nxt 2 c=3)/\(act 3 c=0/\nxt 3 c=4)/\(act 4 c=0/\nxt 4 c=4)) (by decide+kernel) c (by omega) (by omega) ⟨h0,h1⟩
theorem aj (c:Int) (h0:48<=c) (h1:c<127):(¬opens c->act 2 c=144/\nxt 2 c=1)/\(act 3 c=144/\nxt 3 c=1)/\(act 4 c=0/\nxt 4 c=1):=
 U.Dl (p:=fun c=>(48<=c/\c<127)->(¬(c=91\/c=93\/c=80\/c=88\/c=94\/c=95)->act 2 c=144/\nxt 2 c=1)/\(act 3 c=144/\nxt 3 c=1)/\(act 4 c=0/\nxt 4 c=1)) (by decide+kernel) c (by omega) (by omega) ⟨h0,h1⟩
theorem kN: ∀(f m:Nat) (i c:Int) (s:S) (l:List Int),aZ m i s->32<=c->c<127->(m=0-> ¬opens c)->l.length<f->(∀x∈l,0<=x/\x<256)->E s (c::l)=(ei f i m c l).1++E s0 (ei f i m c l).2
 | 0,_,_,_,_,l,_,_,_,_,h,_=>by omega
 | f+1,m,i,c,s,l,hr,c0,c1,hno,hl,hb=>by
  unfold ei
  by_cases h48:c<48
  ·rw [if_pos h48]
   have t:=ah c c0 h48
   obtain⟨s',e',hr'⟩: ∃s',take s c=(s', [])/\aZ (m+1) c s':=by
    rcases hr with ⟨rfl,rfl,rfl⟩ | ⟨rfl,rfl⟩ | ⟨hm,rfl⟩
    ·exact⟨⟨3,U.z,⟨0,c,0, [], []⟩⟩,Bq _ t.1.1 t.1.2 (by decide),.inr (.inl ⟨rfl,rfl⟩)⟩
    ·exact⟨⟨4,U.z,d0⟩,Bq _ t.2.1.1 t.2.1.2 (by decide),.inr (.inr ⟨by omega,rfl⟩)⟩
    ·exact⟨⟨4,U.z,d0⟩,Bq _ t.2.2.1 t.2.2.2 (by decide),.inr (.inr ⟨by omega,rfl⟩)⟩
   rw [EU e']
   obtain⟨n1,n2⟩:=Qz hr'.sq l hb
   cases hc:(nx l).2.2 with
   | none=>exact n1 hc
   | some d=>
    obtain⟨e,d0',d1⟩:=n2 d hc
    have hs:=F7 l d hc
    have hb': ∀x∈(nx l).2.1,0<=x/\x<256:=fun x hx=>hb x ((Cr l).subset hx)
    simp only []
    rw [e,kN f (m+1) c d s' _ hr' d0' d1 (fun h=>by omega) (by omega) hb']
    simp
  ·rw [if_neg h48]
   have t:=aj c (by omega) c1
   have e':take s c=(s0,if m<2 then [⟨3,0,0,i,c, [], []⟩] else []):=by
    rcases hr with ⟨rfl,rfl,rfl⟩ | ⟨rfl,rfl⟩ | ⟨hm,rfl⟩
    ·exact Bq _ (t.1 (hno rfl)).1 (t.1 (hno rfl)).2 (by decide)
    ·exact Bq _ t.2.1.1 t.2.1.2 (by decide)
    ·rw [if_neg (by omega)]
     exact Bq _ t.2.2.1 t.2.2.2 (by decide)
   exact EU e' l
def es_ (f:Nat) (l:List Int):List Ev × List Int:=match (nx l).2.2 with
 | none=>((nx l).1,(nx l).2.1)
 | some c=>if c=91 then ((nx l).1++(cs f rc0 (nx l).2.1).1,(cs f rc0 (nx l).2.1).2)
  else if c=93 then ((nx l).1++(tx true (nx l).2.1 [] 0).1,(tx true (nx l).2.1 [] 0).2)
  else if c=80\/c=88\/c=94\/c=95 then ((nx l).1++(tx false (nx l).2.1 [] 0).1,(tx false (nx l).2.1 [] 0).2)
  else ((nx l).1++(ei f 0 0 c (nx l).2.1).1,(ei f 0 0 c (nx l).2.1).2)
theorem OM (f:Nat) (l:List Int):(es_ f l).2<:+l:=by
 unfold es_
 split
 ·exact Cr l
 ·repeat' split
  ·exact(OJ f _ _).trans (Cr l)
  ·exact(KX _ _ _ _).trans (Cr l)
  ·exact(KX _ _ _ _).trans (Cr l)
  ·exact(OL f _ _ _ _).trans (Cr l)
theorem ak:Sq Iw:=(show aZ 0 0 Iw from .inl ⟨rfl,rfl,rfl⟩).sq
theorem rY (f:Nat) (l:List Int) (hl:l.length<f) (hb: ∀x∈l,0<=x/\x<256):E Iw l=(es_ f l).1++E s0 (es_ f l).2:=by
 obtain⟨n1,n2⟩:=Qz ak l hb
 unfold es_
 cases hc:(nx l).2.2 with
 | none=>exact n1 hc
 | some c=>
  obtain⟨e,c0,c1⟩:=n2 c hc
  have hs:=F7 l c hc
  have hb': ∀x∈(nx l).2.1,0<=x/\x<256:=fun x hx=>hb x ((Cr l).subset hx)
  simp only []
  rw [e]
  by_cases h91:c=91
  ·subst h91
   rw [if_pos rfl,EU (show take Iw 91=(⟨5,U.z,d0⟩, []) by kernel_rfl),kM f rc0 _ _ (.inr (.inr (.inl ⟨rfl,rfl⟩))) (by omega) hb']
   simp
  rw [if_neg h91]
  by_cases h93:c=93
  ·subst h93
   rw [if_pos rfl,EU (show take Iw 93=(KY true [] 0, []) by kernel_rfl),U3 true _ [] 0 (fun _=>rfl) hb']
   simp
  rw [if_neg h93]
  by_cases ho:c=80\/c=88\/c=94\/c=95
  ·have e':take Iw c=(KY false [] 0, []):=by
    rcases ho with rfl | rfl | rfl | rfl<;>kernel_rfl
   rw [if_pos ho,EU e',U3 false _ [] 0 (fun h=>by cases h) hb']
   simp
  rw [if_neg ho,kN f 0 0 c Iw _ (.inl ⟨rfl,rfl,rfl⟩) c0 c1 (fun _ h=>by unfold opens at h;omega) (by omega) hb']
  simp
def run (l:List Int):List Int:=l.takeWhile (fun x=>decide (128<=x))
def past (l:List Int):List Int:=l.dropWhile (fun x=>decide (128<=x))
def hi (l:List Int):List Ev:=(U.dec U.z (run l)).2.map pr++if 0<(U.dec U.z (run l)).1.need/\past l≠ [] then [pr 65533] else []
theorem Q5 (l:List Int):run l++past l=l:=List.takeWhile_append_dropWhile
theorem Kv (l:List Int):past l<:+l:=List.dropWhile_suffix _
theorem I7 {p:Int->Bool}: ∀(l:List Int) (x:Int),x∈l.takeWhile p->p x=true
 | [],x,h=>by simp at h
 | y::l,x,h=>by
  rw [List.takeWhile_cons] at h
  split at h
  ·rename_i hy
   rcases List.mem_cons.1 h with rfl | h
   ·exact hy
   ·exact I7 l x h
  ·simp at h
theorem au {l:List Int} (hb: ∀x∈l,0<=x/\x<256): ∀x∈run l,128<=x/\x<256:=fun x hx=>by
 have h1:x∈l:=by
  rw [<- Q5 l]
  exact List.mem_append_left _ hx
 have h2:=I7 l x hx
 exact⟨of_decide_eq_true h2,(hb x h1).2⟩
theorem ay {l:List Int} {b:Int} {m:List Int} (h:past l=b::m):b<128:=by
 have:=List.head_dropWhile_not (p:=fun x=>decide (128<=x)) (l:=l) (by unfold past at h;rw [h];simp)
 have e:(l.dropWhile fun x=>decide (128<=x)).head (by unfold past at h;rw [h];simp)=b:=by
  unfold past at h
  simp only [h]
  rfl
 rw [e] at this
 have:=of_decide_eq_false (by simpa using this:decide (128<=b)=false)
 omega
theorem rZ (l:List Int) (hb: ∀x∈l,0<=x/\x<256):E s0 l=hi l++E s0 (past l):=by
 have hr:=au hb
 have hf:=WJ (run l) hr U.z
 have hok:(U.dec U.z (run l)).1.ok:=U.kS U.RO (run l) (fun x hx=>(hr x hx).2)
 have e:E s0 l=(U.dec U.z (run l)).2.map pr++E ⟨1,(U.dec U.z (run l)).1,d0⟩ (past l):=by
  have:E s0 (run l++past l)=(U.dec U.z (run l)).2.map pr++E ⟨1,(U.dec U.z (run l)).1,d0⟩ (past l):=by
   unfold E
   rw [IX,show feed s0 (run l)=_ from hf]
  rwa [Q5] at this
 rw [e]
 unfold hi
 rw [List.append_assoc]
 congr 1
 generalize (U.dec U.z (run l)).1=d at hok
 cases hp:past l with
 | nil=>
  rw [if_neg (fun h=>h.2 rfl)]
  rfl
 | cons b m=>
  have hlow:=ay hp
  rw [Ht,Ht]
  by_cases hd:0<d.need
  ·rw [if_pos ⟨hd,by simp⟩]
   have e1:brk ⟨1,d,d0⟩ b=(s0, [pr 65533]):=if_pos ⟨hlow,hd⟩
   have e2:brk s0 b=(s0, []):=if_neg (fun h=>by have:=h.2;exact absurd this (by decide))
   unfold take
   rw [e1,e2]
   simp
  ·rw [if_neg (fun h=>hd h.1),pW hok hd]
   rfl
def pa:Nat->List Int->List Ev
 | 0,_=> []
 | _+1, [] => []
 | f+1,c::l=>if c=27 then (es_ (f+1) l).1++pa f (es_ (f+1) l).2
   else if c<32 then (if c≠24/\c≠26 then [ex c] else [])++pa f l
   else if c=127 then pa f l else if c<127 then pr c::pa f l else hi (c::l)++pa f (past (c::l))
theorem UF (c:Int) (h0:0<=c) (h1:c<32) (h:c≠27):act 1 c=(if c≠24/\c≠26 then 32 else 0)/\nxt 1 c=1:=
 U.Dl (p:=fun c=>(c<32/\c≠27)->act 1 c=(if c≠24/\c≠26 then 32 else 0)/\nxt 1 c=1) (by decide+kernel) c h0 (by omega) ⟨h1,h⟩
theorem OO: ∀(f:Nat) (l:List Int),l.length<=f->(∀x∈l,0<=x/\x<256)->pa f l=E s0 l
 | 0, [],_,_=>rfl
 | 0,_::_,h,_=>by simp at h
 | _+1, [],_,_=>rfl
 | f+1,c::l,h,hb=>by
  have hlf:l.length<=f:=by simpa using h
  have hl: ∀x∈l,0<=x/\x<256:=fun x hx=>hb x (by simp [hx])
  have hc:=hb c (by simp)
  unfold pa
  by_cases h27:c=27
  ·subst h27
   have hsf:=OM (f+1) l
   rw [if_pos rfl,EU PD,rY (f+1) l (by omega) hl,OO f _ (Nat.le_trans hsf.length_le hlf) (fun x hx=>hl x (hsf.subset hx))]
   rfl
  rw [if_neg h27]
  by_cases h32:c<32
  ·rw [if_pos h32,OO f l hlf hl]
   have t:=UF c hc.1 h32 h27
   by_cases hx:c≠24/\c≠26
   ·rw [if_pos hx] at t⊢
    exact(EU (show take s0 c=(s0, [ex c]) from Bq _ t.1 t.2 (by decide)) l).symm
   ·rw [if_neg hx] at t⊢
    exact(EU (show take s0 c=(s0, []) from Bq _ t.1 t.2 (by decide)) l).symm
  rw [if_neg h32]
  by_cases h127:c=127
  ·subst h127
   rw [if_pos rfl,OO f l hlf hl]
   exact(EU (show take s0 127=(s0, []) by kernel_rfl) l).symm
  rw [if_neg h127]
  by_cases hlt:c<127
  ·rw [if_pos hlt,OO f l hlf hl]
   exact(EU (Sb (by omega) (by omega)) l).symm
  ·rw [if_neg hlt,rZ (c::l) hb]
   have e:past (c::l)=past l:=by
    unfold past
    rw [List.dropWhile_cons_of_pos (by simp;omega)]
   rw [e,OO f _ (Nat.le_trans (Kv l).length_le hlf) (fun x hx=>hl x ((Kv l).subset hx))]
end Go.Proofs.YtoaabebgmdbjeaaGreatDoor.PA
namespace Go.Proofs.YtoaabebgmdbjeaaGreatDoor
open Go.RowKit
end Go.Proofs.YtoaabebgmdbjeaaGreatDoor
namespace Go.Proofs.YtoaabebgmdbjeaaGreatDoor
open Go.RowKit
end Go.Proofs.YtoaabebgmdbjeaaGreatDoor
namespace Go.Proofs.YtoaabebgmdbjeaaGreatDoor
open Go.RowKit
end Go.Proofs.YtoaabebgmdbjeaaGreatDoor
namespace Go.Proofs.YtoaabebgmdbjeaaGreatDoor
open Go.RowKit
end Go.Proofs.YtoaabebgmdbjeaaGreatDoor
namespace Go.Proofs.YtoaabebgmdbjeaaGreatDoor
open Go.RowKit
end Go.Proofs.YtoaabebgmdbjeaaGreatDoor
namespace Go.Proofs.YtoaabebgmdbjeaaGreatDoor
open Go.RowKit
theorem bA (b:Int) (w:World) (h:32<=b):Calls Tryz.prog 143 #[.int .u8 b] w fun e w'=>e=.returned (.bool false)/\w=w':=by
 go_enter Tryz.func143,Tryz.ntmps143
 go_wp2
 go_ret
 exact⟨rfl,by trivial⟩
end Go.Proofs.YtoaabebgmdbjeaaGreatDoor
namespace Go.Proofs.YtoaabebgmdbjeaaGreatDoor
open Go.RowKit
end Go.Proofs.YtoaabebgmdbjeaaGreatDoor
namespace Go.Proofs.YtoaabebgmdbjeaaGreatDoor
open Go Go.RowKit
def Cg (w:World) (p:PA.Ev × Value):Prop:=
 ∃Ap cp,p.2=.slice Ap p.1.params.length cp/\p.1.params.length<=cp/\p.1.params.length<=100/\ ∀j u,(EO p.1.params)[j]? =some u-> ∃ad cs,Ap=some ad/\Box w ad.block 3 cs/\w.cell? (ad.add j)=some u
theorem Cg.kept {w w':World} {p:PA.Ev × Value} {L:List (Option Nat)} (h:Cg w p) (k:Kept L w w') (hL: ∀g,some g∈L-> ∃T cs,Box w g T cs/\T≠3):Cg w' p:=by
 obtain⟨Ap,cp,h1,h2,h3,h4⟩:=h
 refine⟨Ap,cp,h1,h2,h3,fun j u hu=>?_⟩
 obtain⟨ad,cs,e1,e2,e3⟩:=h4 j u hu
 have hn:some ad.block∉L:=fun hm=>by
  obtain⟨T,ds,b1,b2⟩:=hL _ hm
  exact b2 (Gs b1 e2)
 exact⟨ad,cs,e1,e2.kept k hn,(k.cell (p:=ad.add j) (by rw [addBlock];exact e2.lt) (by rw [addBlock];exact hn)).trans e3⟩
theorem Cg.keep {w w':World} {p:PA.Ev × Value} (h:Cg w p) (k:Below w.heap.size w w'):Cg w' p:=h.kept (L:= []) (Kept.of_below k) (fun g hg=>by simp at hg)
theorem Cg.bare {w:World} {e:PA.Ev} (h:e.params= []):Cg w (e,.slice none 0 0):=
 ⟨none,0,by simp [h],by simp [h],by simp [h],fun j u hu=>by rw [h] at hu;simp [EO] at hu⟩
theorem Cg.ok {w:World} {p:PA.Ev × Value} (h:Cg w p):kK w p:=by
 obtain⟨Ap,cp,h1,h2,h3,h4⟩:=h
 exact⟨Ap,cp,h1,⟨by simp [EO],fun j u hu=>by
  obtain⟨ad,cs,e1,e2,e3⟩:=h4 j u hu
  exact⟨ad,e1,e2.lt,e3⟩⟩,by omega⟩
theorem Cg.cap {w:World} {p:PA.Ev × Value} (h:Cg w p):Jy p.2:=by
 obtain⟨Ap,cp,h1,h2,h3,h4⟩:=h
 rw [h1]
 exact qm h2
theorem UG (M:List (PA.Ev × Value)) (p:PA.Ev × Value):CF (M++ [p])=CF M++Eb p.1 p.2:=by
 simp [CF]
structure SB (w0 w1:World) (B g n c:Nat) (A:Option Addr) (x:Int) (v1 v:Value) (M:List (PA.Ev × Value)) (w:World):Prop where
 box:Box w g 102 #[.slice A n c,.int .i64 x,v]
 own:w.ownsRow B 34 7 v M.length (CF M)
 far: ∀p∈M,Cg w p
 low:Below B w0 w
 kept:Kept [some g,v1.ownBlock] w1 w
 src:From w1 [v1.ownBlock] v.ownBlock
section
variable {w0 w1 w w3:World} {B g n c:Nat} {A:Option Addr} {x:Int} {v1 v v3:Value} {M M3:List (PA.Ev × Value)}
theorem SB.here (h:SB w0 w1 B g n c A x v1 v M w):SB w0 w B g n c A x v v M w:=⟨h.box,h.own,h.far,h.low,Kept.refl _ _,From.mem (by simp)⟩
theorem SB.next {y:Int} (h:SB w0 w1 B g n c A x v1 v M w) (k:SB w0 w B g n c A y v v3 M3 w3):SB w0 w1 B g n c A y v1 v3 M3 w3:=
 ⟨k.box,k.own,k.far,k.low,h.kept.trans k.kept (fun z hz=>by
  simp only [List.mem_cons,List.not_mem_nil,or_false] at hz
  rcases hz with rfl | rfl
  ·exact From.mem (by simp)
  ·exact h.src.mono (by simp)),k.src.Gc h.src h.kept.size⟩
theorem SB.ne (h:SB w0 w1 B g n c A x v1 v M w):some g≠v.ownBlock:=(Aa h.own h.box (by decide)).symm
theorem SB.typ (h:SB w0 w1 B g n c A x v1 v M w): ∀q,some q∈ [some g] -> ∃T cs,Box w q T cs/\T≠3:=fun q hq=>by
 simp only [List.mem_singleton,Option.some.injEq] at hq
 subst hq
 exact⟨_,_,h.box,by decide⟩
theorem SB.drawn (h:SB w0 w1 B g n c A x v1 v M w) (q:Nat):SB w0 w1 B g n c A x v1 v M (w.drewN q):=
 ⟨h.box,h.own,fun p hp=>(h.far p hp).keep (below_drewN (Below.refl _ _) q),below_drewN h.low q,h.kept.drewN q,h.src⟩
theorem SB.at_ (h:SB w0 w1 B g n c A x v1 v M w) (hB:B<=g) (y:Int):SB w0 w1 B g n c A y v1 v M (w.setCell ⟨g,1,none⟩ (.int .i64 y)):=
 ⟨by simpa using h.box.set 1 (.int .i64 y),BF h.own (p:=⟨g,1,none⟩) h.ne.symm _,fun p hp=>(h.far p hp).kept ((Kept.refl [some g] w).setCell (p:=⟨g,1,none⟩) (From.mem (by simp)) _) h.typ,h.low.setCell (p:=⟨g,1,none⟩) hB _,h.kept.setCell (p:=⟨g,1,none⟩) (From.mem (by simp)) _,h.src⟩
theorem SB.alloc (h:SB w0 w1 B g n c A x v1 v M w) (hBw:B<=w0.heap.size) (o:Obj):SB w0 w1 B g n c A x v1 v M (w.alloc o):=
 ⟨h.box.alloc o,h.own.alloc o,fun p hp=>(h.far p hp).keep ((Below.refl w.heap.size w).alloc (Nat.le_refl _) o),h.low.alloc (Nat.le_trans hBw h.low.size) o,h.kept.alloc o,h.src⟩
theorem SB.drew (h:SB w0 w1 B g n c A x v1 v M w):SB w0 w1 B g n c A x v1 v M w.drew:=h.drawn 1
theorem SB.moved {y:Int} (h:SB w0 w1 B g n c A x v1 v M w) (hB:B<=g) (hBw:B<=w0.heap.size) (k:Kept [some g] w w3) (bx:Box w3 g 102 #[.slice A n c,.int .i64 y,v]):SB w0 w1 B g n c A y v1 v M w3:=
 ⟨bx,BH h.own k (fun b hb hm=>by simp only [List.mem_singleton] at hm;exact h.ne (hm.symm.trans hb.symm)),fun p hp=>(h.far p hp).kept k h.typ,h.low.trans (k.toBelow (Nat.le_trans hBw h.low.size) (fun q hq=>by simp at hq;omega)),h.kept.trans k (fun z hz=>From.mem (by simp at hz;simp [hz])),h.src⟩
theorem SB.size (h:SB w0 w1 B g n c A x v1 v M w) (hB:B<=w0.heap.size):B<=w.heap.size:=Nat.le_trans hB h.low.size
theorem SB.less {w':World} {v' va vb:Value} {M':List (PA.Ev × Value)} {k k':Nat} (h:SB w0 w1 B g n c A (k:Int) va v M w) (h':SB w0 w1 B g n c A (k':Int) vb v' M' w') (hk:k<k') (hn:k<n):n-(intOf ((w'.cell? ⟨g,1,none⟩).getD undef)).toNat<n-(intOf ((w.cell? ⟨g,1,none⟩).getD undef)).toNat:=by
 rw [h.box.cell 1,h'.box.cell 1]
 simp [intOf]
 omega
theorem PU {w':World} {t:TypeId} {a a' u u':Value} {k k':Nat} (h:Box w g t #[a,.int .i64 (k:Nat),u]) (h':Box w' g t #[a',.int .i64 (k':Nat),u']) (hk:k<k') (hn:k<n):n-(intOf ((w'.cell? ⟨g,1,none⟩).getD undef)).toNat<n-(intOf ((w.cell? ⟨g,1,none⟩).getD undef)).toNat:=by
 rw [h.cell 1,h'.cell 1]
 simp [intOf]
 omega
theorem SB.put {e:PA.Ev} {u:Value} (h:SB w0 w1 B g n c A x v1 v M w) (hB:B<=g) (hBw:B<=w0.heap.size) (ho:w3.ownsRow B 34 7 v3 (M.length+1) (CF M++Eb e u)) (hg:w.grownBy w3 v.ownBlock) (hm:Moved w v v3) (hp:Cg w (e,u)):
  SB w0 w1 B g n c A x v1 v3 (M++ [(e,u)]) (w3.setCell ⟨g,2,none⟩ v3):=by
 have k3:=Kept.IL hg
 have hx:=h.box.kept k3 (by simp only [List.mem_singleton];exact h.ne)
 have hs:=h.size hBw
 have hob: ∀b,v.ownBlock=some b->B<=b:=fun b e=>(h.own.lt b e).1
 have ks:=(Kept.refl [some g] w3).setCell (p:=⟨g,2,none⟩) (From.mem (by simp)) v3
 refine⟨by simpa using hx.set 2 v3,BF (by rw [List.length_append,UG];exact ho) (p:=⟨g,2,none⟩) (Aa ho hx (by decide)) _,fun p hq=>?_,(h.low.trans (k3.toBelow hs (fun k hh=>by simp only [List.mem_singleton] at hh;exact hob k hh.symm))).setCell (p:=⟨g,2,none⟩) hB _,?_,(From.moved hm).Gc h.src h.kept.size⟩
 ·have E9: ∀p',Cg w p'->Cg (w3.setCell ⟨g,2,none⟩ v3) p':=fun p' h'=>(h'.kept k3 (fun q hq=>by
   simp only [List.mem_singleton] at hq
   obtain⟨cur,hc⟩:=IG h.own hq.symm
   exact⟨_,_,hc,by decide⟩)).kept ks (fun q hq=>by
    simp only [List.mem_singleton,Option.some.injEq] at hq
    subst hq
    exact⟨_,_,hx,by decide⟩)
  rcases List.mem_append.1 hq with hq | hq
  ·exact E9 _ (h.far p hq)
  ·simp only [List.mem_singleton] at hq
   subst hq
   exact E9 _ hp
 ·exact((h.kept.trans k3 (fun z hz=>by simp only [List.mem_singleton] at hz;subst hz;exact h.src.mono (by simp)))).setCell (p:=⟨g,2,none⟩) (From.mem (by simp)) v3
end
section
variable {w0 w1 w w':World} {B g n c:Nat} {A:Option Addr} {x:Int} {v1 v:Value} {M:List (PA.Ev × Value)}
theorem SB.over (h:SB w0 w1 B g n c A x v1 v M w) (hBw:B<=w0.heap.size) (k:Below w.heap.size w w'):SB w0 w1 B g n c A x v1 v M w':=
 ⟨h.box.below k h.box.lt,BH h.own (Kept.of_below (L:= []) k) (by simp),fun p hp=>(h.far p hp).keep k,h.low.trans (k.mono (Nat.le_trans hBw h.low.size)),h.kept.below k,h.src⟩
theorem SB.side {q:Nat} {cs:Array Value} (h:SB w0 w1 B g n c A x v1 v M w) (hBw:B<=w0.heap.size) (k:Kept [some q] w w') (hb:Box w q 34 cs) (hq:w1.heap.size<=q) (hB:B<=q) (hv:some q≠v.ownBlock):SB w0 w1 B g n c A x v1 v M w':=
 ⟨h.box.kept k (by simp only [List.mem_singleton,Option.some.injEq];intro e;subst e;exact absurd (Gs h.box hb) (by decide)),BH h.own k (fun b hb' hm=>by simp only [List.mem_singleton] at hm;exact hv (hm.symm.trans hb'.symm)),
  fun p hp=>(h.far p hp).kept k (fun z hz=>by simp only [List.mem_singleton,Option.some.injEq] at hz;subst hz;exact⟨_,_,hb,by decide⟩),
  h.low.trans (k.toBelow (Nat.le_trans hBw h.low.size) (fun z hz=>by simp at hz;omega)),h.kept.trans k (fun z hz=>by simp only [List.mem_singleton] at hz;subst hz;exact fun y e=>.inr (by cases e;exact hq)),h.src⟩
end
def RAt (w0 w1:World) (B g n c:Nat) (A:Option Addr) (b l:List Int) (es:List PA.Ev) (v1 v:Value) (w:World):Prop:=
 ∃(k:Nat) (M:List (PA.Ev × Value)),k<=n/\b.drop k=l/\M.map (·.1)=es/\es.length+3*l.length<=3*n/\SB w0 w1 B g n c A (k:Int) v1 v M w
section
variable {w0 w1 w w3:World} {B g n c:Nat} {A:Option Addr} {b l l3:List Int} {es es3:List PA.Ev} {v1 v v3:Value}
theorem RAt.here (h:RAt w0 w1 B g n c A b l es v1 v w):RAt w0 w B g n c A b l es v v w:=by
 obtain⟨k,M,h1,h2,h3,h4,h5⟩:=h
 exact⟨k,M,h1,h2,h3,h4,h5.here⟩
theorem RAt.next (h:RAt w0 w1 B g n c A b l es v1 v w) (k:RAt w0 w B g n c A b l3 es3 v v3 w3):RAt w0 w1 B g n c A b l3 es3 v1 v3 w3:=by
 obtain⟨_,_,_,_,_,_,h5⟩:=h
 obtain⟨k,M,k1,k2,k3,k4,k5⟩:=k
 exact⟨k,M,k1,k2,k3,k4,h5.next k5⟩
theorem RAt.drawn (h:RAt w0 w1 B g n c A b l es v1 v w) (q:Nat):RAt w0 w1 B g n c A b l es v1 v (w.drewN q):=by
 obtain⟨k,M,h1,h2,h3,h4,h5⟩:=h
 exact⟨k,M,h1,h2,h3,h4,h5.drawn q⟩
theorem RAt.over (h:RAt w0 w1 B g n c A b l es v1 v w) (hBw:B<=w0.heap.size) (k:Below w.heap.size w w3):RAt w0 w1 B g n c A b l es v1 v w3:=by
 obtain⟨q,M,h1,h2,h3,h4,h5⟩:=h
 exact⟨q,M,h1,h2,h3,h4,h5.over hBw k⟩
theorem RAt.side {q:Nat} {cs:Array Value} (h:RAt w0 w1 B g n c A b l es v1 v w) (hBw:B<=w0.heap.size) (k:Kept [some q] w w3) (hb:Box w q 34 cs) (hq:w1.heap.size<=q) (hB:B<=q) (hv:some q≠v.ownBlock):RAt w0 w1 B g n c A b l es v1 v w3:=by
 obtain⟨q',M,h1,h2,h3,h4,h5⟩:=h
 exact⟨q',M,h1,h2,h3,h4,h5.side hBw k hb hq hB hv⟩
end
theorem Xn (b:Int) (w:World) (h0:0<=b) (h:b<32) (h4:b≠24) (h6:b≠26) (h7:b≠27):Calls Tryz.prog 143 #[.int .u8 b] w fun e w'=>e=.returned (.bool true)/\w=w':=by
 have d24:(b !=24)=true:=by simpa using h4
 have d26:(b !=26)=true:=by simpa using h6
 have d27:(b !=27)=true:=by simpa using h7
 clear h4 h6 h7
 go_enter Tryz.func143,Tryz.ntmps143
 go_wp2
 go_ret
 exact⟨rfl,by trivial⟩
theorem Q6 (w0 w:World) (B g n c:Nat) (A:Option Addr) (b l:List Int) (es:List PA.Ev) (v:Value) (hB:B<=g) (hBw:B<=w0.heap.size) (hbn:b.length=n) (hA:Seen w0 B A n (u8s b)) (hb: ∀x∈b,0<=x/\x<256) (hn:n<=100000) (H:RAt w0 w B g n c A b l es v v w):
  Calls Tryz.prog 104 #[.pointer (some ⟨g,0,none⟩)] w fun e w'=> ∃v',e=.returned (.tuple #[.int .u8 ((PA.nx l).2.2.getD 0),.bool (PA.nx l).2.2.isSome])/\RAt w0 w B g n c A b (PA.nx l).2.1 (es++(PA.nx l).1) v v' w':=by
 obtain⟨i0,hi,hz0,hz1,hz2⟩:=info_parts Cq
 have HA:=hide hA
 have HBB:=hide hb
 have H0:=hide H
 clear hA hb H
 go_enter Tryz.func104,Tryz.ntmps104
 go_wp2_with fail
 go_loopw [] (fun wr=> ∃l' es' v',es'++(PA.nx l').1=es++(PA.nx l).1/\(PA.nx l').2=(PA.nx l).2/\Hid (RAt w0 w B g n c A b l' es' v v' wr)) (fun wr=>n-(intOf ((wr.cell? ⟨g,1,none⟩).getD undef)).toNat)
 case atStart=>exact⟨l,es,v,rfl,rfl,H0⟩
 case round=>
  obtain⟨l',es',v',he1,he2,HR⟩:=hrel
  have HE:=hide (And.intro he1 he2)
  clear he1 he2 H0
  obtain⟨k,M,hkn,hdl,hM,hln,hsb⟩:=HR.out
  have HS:=hide hsb
  have hml:M.length<=1000000:=by have e:M.length=es'.length:=(by rw [<- hM,List.length_map]);omega
  obtain⟨k0,k1,k2,f0,f1,f2⟩:=hsb.box.three
  have hBs:=hsb.size hBw
  have hlo:=hsb.low
  clear hsb
  cases l' with
  | nil=>
   obtain rfl:k=n:=by have:=congrArg List.length hdl;rw [List.length_drop,List.length_nil,hbn] at this;omega
   go_wp2_with fail
   go_quiet (fail)
   go_wp2_with fail
   go_ret2
   obtain⟨he1,he2⟩:=HE.out
   have he3:(PA.nx l).2=([],none):=he2.symm
   rw [he3]
   refine⟨v',rfl,?_⟩
   rw [<- he1]
   show RAt _ _ _ _ _ _ _ _ [] (es'++ []) _ _ _
   rw [List.append_nil]
   exact HR.out.drawn _
  | cons x l2=>
   have hkl:k<n:=by have:=congrArg List.length hdl;rw [List.length_drop,List.length_cons,hbn] at this;omega
   have hbk:b[k]? =some x:=by have:=congrArg (·[0]?) hdl;simpa using this
   have Mr:b.drop (k+1)=l2:=by rw [<- List.drop_drop,hdl];rfl
   have hx:=HBB.out x (List.mem_of_getElem? hbk)
   obtain⟨ad,u,rfl,_,hu,hc⟩:=(HA.out.below hlo).at_ (k:=k) hkl
   rw [u8s,List.getElem?_map,hbk] at hu
   obtain rfl:=Option.some.inj hu
   have hi0:(0:Int)<=(k:Int):=by omega
   have hi1:(k:Int)<(n:Int):=by omega
   have hln2:es'.length+1+3*l2.length<=3*n:=by rw [List.length_cons] at hln;omega
   clear hbk hu hlo
   by_cases h24:x=24
   ·subst h24
    go_wp2_with fail
    go_quiet (fail)
    go_wp2_with fail
    go_quiet (fail)
    go_wp2_with fail
    go_ret2
    obtain⟨he1,he2⟩:=HE.out
    have hnx:PA.nx (24::l2)=([],l2,none):=by unfold PA.nx;rw [if_pos (by decide)]
    rw [hnx] at he1 he2
    rw [<- he2]
    refine⟨v',rfl,?_⟩
    rw [<- he1]
    show RAt _ _ _ _ _ _ _ _ l2 (es'++ []) _ _ _
    rw [List.append_nil]
    exact⟨k+1,M,by omega,Mr,hM,by omega,(HS.out.drawn _).at_ hB _⟩
   by_cases h26:x=26
   ·subst h26
    go_wp2_with fail
    go_quiet (fail)
    go_wp2_with fail
    go_quiet (fail)
    go_wp2_with fail
    go_ret2
    obtain⟨he1,he2⟩:=HE.out
    have hnx:PA.nx (26::l2)=([],l2,none):=by unfold PA.nx;rw [if_pos (by decide)]
    rw [hnx] at he1 he2
    rw [<- he2]
    refine⟨v',rfl,?_⟩
    rw [<- he1]
    show RAt _ _ _ _ _ _ _ _ l2 (es'++ []) _ _ _
    rw [List.append_nil]
    exact⟨k+1,M,by omega,Mr,hM,by omega,(HS.out.drawn _).at_ hB _⟩
   have d24:(x==24)=false:=by simpa using h24
   have d26:(x==26)=false:=by simpa using h26
   by_cases h27:x=27
   ·subst h27
    go_wp2_with fail
    go_quiet (fail)
    go_wp2_with fail
    go_quiet (fail)
    go_wp2_with fail
    go_ret2
    obtain⟨he1,he2⟩:=HE.out
    have hnx:PA.nx (27::l2)=([],27::l2,none):=by unfold PA.nx;rw [if_neg (by omega),if_pos (by omega)]
    rw [hnx] at he1 he2
    rw [<- he2]
    refine⟨v',rfl,?_⟩
    rw [<- he1]
    show RAt _ _ _ _ _ _ _ _ _ (es'++ []) _ _ _
    rw [List.append_nil]
    exact HR.out.drawn _
   have d27:(x==27)=false:=by simpa using h27
   by_cases h128:128<=x
   ·skip
    go_wp2_with fail
    go_quiet (fail)
    go_wp2_with fail
    go_quiet (fail)
    go_wp2_with fail
    go_ret2
    obtain⟨he1,he2⟩:=HE.out
    have hnx:PA.nx (x::l2)=([],x::l2,none):=by unfold PA.nx;rw [if_neg (by omega),if_pos (by omega)]
    rw [hnx] at he1 he2
    rw [<- he2]
    refine⟨v',rfl,?_⟩
    rw [<- he1]
    show RAt _ _ _ _ _ _ _ _ _ (es'++ []) _ _ _
    rw [List.append_nil]
    exact HR.out.drawn _
   by_cases h127:x=127
   ·subst h127
    have HNX:=hide (show PA.nx (127::l2)=PA.nx l2 by rw [PA.nx,if_neg (by decide),if_neg (by decide),if_pos rfl])
    go_wp2_with fail
    go_quiet (fail)
    go_wp2_with fail
    go_quiet (fail)
    go_wp2_with fail
    go_roundw
    case rel=>
     obtain⟨he1,he2⟩:=HE.out
     rw [HNX.out] at he1 he2
     exact⟨l2,es',v',he1,he2,hide ⟨k+1,M,by omega,Mr,hM,by omega,(HS.out.drawn _).at_ hB _⟩⟩
    case measure=>exact HS.out.less (k':=k+1) ((HS.out.drawn _).at_ hB _) (by omega) hkl
   have d127:(x==127)=false:=by simpa using h127
   have hx0:=hx.1
   have hx128:x<128:=by omega
   by_cases h32:x<32
   ·skip
    have CI:=hide (fun w=>Xn x w hx0 h32 h24 h26 h27)
    have HNX:=hide (show PA.nx (x::l2)=(PA.ex x::(PA.nx l2).1,(PA.nx l2).2) by rw [PA.nx,if_neg (by omega),if_neg (by omega),if_neg h127,if_pos h32])
    clear h24 h26 h27 h127 h128 hx
    go_wp2_with fail
    go_quiet (fail)
    go_wp2_with fail
    go_quiet (fail)
    go_wp2_with fail
    refine(CI.out _).mono ?_
    rintro e wq ⟨rfl,rfl⟩
    go_wp2_with (at_builtin;go_must (refine CX rfl (.tmp 71) (.tmp 74) 56 rfl B 34 i0 _ 7 56 Tryz.underlying56 hi hz0 hz1 hz2 Cx (by omega) v' M.length _ rfl (HS.out.drawn _).own _ _ _ rfl rfl rfl (by intro u hu;simp at hu;(repeat' (first | (rcases hu with rfl | hu) | subst hu))<;>rfl) (by omega) (by omega) (by first | omega | (simp;omega)) ?_);intro v3 w3 hown3 hg3 hm3;obtain⟨A3,c3,rfl,_⟩:=Bb hown3;have bx3:=Box.grown (HS.out.drawn _).box hg3 HS.out.ne;obtain⟨j0,j1,j2,l0,l1,l2'⟩:=bx3.three)
    have HP:=hide ((HS.out.drawn _).put (e:=PA.ex x) (u:=.slice none 0 0) hB hBw hown3 hg3 hm3 (Cg.bare rfl))
    go_roundw
    case rel=>
     obtain⟨he1,he2⟩:=HE.out
     rw [HNX.out] at he1 he2
     exact⟨l2,es'++ [PA.ex x],_,by rw [List.append_assoc];exact he1,he2,hide ⟨k+1,M++ [(PA.ex x,.slice none 0 0)],by omega,Mr,by rw [List.map_append,hM];rfl,by rw [List.length_append];simp;omega,HP.out.at_ hB _⟩⟩
    case measure=>exact HS.out.less (k':=k+1) (HP.out.at_ hB _) (by omega) hkl
   have CI:=hide (fun w=>bA x w (by omega))
   clear h24 h26 h27 h127 h128 hx
   go_wp2_with fail
   go_quiet (fail)
   go_wp2_with fail
   go_quiet (fail)
   go_wp2_with fail
   refine(CI.out _).mono ?_
   rintro e wq ⟨rfl,rfl⟩
   go_wp2_with fail
   go_ret2
   obtain⟨he1,he2⟩:=HE.out
   have hnx:PA.nx (x::l2)=([],l2,some x):=by
    have a24:x≠24:=by simpa using d24
    have a26:x≠26:=by simpa using d26
    have a27:x≠27:=by simpa using d27
    have a127:x≠127:=by simpa using d127
    rw [PA.nx,if_neg (by omega),if_neg (by omega),if_neg a127,if_neg (by omega)]
   rw [hnx] at he1 he2
   rw [<- he2]
   refine⟨v',rfl,?_⟩
   rw [<- he1]
   show RAt _ _ _ _ _ _ _ _ l2 (es'++ []) _ _ _
   rw [List.append_nil]
   exact⟨k+1,M,by omega,Mr,hM,by omega,(HS.out.drawn _).at_ hB _⟩
end Go.Proofs.YtoaabebgmdbjeaaGreatDoor
namespace Go.Proofs.YtoaabebgmdbjeaaGreatDoor.PA
def jk (k:Nat) (s:RC):Prop:=1<=s.params.length/\s.params.length<=k+1/\(∀x∈s.params, -1<=x/\x<=65535)/\s.many<=k
theorem ru:jk 0 rc0:=⟨by simp [rc0],by simp [rc0],by simp [rc0],by simp [rc0]⟩
theorem Xo {k:Nat} {s:RC} {x:Int} (h:jk k s) (h0:32<=x) (h1:x<64):jk (k+1) (Cj s x):=by
 obtain⟨a,b,c,d⟩:=h
 unfold Cj
 by_cases c1:x<48
 ·rw [if_pos c1];exact⟨a,by simp only [];omega,c,by simp only [];omega⟩
 rw [if_neg (show¬x<48 by omega)]
 by_cases c2:0<s.many\/x=58
 ·rw [if_pos c2];exact⟨a,by simp only [];omega,c,by simp only [];omega⟩
 rw [if_neg c2]
 by_cases c3:60<=x
 ·rw [if_pos c3];exact⟨a,by simp only [];omega,c,by simp only [];omega⟩
 rw [if_neg c3]
 by_cases c4:x=59
 ·rw [if_pos c4]
  refine⟨by simp,by simp;omega,fun y hy=>?_,by simp only [];omega⟩
  rcases List.mem_append.1 hy with hy | hy
  ·exact c y hy
  ·rw [List.mem_singleton.1 hy];omega
 rw [if_neg c4]
 refine⟨by simpa using a,by simp;omega,fun y hy=>?_,by simp only [];omega⟩
 rcases List.mem_or_eq_of_mem_set hy with hy | hy
 ·exact c y hy
 ·subst hy
  have hlt:s.params.length-1<s.params.length:=by omega
  have hm:=c _ (List.getElem_mem hlt)
  rw [show s.params.getD (s.params.length-1) 0=s.params[s.params.length-1] from by rw [List.getD_eq_getElem?_getD,List.getElem?_eq_getElem hlt];rfl]
  have:=kG (n:=x-48) hm.2 (by omega) (by omega)
  omega
end Go.Proofs.YtoaabebgmdbjeaaGreatDoor.PA
namespace Go.Proofs.YtoaabebgmdbjeaaGreatDoor
open Go.RowKit
theorem bB {w:World} {t t':TypeId} {cs cs':Array Value} {a b:Nat} (h:Box w a t cs) (h':Box w b t' cs') (hne:t≠t'):a≠b:=fun e=>by
 subst e
 unfold Box at h h'
 rw [h] at h'
 injection h' with h'
 injection h' with _ h' _
 exact hne h'
theorem Q7 {w:World} {base q:Nat} {e:TypeId} {v:Value} {xs:List Value} (h:w.ownsRow base e 1 v (q+1) xs): ∃b c,v=.slice (some ⟨b,0,none⟩) (q+1) c/\base<=b:=by
 rcases h.2 with ⟨_,h0⟩ | ⟨g,cap,cur,hv,hb,_⟩
 ·omega
 ·exact⟨g,cap,hv,hb⟩
end Go.Proofs.YtoaabebgmdbjeaaGreatDoor
