/- A part of the proof: Equal, SeqSame, UtfTail, UtfEncode, SeqMake, ScrBrief. -/
import Derived.Test.YtoaabebgmdbjeaaGreatDoorRp10
set_option maxRecDepth 100000
set_option maxHeartbeats 16000000
set_option linter.unusedVariables false
namespace Go.Proofs.YtoaabebgmdbjeaaGreatDoor
open Go.RowKit
theorem VX (w:World) (a b:Nat):w.drewN (a+b)=(w.drewN a).drewN b:=by
 unfold World.drewN
 simp [Nat.add_assoc]
theorem VY {l l':List Int} {k:Nat} {x:Int} (h:l.take k=l'.take k) (h1:l[k]? =some x) (h2:l'[k]? =some x):l.take (k+1)=l'.take (k+1):=by
 rw [List.take_add_one,List.take_add_one,h,h1,h2]
theorem VZ {l l':List Int} {k:Nat} {x y:Int} (h1:l[k]? =some x) (h2:l'[k]? =some y) (hne:x≠y):l≠l':=fun e=>by
 subst e
 rw [h1] at h2
 exact hne (Option.some.inj h2)
theorem Va (l l':List Int) (A A':Option Addr) (B B' n c m c':Nat) (w:World) (hx:Seen w B A n (l.map (.int .i64))) (hy:Seen w B' A' m (l'.map (.int .i64))) (hn:n<=1099511627776):
  Calls Tryz.prog 184 #[.slice A n c,.slice A' m c'] w fun e w'=>e=.returned (.bool (decide (l=l')))/\ ∃q,w.drewN q=w':=by
 have e1:l.length=n:=by simpa using hx.1
 have e2:l'.length=m:=by simpa using hy.1
 by_cases hnm:n=m
 ·subst hnm
  have HX:=hide hx
  have HY:=hide hy
  have HL:=hide (And.intro e1 e2)
  clear hx hy e1 e2
  go_enter Tryz.func184,Tryz.ntmps184
  go_wp2
  go_loopw [13] (fun i wr=> ∃k q:Nat,k<=n/\i=.int .i64 k/\wr=w.drewN q/\Hid (l.take k=l'.take k)) (fun i _=>n-(intOf i).toNat)
  case atStart=>exact⟨0,0,Nat.zero_le _,rfl,rfl,hide (by simp)⟩
  case round=>
   obtain⟨k,q,hk,rfl,rfl,HT⟩:=hrel
   by_cases hlt:k<n
   ·obtain⟨ad,u,rfl,_,hu,hc⟩:=HX.out.at_ hlt
    obtain⟨ad',u',rfl,_,hu',hc'⟩:=HY.out.at_ hlt
    rw [List.getElem?_map] at hu hu'
    obtain⟨x,hx1,rfl⟩:=Option.map_eq_some_iff.1 hu
    obtain⟨y,hy1,rfl⟩:=Option.map_eq_some_iff.1 hu'
    clear hu hu'
    by_cases hxy:x=y
    ·subst hxy
     have HT2:=hide (VY HT.out hx1 hy1)
     clear hx1 hy1
     go_wp2_with fail
     go_quiet (fail)
     go_wp2
     go_roundw
     case rel=>exact⟨k+1,_,by omega,by go_num,rfl,HT2⟩
     case measure=>simp [intOf];omega
    ·have hd:(x !=y)=true:=by simpa using hxy
     have HN:=hide (decide_eq_false (VZ hx1 hy1 hxy))
     clear hx1 hy1 hxy
     go_wp2_with fail
     go_quiet (fail)
     go_wp2
     go_ret
     exact⟨Ju HN.out.symm,_,VX w q nq⟩
   ·obtain rfl:k=n:=by omega
    have HE:=hide (decide_eq_true (show l=l' by
     have:=HT.out
     rwa [List.take_of_length_le (by rw [HL.out.1];omega),List.take_of_length_le (by rw [HL.out.2];omega)] at this))
    go_wp2
    go_ret
    exact⟨Ju HE.out.symm,q,rfl⟩
 ·have HN:=hide (decide_eq_false (show l≠l' from fun e=>hnm (by rw [<- e1, <- e2,e])))
  have hd:((n:Int)!=(m:Int))=true:=by simp;omega
  clear hx hy e1 e2 hnm
  go_enter Tryz.func184,Tryz.ntmps184
  go_wp2
  go_ret
  exact⟨Ju HN.out.symm,0,rfl⟩
end Go.Proofs.YtoaabebgmdbjeaaGreatDoor
namespace Go.Proofs.YtoaabebgmdbjeaaGreatDoor
open Go.RowKit
theorem Et (l:List Int):(strOfNums l).toList=l.map fun n=>UInt8.ofNat n.toNat:=by
 rw [ByteArray.toList_eq]
 simp [strOfNums]
theorem IV: ∀{l m:List Int},(∀x∈l,0<=x/\x<256)->(∀x∈m,0<=x/\x<256)->l.map (fun n=>UInt8.ofNat n.toNat)=m.map (fun n=>UInt8.ofNat n.toNat)->l=m
 | [], [],_,_,_=>rfl
 | [],y::m,_,_,h=>by simp at h
 | x::l, [],_,_,h=>by simp at h
 | x::l,y::m,hl,hm,h=>by
  simp only [List.map_cons,List.cons.injEq] at h
  have hx:=hl x (by simp)
  have hy:=hm y (by simp)
  have e:x=y:=by
   have:=congrArg UInt8.toNat h.1
   simp at this
   omega
  rw [e,IV (fun z hz=>hl z (List.mem_cons_of_mem _ hz)) (fun z hz=>hm z (List.mem_cons_of_mem _ hz)) h.2]
theorem OV {l m:List Int} (hl: ∀x∈l,0<=x/\x<256) (hm: ∀x∈m,0<=x/\x<256):((strOfNums l).toList==(strOfNums m).toList)=decide (l=m):=by
 rw [Et,Et,Bool.eq_iff_iff,beq_iff_eq,decide_eq_true_iff]
 exact⟨IV hl hm,fun e=>by rw [e]⟩
def Dj (a b:PA.Ev):Bool:=decide (a.kind=b.kind)&&(decide (a.rune=b.rune)&&(decide (a.priv=b.priv)&&(decide (a.inter=b.inter)&&(decide (a.final=b.final)&&(decide (a.params=b.params)&&decide (a.text=b.text))))))
theorem Io (a b:PA.Ev):Dj a b=true<->a=b:=by
 obtain⟨a1,a2,a3,a4,a5,a6,a7⟩:=a
 obtain⟨b1,b2,b3,b4,b5,b6,b7⟩:=b
 simp [Dj]
theorem GV (k r p i f k' r' p' i' f':Int) (A A':Option Addr) (n c n' c':Nat) (l l' t t':List Int) (w:World) (hA:Seen w w.heap.size A n (CG l)) (hA':Seen w w.heap.size A' n' (CG l')) (hn:n<=1099511627776) (ht: ∀x∈t,0<=x/\x<256) (ht': ∀x∈t',0<=x/\x<256):
  Calls Tryz.prog 148 #[.agg #[.int .i64 k,.int .i32 r,.int .u8 p,.int .u8 i,.int .u8 f,.slice A n c,.string (strOfNums t)],.agg #[.int .i64 k',.int .i32 r',.int .u8 p',.int .u8 i',.int .u8 f',.slice A' n' c',.string (strOfNums t')]] w fun e w'=>e=.returned (.bool (Dj ⟨k,r,p,i,f,l,t⟩ ⟨k',r',p',i',f',l',t'⟩))/\Below w.heap.size w w':=by
 have hts:=OV ht ht'
 have hB: ∀o o':Obj,Below w.heap.size w ((w.alloc o).alloc o'):=fun o o'=>((Below.refl _ _).alloc (Nat.le_refl _) _).alloc (by simp) _
 have EQ:=hide (fun o o'=>Va l l' A A' w.heap.size w.heap.size n c n' c' ((w.alloc o).alloc o') ((hA.alloc (Nat.le_refl _) _).alloc (by simp) _) ((hA'.alloc (Nat.le_refl _) _).alloc (by simp) _) hn)
 have HB:=hide hB
 have HF:=hide (fun (x:Bool) (h:Dj ⟨k,r,p,i,f,l,t⟩ ⟨k',r',p',i',f',l',t'⟩=x)=>Ju h.symm)
 clear hA hA' hn ht ht' hB
 generalize strOfNums t=s at*
 generalize strOfNums t'=s' at*
 by_cases hk:k=k'
 rotate_left
 ·have dk:(k==k')=false:=by simpa using hk
  have HE:=hide (show Dj ⟨k,r,p,i,f,l,t⟩ ⟨k',r',p',i',f',l',t'⟩=false by simp [Dj,hk])
  clear hk hts
  go_enter Tryz.func148,Tryz.ntmps148
  go_wp2_with fail
  go_ret
  exact⟨HF.out _ HE.out,HB.out _ _⟩
 subst hk
 by_cases hr:r=r'
 rotate_left
 ·have dr:(r==r')=false:=by simpa using hr
  have HE:=hide (show Dj ⟨k,r,p,i,f,l,t⟩ ⟨k,r',p',i',f',l',t'⟩=false by simp [Dj,hr])
  clear hr hts
  go_enter Tryz.func148,Tryz.ntmps148
  go_wp2_with fail
  go_ret
  exact⟨HF.out _ HE.out,HB.out _ _⟩
 subst hr
 by_cases hp:p=p'
 rotate_left
 ·have dp:(p==p')=false:=by simpa using hp
  have HE:=hide (show Dj ⟨k,r,p,i,f,l,t⟩ ⟨k,r,p',i',f',l',t'⟩=false by simp [Dj,hp])
  clear hp hts
  go_enter Tryz.func148,Tryz.ntmps148
  go_wp2_with fail
  go_ret
  exact⟨HF.out _ HE.out,HB.out _ _⟩
 subst hp
 by_cases hi:i=i'
 rotate_left
 ·have di:(i==i')=false:=by simpa using hi
  have HE:=hide (show Dj ⟨k,r,p,i,f,l,t⟩ ⟨k,r,p,i',f',l',t'⟩=false by simp [Dj,hi])
  clear hi hts
  go_enter Tryz.func148,Tryz.ntmps148
  go_wp2_with fail
  go_ret
  exact⟨HF.out _ HE.out,HB.out _ _⟩
 subst hi
 by_cases hf:f=f'
 rotate_left
 ·have df:(f==f')=false:=by simpa using hf
  have HE:=hide (show Dj ⟨k,r,p,i,f,l,t⟩ ⟨k,r,p,i,f',l',t'⟩=false by simp [Dj,hf])
  clear hf hts
  go_enter Tryz.func148,Tryz.ntmps148
  go_wp2_with fail
  go_ret
  exact⟨HF.out _ HE.out,HB.out _ _⟩
 subst hf
 by_cases hl:l=l'
 rotate_left
 ·have dl:decide (l=l')=false:=by simpa using hl
  rw [dl] at EQ
  have HE:=hide (show Dj ⟨k,r,p,i,f,l,t⟩ ⟨k,r,p,i,f,l',t'⟩=false by simp [Dj,hl])
  clear hl dl hts
  go_enter Tryz.func148,Tryz.ntmps148
  go_wp2_with fail
  refine(EQ.out _ _).mono ?_
  rintro e w1 ⟨rfl,q,rfl⟩
  go_wp2_with fail
  go_ret
  exact⟨HF.out _ HE.out,below_drewN (HB.out _ _) _⟩
 subst hl
 have dl:decide (l=l)=true:=by simp
 rw [dl] at EQ
 have HE:=hide (show Dj ⟨k,r,p,i,f,l,t⟩ ⟨k,r,p,i,f,l,t'⟩=decide (t=t') by simp [Dj])
 rw [<- hts] at HE
 clear dl hts
 go_enter Tryz.func148,Tryz.ntmps148
 go_wp2_with fail
 refine(EQ.out _ _).mono ?_
 rintro e w1 ⟨rfl,q,rfl⟩
 go_wp2_with fail
 go_ret
 exact⟨HF.out _ HE.out,below_drewN (HB.out _ _) _⟩
end Go.Proofs.YtoaabebgmdbjeaaGreatDoor
namespace Go.Proofs.YtoaabebgmdbjeaaGreatDoor
open Go.RowKit
theorem IW {a b:Bool} (h:a=b):Ending.returned (.bool b)=.returned (.bool a):=by rw [h]
theorem OX (k r p i f:Int) (A:Option Addr) (n c:Nat) (l t:List Int) (w:World) (hA:Seen w w.heap.size A n (CG l)):
  Calls Tryz.prog 151 #[.agg #[.int .i64 k,.int .i32 r,.int .u8 p,.int .u8 i,.int .u8 f,.slice A n c,.string (strOfNums t)]] w fun e w'=>e=.returned (.bool (decide (64<=f)&&(decide (f<=126)&&(decide (PA.Ca i)&&(decide (PA.EW p)&&decide (Cq l))))))/\Below w.heap.size w w':=by
 have HB:=hide (fun o:Obj=>(Below.refl w.heap.size w).alloc (Nat.le_refl _) o)
 have CP:=hide (fun o:Obj=>Kk A n c l (w.alloc o) ((hA.alloc (Nat.le_refl _) _).more (by simp)))
 have CI:=hide (IU i)
 have CV:=hide (Mq p)
 clear hA
 generalize strOfNums t=s at*
 generalize hr:(decide (64<=f)&&(decide (f<=126)&&(decide (PA.Ca i)&&(decide (PA.EW p)&&decide (Cq l)))))=R
 by_cases h0:f<64
 ·have HE:=hide (show R=false by rw [<- hr];simp;omega)
  clear hr
  go_enter Tryz.func151,Tryz.ntmps151
  go_wp2_with fail
  go_ret
  exact⟨IW HE.out,HB.out _⟩
 by_cases h1:126<f
 ·have HE:=hide (show R=false by rw [<- hr];simp;omega)
  clear hr
  go_enter Tryz.func151,Tryz.ntmps151
  go_wp2_with fail
  go_ret
  exact⟨IW HE.out,HB.out _⟩
 have d0:decide (64<=f)=true:=by simp;omega
 have d1:decide (f<=126)=true:=by simp;omega
 rw [d0,d1,Bool.true_and,Bool.true_and] at hr
 generalize decide (PA.Ca i)=bi at*
 generalize decide (PA.EW p)=bp at*
 generalize decide (Cq l)=bl at*
 rcases bi with _ | _
 ·have HE:=hide (show R=false by rw [<- hr];rfl)
  clear hr
  go_enter Tryz.func151,Tryz.ntmps151
  go_wp2_with fail
  refine(CI.out _).mono ?_
  rintro e w1 ⟨rfl,rfl⟩
  go_wp2_with fail
  go_ret
  exact⟨IW HE.out,HB.out _⟩
 rcases bp with _ | _
 ·have HE:=hide (show R=false by rw [<- hr];rfl)
  clear hr
  go_enter Tryz.func151,Tryz.ntmps151
  go_wp2_with fail
  refine(CI.out _).mono ?_
  rintro e w1 ⟨rfl,rfl⟩
  go_wp2_with fail
  refine(CV.out _).mono ?_
  rintro e w1 ⟨rfl,rfl⟩
  go_wp2_with fail
  go_ret
  exact⟨IW HE.out,HB.out _⟩
 ·have HE:=hide (show R=bl by rw [<- hr];rfl)
  clear hr
  go_enter Tryz.func151,Tryz.ntmps151
  go_wp2_with fail
  refine(CI.out _).mono ?_
  rintro e w1 ⟨rfl,rfl⟩
  go_wp2_with fail
  refine(CV.out _).mono ?_
  rintro e w1 ⟨rfl,rfl⟩
  go_wp2_with fail
  refine(CP.out _).mono ?_
  rintro e w1 ⟨rfl,rfl⟩
  go_wp2_with fail
  go_ret
  exact⟨IW HE.out,HB.out _⟩
theorem rb1 (r p i f:Int) (l t:List Int):PA.Bb ⟨1,r,p,i,f,l,t⟩=(decide (PA.Es r)&&Dj ⟨1,r,p,i,f,l,t⟩ ⟨1,r,0,0,0, [], []⟩):=by
 rw [Bool.eq_iff_iff,Bool.and_eq_true,Io,decide_eq_true_iff]
 unfold PA.Bb
 rw [if_pos rfl,decide_eq_true_iff]
 simp only [PA.Ev.mk.injEq,true_and]
theorem rb2 (r p i f:Int) (l t:List Int):PA.Bb ⟨2,r,p,i,f,l,t⟩=(decide (FQ f)&&Dj ⟨2,r,p,i,f,l,t⟩ ⟨2,0,0,0,f, [], []⟩):=by
 rw [Bool.eq_iff_iff,Bool.and_eq_true,Io,decide_eq_true_iff]
 unfold PA.Bb FQ
 rw [if_neg (show¬(2:Int)=1 by decide),if_pos rfl,decide_eq_true_iff]
 simp only [PA.Ev.mk.injEq,true_and]
 constructor
 ·rintro ⟨a,b,c,d,e,g⟩;exact⟨g,a,b,c,d,e⟩
 ·rintro ⟨g,a,b,c,d,e⟩;exact⟨a,b,c,d,e,g⟩
theorem rb3 (r p i f:Int) (l t:List Int):PA.Bb ⟨3,r,p,i,f,l,t⟩=(decide (Gq i f)&&Dj ⟨3,r,p,i,f,l,t⟩ ⟨3,0,0,i,f, [], []⟩):=by
 rw [Bool.eq_iff_iff,Bool.and_eq_true,Io,decide_eq_true_iff]
 unfold PA.Bb Gq
 rw [if_neg (show¬(3:Int)=1 by decide),if_neg (show¬(3:Int)=2 by decide),if_pos rfl,decide_eq_true_iff]
 simp only [PA.Ev.mk.injEq,true_and]
 constructor
 ·rintro ⟨a,b,c,d,g⟩;exact⟨g,a,b,c,d⟩
 ·rintro ⟨g,a,b,c,d⟩;exact⟨a,b,c,d,g⟩
theorem rb4 (r p i f:Int) (l t:List Int):PA.Bb ⟨4,r,p,i,f,l,t⟩=((decide (64<=f)&&(decide (f<=126)&&(decide (PA.Ca i)&&(decide (PA.EW p)&&decide (Cq l)))))&&(decide (r=0)&&decide (t= []))):=by
 rw [Bool.eq_iff_iff]
 unfold PA.Bb
 rw [if_neg (show¬(4:Int)=1 by decide),if_neg (show¬(4:Int)=2 by decide),if_neg (show¬(4:Int)=3 by decide),if_pos rfl,decide_eq_true_iff]
 simp only [Bool.and_eq_true,decide_eq_true_iff]
 unfold Cq
 constructor
 ·rintro ⟨a,b,c,d,g,h,x,y,z⟩;exact⟨⟨g,h,d,c,x,y,z⟩,a,b⟩
 ·rintro ⟨⟨g,h,d,c,x,y,z⟩,a,b⟩;exact⟨a,b,c,d,g,h,x,y,z⟩
theorem rb5 (r p i f:Int) (l t:List Int):PA.Bb ⟨5,r,p,i,f,l,t⟩=(decide (Gx t)&&Dj ⟨5,r,p,i,f,l,t⟩ ⟨5,0,0,0,0, [],t⟩):=by
 rw [Bool.eq_iff_iff,Bool.and_eq_true,Io,decide_eq_true_iff]
 unfold PA.Bb Gx
 rw [if_neg (show¬(5:Int)=1 by decide),if_neg (show¬(5:Int)=2 by decide),if_neg (show¬(5:Int)=3 by decide),if_neg (show¬(5:Int)=4 by decide),if_pos rfl,decide_eq_true_iff]
 simp only [PA.Ev.mk.injEq,true_and,and_true]
 constructor
 ·rintro ⟨a,b,c,d,e,g⟩;exact⟨g,a,b,c,d,e⟩
 ·rintro ⟨g,a,b,c,d,e⟩;exact⟨a,b,c,d,e,g⟩
theorem rb0 (k r p i f:Int) (l t:List Int) (h1:k≠1) (h2:k≠2) (h3:k≠3) (h4:k≠4) (h5:k≠5):PA.Bb ⟨k,r,p,i,f,l,t⟩=false:=by
 unfold PA.Bb
 rw [if_neg h1,if_neg h2,if_neg h3,if_neg h4,if_neg h5]
theorem iH (r p i f:Int) (A:Option Addr) (n c:Nat) (l t:List Int) (w:World) (hA:Seen w w.heap.size A n (CG l)) (hn:n<=1099511627776) (h0:0<=f) (ht: ∀x∈t,0<=x/\x<256):
  Calls Tryz.prog 115 #[.agg #[.int .i64 1,.int .i32 r,.int .u8 p,.int .u8 i,.int .u8 f,.slice A n c,.string (strOfNums t)]] w fun e w'=>e=.returned (.bool (PA.Bb ⟨1,r,p,i,f,l,t⟩))/\Below w.heap.size w w':=by
 have HB:=hide (fun o:Obj=>(Below.refl w.heap.size w).alloc (Nat.le_refl _) o)
 have SM:=hide (fun w1 (b1:Below w.heap.size w w1)=>GV 1 r p i f 1 r 0 0 0 A none n c 0 0 l [] t [] w1 ((hA.below b1).more b1.size) (Seen.I8 _ _ _) hn ht (by simp))
 have CF:=hide (Mk r)
 have RB:=hide (rb1 r p i f l t)
 generalize PA.Bb ⟨1,r,p,i,f,l,t⟩=R at RB⊢
 generalize Dj ⟨1,r,p,i,f,l,t⟩ ⟨1,r,0,0,0, [], []⟩=S at*
 generalize decide (PA.Es r)=b1 at*
 clear hA ht
 rcases b1 with _ | _
 ·have HE:=hide (show R=false by rw [RB.out];rfl)
  go_enter Tryz.func115,Tryz.ntmps115
  go_wp2_with fail
  refine(CF.out _).mono ?_
  rintro e w1 ⟨rfl,rfl⟩
  go_wp2_with fail
  go_ret
  exact⟨IW HE.out,HB.out _⟩
 ·have HE:=hide (show R=S by rw [RB.out];rfl)
  go_enter Tryz.func115,Tryz.ntmps115
  go_wp2_with fail
  refine(CF.out _).mono ?_
  rintro e w1 ⟨rfl,rfl⟩
  go_wp2_with fail
  refine(SM.out _ (HB.out _)).mono ?_
  rintro e w3 ⟨rfl,b3⟩
  have b4:=(HB.out _).trans (b3.mono (by simp))
  clear b3
  go_wp2_with fail
  go_ret
  exact⟨IW HE.out,b4⟩
theorem iI (r p i f:Int) (A:Option Addr) (n c:Nat) (l t:List Int) (w:World) (hA:Seen w w.heap.size A n (CG l)) (hn:n<=1099511627776) (h0:0<=f) (ht: ∀x∈t,0<=x/\x<256):
  Calls Tryz.prog 115 #[.agg #[.int .i64 2,.int .i32 r,.int .u8 p,.int .u8 i,.int .u8 f,.slice A n c,.string (strOfNums t)]] w fun e w'=>e=.returned (.bool (PA.Bb ⟨2,r,p,i,f,l,t⟩))/\Below w.heap.size w w':=by
 have HB:=hide (fun o:Obj=>(Below.refl w.heap.size w).alloc (Nat.le_refl _) o)
 have SM:=hide (fun w1 (b1:Below w.heap.size w w1)=>GV 2 r p i f 2 0 0 0 f A none n c 0 0 l [] t [] w1 ((hA.below b1).more b1.size) (Seen.I8 _ _ _) hn ht (by simp))
 have CF:=hide (fun w=>Ml f w h0)
 have RB:=hide (rb2 r p i f l t)
 generalize PA.Bb ⟨2,r,p,i,f,l,t⟩=R at RB⊢
 generalize Dj ⟨2,r,p,i,f,l,t⟩ ⟨2,0,0,0,f, [], []⟩=S at*
 generalize decide (FQ f)=b1 at*
 clear hA ht
 rcases b1 with _ | _
 ·have HE:=hide (show R=false by rw [RB.out];rfl)
  go_enter Tryz.func115,Tryz.ntmps115
  go_wp2_with fail
  refine(CF.out _).mono ?_
  rintro e w1 ⟨rfl,rfl⟩
  go_wp2_with fail
  go_ret
  exact⟨IW HE.out,HB.out _⟩
 ·have HE:=hide (show R=S by rw [RB.out];rfl)
  go_enter Tryz.func115,Tryz.ntmps115
  go_wp2_with fail
  refine(CF.out _).mono ?_
  rintro e w1 ⟨rfl,rfl⟩
  go_wp2_with fail
  refine(SM.out _ (HB.out _)).mono ?_
  rintro e w3 ⟨rfl,b3⟩
  have b4:=(HB.out _).trans (b3.mono (by simp))
  clear b3
  go_wp2_with fail
  go_ret
  exact⟨IW HE.out,b4⟩
theorem iJ (r p i f:Int) (A:Option Addr) (n c:Nat) (l t:List Int) (w:World) (hA:Seen w w.heap.size A n (CG l)) (hn:n<=1099511627776) (h0:0<=f) (ht: ∀x∈t,0<=x/\x<256):
  Calls Tryz.prog 115 #[.agg #[.int .i64 3,.int .i32 r,.int .u8 p,.int .u8 i,.int .u8 f,.slice A n c,.string (strOfNums t)]] w fun e w'=>e=.returned (.bool (PA.Bb ⟨3,r,p,i,f,l,t⟩))/\Below w.heap.size w w':=by
 have HB:=hide (fun o:Obj=>(Below.refl w.heap.size w).alloc (Nat.le_refl _) o)
 have SM:=hide (fun w1 (b1:Below w.heap.size w w1)=>GV 3 r p i f 3 0 0 i f A none n c 0 0 l [] t [] w1 ((hA.below b1).more b1.size) (Seen.I8 _ _ _) hn ht (by simp))
 have CF:=hide (OT i f)
 have RB:=hide (rb3 r p i f l t)
 generalize PA.Bb ⟨3,r,p,i,f,l,t⟩=R at RB⊢
 generalize Dj ⟨3,r,p,i,f,l,t⟩ ⟨3,0,0,i,f, [], []⟩=S at*
 generalize decide (Gq i f)=b1 at*
 clear hA ht
 rcases b1 with _ | _
 ·have HE:=hide (show R=false by rw [RB.out];rfl)
  go_enter Tryz.func115,Tryz.ntmps115
  go_wp2_with fail
  refine(CF.out _).mono ?_
  rintro e w1 ⟨rfl,rfl⟩
  go_wp2_with fail
  go_ret
  exact⟨IW HE.out,HB.out _⟩
 ·have HE:=hide (show R=S by rw [RB.out];rfl)
  go_enter Tryz.func115,Tryz.ntmps115
  go_wp2_with fail
  refine(CF.out _).mono ?_
  rintro e w1 ⟨rfl,rfl⟩
  go_wp2_with fail
  refine(SM.out _ (HB.out _)).mono ?_
  rintro e w3 ⟨rfl,b3⟩
  have b4:=(HB.out _).trans (b3.mono (by simp))
  clear b3
  go_wp2_with fail
  go_ret
  exact⟨IW HE.out,b4⟩
theorem iK (r p i f:Int) (A:Option Addr) (n c:Nat) (l t:List Int) (w:World) (hA:Seen w w.heap.size A n (CG l)) (hn:n<=1099511627776) (h0:0<=f) (ht: ∀x∈t,0<=x/\x<256):
  Calls Tryz.prog 115 #[.agg #[.int .i64 5,.int .i32 r,.int .u8 p,.int .u8 i,.int .u8 f,.slice A n c,.string (strOfNums t)]] w fun e w'=>e=.returned (.bool (PA.Bb ⟨5,r,p,i,f,l,t⟩))/\Below w.heap.size w w':=by
 have HB:=hide (fun o:Obj=>(Below.refl w.heap.size w).alloc (Nat.le_refl _) o)
 have SM:=hide (fun w1 (b1:Below w.heap.size w w1)=>GV 5 r p i f 5 0 0 0 0 A none n c 0 0 l [] t t w1 ((hA.below b1).more b1.size) (Seen.I8 _ _ _) hn ht ht)
 have CF:=hide (fun w=>Mr t w ht)
 have RB:=hide (rb5 r p i f l t)
 generalize PA.Bb ⟨5,r,p,i,f,l,t⟩=R at RB⊢
 generalize Dj ⟨5,r,p,i,f,l,t⟩ ⟨5,0,0,0,0, [],t⟩=S at*
 generalize decide (Gx t)=b1 at*
 clear hA ht
 rcases b1 with _ | _
 ·have HE:=hide (show R=false by rw [RB.out];rfl)
  go_enter Tryz.func115,Tryz.ntmps115
  go_wp2_with fail
  refine(CF.out _).mono ?_
  rintro e w1 ⟨rfl,bb⟩
  have b2:=(HB.out _).trans (bb.mono (by simp))
  obtain⟨k0,k1,k2,k3,k4,k5,k6⟩:=Box.seven ((Box.new w 34 #[.int .i64 5,.int .i32 r,.int .u8 p,.int .u8 i,.int .u8 f,.slice A n c,.string (strOfNums t)]).below bb (by simp))
  clear bb
  go_wp2_with fail
  go_ret
  exact⟨IW HE.out,b2⟩
 ·have HE:=hide (show R=S by rw [RB.out];rfl)
  go_enter Tryz.func115,Tryz.ntmps115
  go_wp2_with fail
  refine(CF.out _).mono ?_
  rintro e w1 ⟨rfl,bb⟩
  have b2:=(HB.out _).trans (bb.mono (by simp))
  obtain⟨k0,k1,k2,k3,k4,k5,k6⟩:=Box.seven ((Box.new w 34 #[.int .i64 5,.int .i32 r,.int .u8 p,.int .u8 i,.int .u8 f,.slice A n c,.string (strOfNums t)]).below bb (by simp))
  clear bb
  go_wp2_with fail
  refine(SM.out _ b2).mono ?_
  rintro e w3 ⟨rfl,b3⟩
  have b4:=b2.trans (b3.mono b2.size)
  clear b3
  go_wp2_with fail
  go_ret
  exact⟨IW HE.out,b4⟩
theorem iL (r p i f:Int) (A:Option Addr) (n c:Nat) (l t:List Int) (w:World) (hA:Seen w w.heap.size A n (CG l)) (hn:n<=1099511627776) (h0:0<=f) (ht: ∀x∈t,0<=x/\x<256):
  Calls Tryz.prog 115 #[.agg #[.int .i64 4,.int .i32 r,.int .u8 p,.int .u8 i,.int .u8 f,.slice A n c,.string (strOfNums t)]] w fun e w'=>e=.returned (.bool (PA.Bb ⟨4,r,p,i,f,l,t⟩))/\Below w.heap.size w w':=by
 have HB:=hide (fun o:Obj=>(Below.refl w.heap.size w).alloc (Nat.le_refl _) o)
 have CF:=hide (fun o:Obj=>OX 4 r p i f A n c l t (w.alloc o) ((hA.alloc (Nat.le_refl _) _).more (by simp)))
 have RB:=hide (rb4 r p i f l t)
 have hts:(strOfNums t).toList.isEmpty=decide (t= []):=by rw [Et,Bool.eq_iff_iff];simp
 generalize PA.Bb ⟨4,r,p,i,f,l,t⟩=R at RB⊢
 generalize (decide (64<=f)&&(decide (f<=126)&&(decide (PA.Ca i)&&(decide (PA.EW p)&&decide (Cq l)))))=b1 at*
 generalize decide (t= [])=bt at*
 generalize strOfNums t=s at*
 clear hA ht
 rcases b1 with _ | _
 ·have HE:=hide (show R=false by rw [RB.out];rfl)
  go_enter Tryz.func115,Tryz.ntmps115
  go_wp2_with fail
  refine(CF.out _).mono ?_
  rintro e w1 ⟨rfl,bb⟩
  have b2:=(HB.out _).trans (bb.mono (by simp))
  clear bb
  go_wp2_with fail
  go_ret
  exact⟨IW HE.out,b2⟩
 by_cases hr:r=0
 ·subst hr
  have HE:=hide (show R=bt by rw [RB.out];simp)
  have HTS:=hide hts
  clear hts
  go_enter Tryz.func115,Tryz.ntmps115
  go_wp2_with fail
  have bx:=Box.new w 34 #[.int .i64 4,.int .i32 0,.int .u8 p,.int .u8 i,.int .u8 f,.slice A n c,.string s]
  refine(CF.out _).mono ?_
  rintro e w1 ⟨rfl,bb⟩
  have b2:=(HB.out _).trans (bb.mono (by simp))
  obtain⟨k0,k1,k2,k3,k4,k5,k6⟩:=Box.seven (bx.below bb (by simp))
  clear bb bx
  go_wp2_with fail
  go_ret
  exact⟨IW (HE.out.trans HTS.out.symm),b2⟩
 ·have d0:(r==0)=false:=by simpa using hr
  have HE:=hide (show R=false by rw [RB.out];simp [hr])
  clear hr
  go_enter Tryz.func115,Tryz.ntmps115
  go_wp2_with fail
  have bx:=Box.new w 34 #[.int .i64 4,.int .i32 r,.int .u8 p,.int .u8 i,.int .u8 f,.slice A n c,.string s]
  refine(CF.out _).mono ?_
  rintro e w1 ⟨rfl,bb⟩
  have b2:=(HB.out _).trans (bb.mono (by simp))
  obtain⟨k0,k1,k2,k3,k4,k5,k6⟩:=Box.seven (bx.below bb (by simp))
  clear bb bx
  go_wp2_with fail
  go_ret
  exact⟨IW HE.out,b2⟩
theorem iM (k r p i f:Int) (A:Option Addr) (n c:Nat) (l t:List Int) (w:World) (hA:Seen w w.heap.size A n (CG l)) (hn:n<=1099511627776) (h0:0<=f) (ht: ∀x∈t,0<=x/\x<256) (h1:k≠1) (h2:k≠2) (h3:k≠3) (h4:k≠4) (h5:k≠5):
  Calls Tryz.prog 115 #[.agg #[.int .i64 k,.int .i32 r,.int .u8 p,.int .u8 i,.int .u8 f,.slice A n c,.string (strOfNums t)]] w fun e w'=>e=.returned (.bool (PA.Bb ⟨k,r,p,i,f,l,t⟩))/\Below w.heap.size w w':=by
 have HE:=hide (rb0 k r p i f l t h1 h2 h3 h4 h5)
 have e1:(k==1)=false:=by simpa using h1
 have e2:(k==2)=false:=by simpa using h2
 have e3:(k==3)=false:=by simpa using h3
 have e4:(k==4)=false:=by simpa using h4
 have e5:(k==5)=false:=by simpa using h5
 clear h1 h2 h3 h4 h5 hA ht
 go_enter Tryz.func115,Tryz.ntmps115
 go_wp2_with fail
 go_ret
 exact⟨IW HE.out,(Below.refl _ _).alloc (Nat.le_refl _) _⟩
theorem Kc (k r p i f:Int) (A:Option Addr) (n c:Nat) (l t:List Int) (w:World) (hA:Seen w w.heap.size A n (CG l)) (hn:n<=1099511627776) (h0:0<=f) (ht: ∀x∈t,0<=x/\x<256):
  Calls Tryz.prog 115 #[.agg #[.int .i64 k,.int .i32 r,.int .u8 p,.int .u8 i,.int .u8 f,.slice A n c,.string (strOfNums t)]] w fun e w'=>e=.returned (.bool (PA.Bb ⟨k,r,p,i,f,l,t⟩))/\Below w.heap.size w w':=by
 by_cases h1:k=1
 ·subst h1;exact iH r p i f A n c l t w hA hn h0 ht
 by_cases h2:k=2
 ·subst h2;exact iI r p i f A n c l t w hA hn h0 ht
 by_cases h3:k=3
 ·subst h3;exact iJ r p i f A n c l t w hA hn h0 ht
 by_cases h4:k=4
 ·subst h4;exact iL r p i f A n c l t w hA hn h0 ht
 by_cases h5:k=5
 ·subst h5;exact iK r p i f A n c l t w hA hn h0 ht
 exact iM k r p i f A n c l t w hA hn h0 ht h1 h2 h3 h4 h5
end Go.Proofs.YtoaabebgmdbjeaaGreatDoor
namespace Go.Proofs.YtoaabebgmdbjeaaGreatDoor
open Go.RowKit
theorem IX (r:Int) (w:World):Calls Tryz.prog 206 #[.int .i32 r] w fun e w'=>e=.returned (.int .u8 (U.tl r))/\w=w':=by
 have e1:=XD 6 (by omega) r
 have e2:=Zr 6 128 (r%64) (by omega) (by omega) (by omega) (by omega) (by omega)
 have e3:U.tl r=128+r%64:=rfl
 have e4:r%64%256=r%64:=by omega
 have E:=hide (And.intro e1 (And.intro e2 (And.intro e3 e4)))
 clear e1 e2 e3 e4
 go_enter Tryz.func206,Tryz.ntmps206
 go_wp2
 go_ret
 obtain⟨e1,e2,e3,e4⟩:=E.out
 refine⟨Ru ?_,rfl⟩
 simp at e1
 rw [e3]
 show bits .or .u8 128 (bits .and .i32 r 63%256)=_
 rw [e1,e4,e2]
end Go.Proofs.YtoaabebgmdbjeaaGreatDoor
namespace Go.Proofs.YtoaabebgmdbjeaaGreatDoor
open Go.RowKit
theorem Hz (base:Nat) (v:Value) (n:Nat) (xs:List Value) (r:Int) (w:World) (hown:w.ownsRow base 5 1 v n xs) (hn:n<=1099511627772) (hbase:base<=w.heap.size) (hr:U.isR r=true) (h:0<=r/\r<128):
  Calls Tryz.prog 188 #[v,.int .i32 r] w (Q0 base 5 w v n xs (u8s (U.en r)) fun v'=>v'):=by
 obtain⟨i0,hi,hz0,hz1,hz2⟩:=info_parts ET
 have he:U.en r= [r] :=by unfold U.en;repeat(first | rw [if_pos (by omega)] | rw [if_neg (by omega)])
 rw [he]
 clear he
 have CI:=hide (Fw r)
 have CS:=hide (IQ r)
 have CT:=hide IX
 go_enter Tryz.func188,Tryz.ntmps188
 go_wp2_with (first
  | (go_at_call 204;go_must (refine(CI.out _).mono ?_);rintro e w' ⟨rfl,rfl⟩;rw [hr])
  | (go_at_call 205;go_must (refine(CS.out _).mono ?_);rintro e w' ⟨rfl,rfl⟩;rw [show U.sz r=1 from by unfold U.sz;repeat(first | rw [if_pos (by omega)] | rw [if_neg (by omega)])])
  | (go_at_call 206;go_must (refine(CT.out _ _).mono ?_);rintro e w' ⟨rfl,rfl⟩)
  | (at_builtin;go_must (refine EY rfl (.tmp 13) (.tmp 16) 30 rfl base 5 i0 _ 1 Tryz.underlying30 hi hz0 hz1 hz2 rfl v n xs rfl hown _ _ _ 1 rfl rfl (by simp) (by simp [Value.oneCell']) (by omega) (by omega) hbase ?_);intro v' w1 hown1 hg1 hm1))
 go_ret
 exact⟨v',rfl,hown1,hg1,hm1⟩
theorem put2 (base:Nat) (v:Value) (n:Nat) (xs:List Value) (r:Int) (w:World) (hown:w.ownsRow base 5 1 v n xs) (hn:n<=1099511627772) (hbase:base<=w.heap.size) (hr:U.isR r=true) (h:128<=r/\r<2048):
  Calls Tryz.prog 188 #[v,.int .i32 r] w (Q0 base 5 w v n xs (u8s (U.en r)) fun v'=>v'):=by
 obtain⟨i0,hi,hz0,hz1,hz2⟩:=info_parts ET
 have he:U.en r= [192+r / 64,U.tl r] :=by unfold U.en;repeat(first | rw [if_pos (by omega)] | rw [if_neg (by omega)])
 rw [he]
 clear he
 have CI:=hide (Fw r)
 have CS:=hide (IQ r)
 have CT:=hide IX
 go_enter Tryz.func188,Tryz.ntmps188
 go_wp2_with (first
  | (go_at_call 204;go_must (refine(CI.out _).mono ?_);rintro e w' ⟨rfl,rfl⟩;rw [hr])
  | (go_at_call 205;go_must (refine(CS.out _).mono ?_);rintro e w' ⟨rfl,rfl⟩;rw [show U.sz r=2 from by unfold U.sz;repeat(first | rw [if_pos (by omega)] | rw [if_neg (by omega)])])
  | (go_at_call 206;go_must (refine(CT.out _ _).mono ?_);rintro e w' ⟨rfl,rfl⟩)
  | (at_builtin;go_must (refine EY rfl (.tmp 20) (.tmp 27) 30 rfl base 5 i0 _ 1 Tryz.underlying30 hi hz0 hz1 hz2 rfl v n xs rfl hown _ _ _ 2 rfl rfl (by simp) (by simp [Value.oneCell']) (by omega) (by omega) hbase ?_);intro v' w1 hown1 hg1 hm1))
 go_ret
 exact⟨v',rfl,hown1,hg1,hm1⟩
theorem put3 (base:Nat) (v:Value) (n:Nat) (xs:List Value) (r:Int) (w:World) (hown:w.ownsRow base 5 1 v n xs) (hn:n<=1099511627772) (hbase:base<=w.heap.size) (hr:U.isR r=true) (h:2048<=r/\r<65536):
  Calls Tryz.prog 188 #[v,.int .i32 r] w (Q0 base 5 w v n xs (u8s (U.en r)) fun v'=>v'):=by
 obtain⟨i0,hi,hz0,hz1,hz2⟩:=info_parts ET
 have he:U.en r= [224+r / 4096,U.tl (r / 64),U.tl r] :=by unfold U.en;repeat(first | rw [if_pos (by omega)] | rw [if_neg (by omega)])
 rw [he]
 clear he
 have CI:=hide (Fw r)
 have CS:=hide (IQ r)
 have CT:=hide IX
 go_enter Tryz.func188,Tryz.ntmps188
 go_wp2_with (first
  | (go_at_call 204;go_must (refine(CI.out _).mono ?_);rintro e w' ⟨rfl,rfl⟩;rw [hr])
  | (go_at_call 205;go_must (refine(CS.out _).mono ?_);rintro e w' ⟨rfl,rfl⟩;rw [show U.sz r=3 from by unfold U.sz;repeat(first | rw [if_pos (by omega)] | rw [if_neg (by omega)])])
  | (go_at_call 206;go_must (refine(CT.out _ _).mono ?_);rintro e w' ⟨rfl,rfl⟩)
  | (at_builtin;go_must (refine EY rfl (.tmp 31) (.tmp 41) 30 rfl base 5 i0 _ 1 Tryz.underlying30 hi hz0 hz1 hz2 rfl v n xs rfl hown _ _ _ 3 rfl rfl (by simp) (by simp [Value.oneCell']) (by omega) (by omega) hbase ?_);intro v' w1 hown1 hg1 hm1))
 go_ret
 exact⟨v',rfl,hown1,hg1,hm1⟩
theorem put4 (base:Nat) (v:Value) (n:Nat) (xs:List Value) (r:Int) (w:World) (hown:w.ownsRow base 5 1 v n xs) (hn:n<=1099511627772) (hbase:base<=w.heap.size) (hr:U.isR r=true) (h:65536<=r/\r<1114112):
  Calls Tryz.prog 188 #[v,.int .i32 r] w (Q0 base 5 w v n xs (u8s (U.en r)) fun v'=>v'):=by
 obtain⟨i0,hi,hz0,hz1,hz2⟩:=info_parts ET
 have he:U.en r= [240+r / 262144,U.tl (r / 4096),U.tl (r / 64),U.tl r] :=by unfold U.en;repeat(first | rw [if_pos (by omega)] | rw [if_neg (by omega)])
 rw [he]
 clear he
 have CI:=hide (Fw r)
 have CS:=hide (IQ r)
 have CT:=hide IX
 go_enter Tryz.func188,Tryz.ntmps188
 go_wp2_with (first
  | (go_at_call 204;go_must (refine(CI.out _).mono ?_);rintro e w' ⟨rfl,rfl⟩;rw [hr])
  | (go_at_call 205;go_must (refine(CS.out _).mono ?_);rintro e w' ⟨rfl,rfl⟩;rw [show U.sz r=4 from by unfold U.sz;repeat(first | rw [if_pos (by omega)] | rw [if_neg (by omega)])])
  | (go_at_call 206;go_must (refine(CT.out _ _).mono ?_);rintro e w' ⟨rfl,rfl⟩)
  | (at_builtin;go_must (refine EY rfl (.tmp 43) (.tmp 56) 30 rfl base 5 i0 _ 1 Tryz.underlying30 hi hz0 hz1 hz2 rfl v n xs rfl hown _ _ _ 4 rfl rfl (by simp) (by simp [Value.oneCell']) (by omega) (by omega) hbase ?_);intro v' w1 hown1 hg1 hm1))
 go_ret
 exact⟨v',rfl,hown1,hg1,hm1⟩
theorem put0 (base:Nat) (v:Value) (n:Nat) (xs:List Value) (r:Int) (w:World) (hown:w.ownsRow base 5 1 v n xs) (hn:n<=1099511627772) (hbase:base<=w.heap.size) (hr:U.isR r=false) (hr0: -2147483648<=r) (hr1:r<=2147483647):
  Calls Tryz.prog 188 #[v,.int .i32 r] w (Q0 base 5 w v n xs (u8s [239,191,189]) fun v'=>v'):=by
 obtain⟨i0,hi,hz0,hz1,hz2⟩:=info_parts ET
 have CI:=hide (Fw r)
 have CS:=hide (IQ 65533)
 have CT:=hide IX
 have hz:U.sz 65533=3:=by simp [U.sz]
 rw [hz] at CS
 clear hz
 have t1:U.tl 1023=191:=by simp [U.tl]
 have t2:U.tl 65533=189:=by simp [U.tl]
 go_enter Tryz.func188,Tryz.ntmps188
 go_wp2_with (first
  | (go_at_call 204;go_must (refine(CI.out _).mono ?_);rintro e w' ⟨rfl,rfl⟩;rw [hr])
  | (go_at_call 205;go_must (refine(CS.out _).mono ?_);rintro e w' ⟨rfl,rfl⟩)
  | (go_at_call 206;go_must (refine(CT.out _ _).mono ?_);rintro e w' ⟨rfl,rfl⟩)
  | (at_builtin;go_must (refine EY rfl (.tmp 31) (.tmp 41) 30 rfl base 5 i0 _ 1 Tryz.underlying30 hi hz0 hz1 hz2 rfl v n xs rfl hown _ _ _ 3 rfl rfl (by simp) (by simp [Value.oneCell']) (by omega) (by omega) hbase ?_);intro v' w1 hown1 hg1 hm1))
 go_ret
 exact⟨v',rfl,hown1,hg1,hm1⟩
theorem bH (base:Nat) (v:Value) (n:Nat) (xs:List Value) (r:Int) (w:World) (hown:w.ownsRow base 5 1 v n xs) (hn:n<=1099511627772) (hbase:base<=w.heap.size) (hr0: -2147483648<=r) (hr1:r<=2147483647):
  Calls Tryz.prog 188 #[v,.int .i32 r] w (Q0 base 5 w v n xs (u8s (U.en1 r)) fun v'=>v'):=by
 rcases hr:U.isR r with _ | _
 ·rw [show U.en1 r= [239,191,189] from by simp [U.en1,hr]]
  exact put0 base v n xs r w hown hn hbase hr hr0 hr1
 ·rw [show U.en1 r=U.en r from by simp [U.en1,hr]]
  have h:=hr
  simp [U.isR] at h
  have cs:(0<=r/\r<128)\/(128<=r/\r<2048)\/(2048<=r/\r<65536)\/(65536<=r/\r<1114112):=by omega
  rcases cs with c | c | c | c
  ·exact Hz base v n xs r w hown hn hbase hr c
  ·exact put2 base v n xs r w hown hn hbase hr c
  ·exact put3 base v n xs r w hown hn hbase hr c
  ·exact put4 base v n xs r w hown hn hbase hr c
def UL (w:World) (l:List Int) (e:Ending) (w':World):Prop:=
 ∃v',e=.returned v'/\w'.ownsRow w.heap.size 5 1 v' l.length (u8s l)/\Below w.heap.size w w'
theorem Rx (A:Option Addr) (n c:Nat) (l:List Int) (w:World) (hA:Seen w w.heap.size A n (Zt l)) (hl: ∀x∈l, -2147483648<=x/\x<=2147483647) (hn:n<=137438953472):
  Calls Tryz.prog 153 #[.slice A n c] w (UL w (U.enc l)):=by
 have hlen:l.length=n:=by simpa [Zt] using hA.1
 have HA:=hide hA
 have HN:=hide hlen
 have HL:=hide hl
 clear hA hlen hl
 go_enter Tryz.func153,Tryz.ntmps153
 go_wp2
 go_loopw [3,8] (fun v i wr=> ∃k:Nat,k<=n/\i=.int .i64 k/\wr.ownsRow w.heap.size 5 1 v (U.enc (l.take k)).length (u8s (U.enc (l.take k)))/\Below w.heap.size w wr)
  (fun _ i _=>n-(intOf i).toNat)
 case atStart=>exact⟨0,Nat.zero_le _,rfl,World.ownsRow_nil _ _ _ _,Below.refl _ _⟩
 case round=>
  obtain⟨k,hk,rfl,hown,hbel⟩:=hrel
  by_cases hlt:k<n
  ·obtain⟨ad,u,rfl,_,hu,hc⟩:=(HA.out.below hbel).at_ hlt
   rw [Zt,List.getElem?_map] at hu
   obtain⟨x,hx,rfl⟩:=Option.map_eq_some_iff.1 hu
   have hs1:=U.XJ (l.take k) x
   rw [show l.take k++ [x] =l.take (k+1) from by rw [List.take_add_one,hx];rfl] at hs1
   have hlen:=U.aD (l.take k)
   rw [List.length_take] at hlen
   generalize U.enc (l.take k)=ys at hs1 hown hlen
   have ci:=bH w.heap.size u3 ys.length (u8s ys) x wr hown (by omega) hbel.size (HL.out x (List.mem_of_getElem? hx)).1 (HL.out x (List.mem_of_getElem? hx)).2
   generalize U.en1 x=ts at hs1 ci
   have CI:=hide ci
   have HS:=hide hs1
   clear hu hx hs1 ci
   go_wp2_with (go_at_call 188;go_must (refine CI.out.mono ?_);rintro e w1 ⟨v',rfl,hown1,hg1,hm1⟩)
   go_roundw
   case rel=>
    refine⟨k+1,by omega,by go_num,?_,hbel.grown hg1 hbel.size (fun g hg=>(hown.lt g hg).1)⟩
    rw [HS.out]
    simpa [u8s] using hown1
   case measure=>simp [intOf];omega
  ·obtain rfl:k=n:=by omega
   rw [List.take_of_length_le (by rw [HN.out];omega)] at hown
   go_wp2
   go_ret
   exact⟨u3,rfl,hown,hbel⟩
end Go.Proofs.YtoaabebgmdbjeaaGreatDoor
namespace Go.Proofs.YtoaabebgmdbjeaaGreatDoor
open Go.RowKit
def Made (w:World) (p f:Int) (l:List Int) (e:Ending) (w':World):Prop:=
 ∃v',e=.returned (.agg #[.int .i64 4,.int .i32 0,.int .u8 p,.int .u8 0,.int .u8 f,v',.string ⟨#[]⟩])/\w'.ownsRow w.heap.size 3 1 v' l.length (CG l)/\Below w.heap.size w w'
def Cx (l:List Int):List Int:=if l= [-1] then [] else l
section
variable {w w1:World} {g B:Nat} {t:TypeId} {a b c d e f h:Value}
theorem Box.Iy (bx:Box w1 g t #[a,b,c,d,e,f,h]) (p0 p1 p2 p3 p4 p5 p6:Value):Box (((((((w1.setCell ⟨g,0,none⟩ p0).setCell ⟨g,1,none⟩ p1).setCell ⟨g,2,none⟩ p2).setCell ⟨g,3,none⟩ p3).setCell ⟨g,4,none⟩ p4).setCell ⟨g,5,none⟩ p5).setCell ⟨g,6,none⟩ p6) g t #[p0,p1,p2,p3,p4,p5,p6] :=by
 have:=((((((bx.set 0 p0).set 1 p1).set 2 p2).set 3 p3).set 4 p4).set 5 p5).set 6 p6
 simpa using this
theorem Cg (hb:Below B w w1) (hg:B<=g) (p0 p1 p2 p3 p4 p5 p6:Value):Below B w (((((((w1.setCell ⟨g,0,none⟩ p0).setCell ⟨g,1,none⟩ p1).setCell ⟨g,2,none⟩ p2).setCell ⟨g,3,none⟩ p3).setCell ⟨g,4,none⟩ p4).setCell ⟨g,5,none⟩ p5).setCell ⟨g,6,none⟩ p6):=
 ((((((hb.setCell hg _).setCell hg _).setCell hg _).setCell hg _).setCell hg _).setCell hg _).setCell hg _
theorem L6 {base size n:Nat} {et:TypeId} {v:Value} {xs:List Value} (ho:w1.ownsRow base et size v n xs) (hg:v.ownBlock≠some g) (p0 p1 p2 p3 p4 p5 p6:Value):(((((((w1.setCell ⟨g,0,none⟩ p0).setCell ⟨g,1,none⟩ p1).setCell ⟨g,2,none⟩ p2).setCell ⟨g,3,none⟩ p3).setCell ⟨g,4,none⟩ p4).setCell ⟨g,5,none⟩ p5).setCell ⟨g,6,none⟩ p6).ownsRow base et size v n xs:=
 D7 (D7 (D7 (D7 (D7 (D7 (D7 ho hg _) hg _) hg _) hg _) hg _) hg _) hg _
end
theorem bI (f:Int) (A:Option Addr) (n c:Nat) (l:List Int) (w:World) (hA:Seen w w.heap.size A n (CG l)) (hn:n<=1099511627776):
  Calls Tryz.prog 30 #[.int .u8 f,.slice A n c] w (Made w 0 f (Cx l)):=by
 have hl:l.length=n:=by simpa [CG] using hA.1
 have OW:=hide (fun (o:Obj)=>UK A n c l (w.alloc o) ((hA.alloc (Nat.le_refl _) _).more (by simp)) hn)
 have ON:=hide (fun (o:Obj)=>UK none 0 0 [] (w.alloc o) (Seen.I8 _ _ _) (by omega))
 have HL:=hide hl
 by_cases h1:n=1
 ·obtain⟨ad,u,rfl,_,hu,hc⟩:=hA.at_ (k:=0) (by omega)
  rw [CG,List.getElem?_map] at hu
  obtain⟨x,hx,rfl⟩:=Option.map_eq_some_iff.1 hu
  have hll:l= [x] :=by
   rcases l with _ | ⟨y,_ | ⟨z,l⟩⟩<;>simp at hl hx<;>try omega
   subst hx
   rfl
  rw [show ad.add 0=ad from by simp [Addr.add]] at hc
  have hac:=fun o=>(World.cell?_alloc_lt w o ad (World.block_lt_of_cell? w ad hc)).trans hc
  have hd0:((n:Int)==1)=true:=by simp [h1]
  subst h1
  by_cases hx1:x= -1
  ·have HE:=hide (show Cx l= [] by unfold Cx;rw [hll,hx1];rfl)
   have hd:(x== -1)=true:=by simpa using hx1
   clear hA hl hu hx hll hx1
   go_enter Tryz.func30,Tryz.ntmps30
   go_wp2_with fail
   refine(ON.out _).mono ?_
   rintro e w1 ⟨v1,rfl,h1,b1⟩
   obtain⟨A1,c1,rfl,_⟩:=Gc h1
   have bx:=(Box.new w 34 #[.int .i64 0,.int .i32 0,.int .u8 0,.int .u8 0,.int .u8 0,.slice none 0 0,.string ⟨#[]⟩]).below b1 (by simp)
   have fr:=bx.frozen
   obtain⟨k0,k1,k2,k3,k4,k5,k6⟩:=Box.seven bx
   have bb:Below w.heap.size w w1:=((Below.refl _ w).alloc (Nat.le_refl _) _).trans (b1.mono (by simp))
   go_wp2_with fail
   obtain⟨j0,j1,j2,j3,j4,j5,j6⟩:=Box.seven (Box.Iy bx (.int .i64 4) (.int .i32 0) (.int .u8 0) (.int .u8 0) (.int .u8 f) (.slice A1 0 c1) (.string ⟨#[]⟩))
   have ow:=L6 h1 (Ad h1 bx (by decide)) (.int .i64 4) (.int .i32 0) (.int .u8 0) (.int .u8 0) (.int .u8 f) (.slice A1 0 c1) (.string ⟨#[]⟩)
   have bl:=Cg bb (Nat.le_refl _) (.int .i64 4) (.int .i32 0) (.int .u8 0) (.int .u8 0) (.int .u8 f) (.slice A1 0 c1) (.string ⟨#[]⟩)
   generalize (((((((w1.setCell ⟨w.heap.size,0,none⟩ (.int .i64 4)).setCell ⟨w.heap.size,1,none⟩ (.int .i32 0)).setCell ⟨w.heap.size,2,none⟩ (.int .u8 0)).setCell ⟨w.heap.size,3,none⟩ (.int .u8 0)).setCell ⟨w.heap.size,4,none⟩ (.int .u8 f)).setCell ⟨w.heap.size,5,none⟩ (.slice A1 0 c1)).setCell ⟨w.heap.size,6,none⟩ (.string ⟨#[]⟩))=W at*
   refine bodyPost_ret (v:=.agg #[.int .i64 4,.int .i32 0,.int .u8 0,.int .u8 0,.int .u8 f,.slice A1 0 c1,.string ⟨#[]⟩]) (by simp [results,Tryz.results30,go_sem,j0,j1,j2,j3,j4,j5,j6]) rfl ⟨_,rfl,?_,bl⟩
   rw [HE.out]
   exact own_base' ow (by simp)
  ·have HE:=hide (show Cx l=l by unfold Cx;rw [if_neg];rw [hll];simpa using hx1)
   have hd:(x== -1)=false:=by simpa using hx1
   clear hA hu hx hll hx1 hl
   go_enter Tryz.func30,Tryz.ntmps30
   go_wp2_with fail
   refine(OW.out _).mono ?_
   rintro e w1 ⟨v1,rfl,h1,b1⟩
   obtain⟨A1,c1,rfl,_⟩:=Gc h1
   have bx:=(Box.new w 34 #[.int .i64 0,.int .i32 0,.int .u8 0,.int .u8 0,.int .u8 0,.slice none 0 0,.string ⟨#[]⟩]).below b1 (by simp)
   have fr:=bx.frozen
   obtain⟨k0,k1,k2,k3,k4,k5,k6⟩:=Box.seven bx
   have bb:Below w.heap.size w w1:=((Below.refl _ w).alloc (Nat.le_refl _) _).trans (b1.mono (by simp))
   go_wp2_with fail
   obtain⟨j0,j1,j2,j3,j4,j5,j6⟩:=Box.seven (Box.Iy bx (.int .i64 4) (.int .i32 0) (.int .u8 0) (.int .u8 0) (.int .u8 f) (.slice A1 1 c1) (.string ⟨#[]⟩))
   have ow:=L6 h1 (Ad h1 bx (by decide)) (.int .i64 4) (.int .i32 0) (.int .u8 0) (.int .u8 0) (.int .u8 f) (.slice A1 1 c1) (.string ⟨#[]⟩)
   have bl:=Cg bb (Nat.le_refl _) (.int .i64 4) (.int .i32 0) (.int .u8 0) (.int .u8 0) (.int .u8 f) (.slice A1 1 c1) (.string ⟨#[]⟩)
   generalize (((((((w1.setCell ⟨w.heap.size,0,none⟩ (.int .i64 4)).setCell ⟨w.heap.size,1,none⟩ (.int .i32 0)).setCell ⟨w.heap.size,2,none⟩ (.int .u8 0)).setCell ⟨w.heap.size,3,none⟩ (.int .u8 0)).setCell ⟨w.heap.size,4,none⟩ (.int .u8 f)).setCell ⟨w.heap.size,5,none⟩ (.slice A1 1 c1)).setCell ⟨w.heap.size,6,none⟩ (.string ⟨#[]⟩))=W at*
   refine bodyPost_ret (v:=.agg #[.int .i64 4,.int .i32 0,.int .u8 0,.int .u8 0,.int .u8 f,.slice A1 1 c1,.string ⟨#[]⟩]) (by simp [results,Tryz.results30,go_sem,j0,j1,j2,j3,j4,j5,j6]) rfl ⟨_,rfl,?_,bl⟩
   rw [HE.out,HL.out]
   exact own_base' ow (by simp)
 ·have HE:=hide (show Cx l=l by unfold Cx;rw [if_neg (fun e=>h1 (by rw [<- hl,e];rfl))])
  have hd0:((n:Int)==1)=false:=by simp;omega
  clear hA hl h1
  ·go_enter Tryz.func30,Tryz.ntmps30
   go_wp2_with fail
   refine(OW.out _).mono ?_
   rintro e w1 ⟨v1,rfl,h1,b1⟩
   obtain⟨A1,c1,rfl,_⟩:=Gc h1
   have bx:=(Box.new w 34 #[.int .i64 0,.int .i32 0,.int .u8 0,.int .u8 0,.int .u8 0,.slice none 0 0,.string ⟨#[]⟩]).below b1 (by simp)
   have fr:=bx.frozen
   obtain⟨k0,k1,k2,k3,k4,k5,k6⟩:=Box.seven bx
   have bb:Below w.heap.size w w1:=((Below.refl _ w).alloc (Nat.le_refl _) _).trans (b1.mono (by simp))
   go_wp2_with fail
   obtain⟨j0,j1,j2,j3,j4,j5,j6⟩:=Box.seven (Box.Iy bx (.int .i64 4) (.int .i32 0) (.int .u8 0) (.int .u8 0) (.int .u8 f) (.slice A1 n c1) (.string ⟨#[]⟩))
   have ow:=L6 h1 (Ad h1 bx (by decide)) (.int .i64 4) (.int .i32 0) (.int .u8 0) (.int .u8 0) (.int .u8 f) (.slice A1 n c1) (.string ⟨#[]⟩)
   have bl:=Cg bb (Nat.le_refl _) (.int .i64 4) (.int .i32 0) (.int .u8 0) (.int .u8 0) (.int .u8 f) (.slice A1 n c1) (.string ⟨#[]⟩)
   generalize (((((((w1.setCell ⟨w.heap.size,0,none⟩ (.int .i64 4)).setCell ⟨w.heap.size,1,none⟩ (.int .i32 0)).setCell ⟨w.heap.size,2,none⟩ (.int .u8 0)).setCell ⟨w.heap.size,3,none⟩ (.int .u8 0)).setCell ⟨w.heap.size,4,none⟩ (.int .u8 f)).setCell ⟨w.heap.size,5,none⟩ (.slice A1 n c1)).setCell ⟨w.heap.size,6,none⟩ (.string ⟨#[]⟩))=W at*
   refine bodyPost_ret (v:=.agg #[.int .i64 4,.int .i32 0,.int .u8 0,.int .u8 0,.int .u8 f,.slice A1 n c1,.string ⟨#[]⟩]) (by simp [results,Tryz.results30,go_sem,j0,j1,j2,j3,j4,j5,j6]) rfl ⟨_,rfl,?_,bl⟩
   rw [HE.out,HL.out]
   exact own_base' ow (by simp)
def Bn (l:List Int) (i:Int):Int:=if i<0\/(l.length:Int)<=i then-1 else l.getD i.toNat 0
theorem Vb (k r p q f:Int) (A:Option Addr) (n c:Nat) (l:List Int) (s:ByteArray) (i:Int) (w:World) (hA:Seen w w.heap.size A n (CG l)):
  Calls Tryz.prog 156 #[.agg #[.int .i64 k,.int .i32 r,.int .u8 p,.int .u8 q,.int .u8 f,.slice A n c,.string s],.int .i64 i] w fun e w'=>e=.returned (.int .i64 (Bn l i))/\Below w.heap.size w w':=by
 have hl:l.length=n:=by simpa [CG] using hA.1
 have HB:=hide (fun o:Obj=>(Below.refl w.heap.size w).alloc (Nat.le_refl _) o)
 by_cases h0:i<0
 ·have HE:=hide (show Bn l i= -1 by unfold Bn;rw [if_pos (.inl h0)])
  clear hA hl
  go_enter Tryz.func156,Tryz.ntmps156
  go_wp2_with fail
  go_ret
  exact⟨CX HE.out.symm,HB.out _⟩
 by_cases h1:(n:Int)<=i
 ·have HE:=hide (show Bn l i= -1 by unfold Bn;rw [if_pos (.inr (by rw [hl];exact h1))])
  clear hA hl
  go_enter Tryz.func156,Tryz.ntmps156
  go_wp2_with fail
  go_ret
  exact⟨CX HE.out.symm,HB.out _⟩
 obtain⟨m,rfl⟩:=Int.eq_ofNat_of_zero_le (show 0<=i by omega)
 have hm:m<n:=by omega
 obtain⟨ad,u,rfl,_,hu,hc⟩:=hA.at_ hm
 rw [CG,List.getElem?_map] at hu
 obtain⟨x,hx,rfl⟩:=Option.map_eq_some_iff.1 hu
 have HE:=hide (show Bn l (m:Int)=x by unfold Bn;rw [if_neg (by omega),List.getD_eq_getElem?_getD,Int.toNat_natCast,hx];rfl)
 have hac:=fun o=>(World.cell?_alloc_lt w o (ad.add m) (World.block_lt_of_cell? w (ad.add m) hc)).trans hc
 have hbt:((m:Int)).toNat=m:=by simp
 clear hA hu hx hl hc
 go_enter Tryz.func156,Tryz.ntmps156
 go_wp2_with fail
 go_ret
 exact⟨CX HE.out.symm,HB.out _⟩
def L8 (l:List Int) (i none lo hi:Int):Int:=
 let q:=Bn l i
 let m:=if q= -1\/(q=0/\0<lo) then none else q
 min (max m lo) hi
theorem Kv (k r p q f:Int) (A:Option Addr) (n c:Nat) (l:List Int) (s:ByteArray) (i none lo hi:Int) (w:World) (hA:Seen w w.heap.size A n (CG l)):
  Calls Tryz.prog 117 #[.agg #[.int .i64 k,.int .i32 r,.int .u8 p,.int .u8 q,.int .u8 f,.slice A n c,.string s],.int .i64 i,.int .i64 none,.int .i64 lo,.int .i64 hi] w fun e w'=>e=.returned (.int .i64 (L8 l i none lo hi))/\Below w.heap.size w w':=by
 have HB:=hide (fun o:Obj=>(Below.refl w.heap.size w).alloc (Nat.le_refl _) o)
 have PA:=hide (fun (o:Obj)=>Vb k r p q f A n c l s i (w.alloc o) ((hA.alloc (Nat.le_refl _) _).more (by simp)))
 generalize hx:Bn l i=x at PA
 have HA:=hide (show L8 l i none lo hi=min (max (if x= -1\/(x=0/\0<lo) then none else x) lo) hi by rw [<- hx];rfl)
 generalize L8 l i none lo hi=R at*
 clear hA hx
 by_cases h1:x= -1
 ·have d1:(x== -1)=true:=by simpa using h1
  have HM:=hide (show R=min (max none lo) hi by rw [HA.out,if_pos (.inl h1)])
  clear h1
  rcases Int.lt_or_le none lo with a1 | a1
  ·rcases Int.lt_or_le hi lo with a2 | a2
   ·have HE:=hide (show R=hi by rw [HM.out];simp only [Int.max_def,Int.min_def];(repeat' split)<;>omega)
    go_enter Tryz.func117,Tryz.ntmps117
    go_wp2_with fail
    refine(PA.out _).mono ?_
    rintro e w1 ⟨rfl,b1⟩
    have b2:=(HB.out _).trans (b1.mono (by simp))
    clear b1
    go_wp2_with fail
    go_ret
    exact⟨CX HE.out.symm,b2⟩
   ·have HE:=hide (show R=lo by rw [HM.out];simp only [Int.max_def,Int.min_def];(repeat' split)<;>omega)
    go_enter Tryz.func117,Tryz.ntmps117
    go_wp2_with fail
    refine(PA.out _).mono ?_
    rintro e w1 ⟨rfl,b1⟩
    have b2:=(HB.out _).trans (b1.mono (by simp))
    clear b1
    go_wp2_with fail
    go_ret
    exact⟨CX HE.out.symm,b2⟩
  ·rcases Int.lt_or_le hi none with a2 | a2
   ·have HE:=hide (show R=hi by rw [HM.out];simp only [Int.max_def,Int.min_def];(repeat' split)<;>omega)
    go_enter Tryz.func117,Tryz.ntmps117
    go_wp2_with fail
    refine(PA.out _).mono ?_
    rintro e w1 ⟨rfl,b1⟩
    have b2:=(HB.out _).trans (b1.mono (by simp))
    clear b1
    go_wp2_with fail
    go_ret
    exact⟨CX HE.out.symm,b2⟩
   ·have HE:=hide (show R=none by rw [HM.out];simp only [Int.max_def,Int.min_def];(repeat' split)<;>omega)
    go_enter Tryz.func117,Tryz.ntmps117
    go_wp2_with fail
    refine(PA.out _).mono ?_
    rintro e w1 ⟨rfl,b1⟩
    have b2:=(HB.out _).trans (b1.mono (by simp))
    clear b1
    go_wp2_with fail
    go_ret
    exact⟨CX HE.out.symm,b2⟩
 have d1:(x== -1)=false:=by simpa using h1
 by_cases h2:x=0
 ·have d2:(x==0)=true:=by simpa using h2
  by_cases h3:0<lo
  ·have HM:=hide (show R=min (max none lo) hi by rw [HA.out,if_pos (.inr ⟨h2,h3⟩)])
   clear h1 h2
   rcases Int.lt_or_le none lo with a1 | a1
   ·rcases Int.lt_or_le hi lo with a2 | a2
    ·have HE:=hide (show R=hi by rw [HM.out];simp only [Int.max_def,Int.min_def];(repeat' split)<;>omega)
     go_enter Tryz.func117,Tryz.ntmps117
     go_wp2_with fail
     refine(PA.out _).mono ?_
     rintro e w1 ⟨rfl,b1⟩
     have b2:=(HB.out _).trans (b1.mono (by simp))
     clear b1
     go_wp2_with fail
     go_ret
     exact⟨CX HE.out.symm,b2⟩
    ·have HE:=hide (show R=lo by rw [HM.out];simp only [Int.max_def,Int.min_def];(repeat' split)<;>omega)
     go_enter Tryz.func117,Tryz.ntmps117
     go_wp2_with fail
     refine(PA.out _).mono ?_
     rintro e w1 ⟨rfl,b1⟩
     have b2:=(HB.out _).trans (b1.mono (by simp))
     clear b1
     go_wp2_with fail
     go_ret
     exact⟨CX HE.out.symm,b2⟩
   ·rcases Int.lt_or_le hi none with a2 | a2
    ·have HE:=hide (show R=hi by rw [HM.out];simp only [Int.max_def,Int.min_def];(repeat' split)<;>omega)
     go_enter Tryz.func117,Tryz.ntmps117
     go_wp2_with fail
     refine(PA.out _).mono ?_
     rintro e w1 ⟨rfl,b1⟩
     have b2:=(HB.out _).trans (b1.mono (by simp))
     clear b1
     go_wp2_with fail
     go_ret
     exact⟨CX HE.out.symm,b2⟩
    ·have HE:=hide (show R=none by rw [HM.out];simp only [Int.max_def,Int.min_def];(repeat' split)<;>omega)
     go_enter Tryz.func117,Tryz.ntmps117
     go_wp2_with fail
     refine(PA.out _).mono ?_
     rintro e w1 ⟨rfl,b1⟩
     have b2:=(HB.out _).trans (b1.mono (by simp))
     clear b1
     go_wp2_with fail
     go_ret
     exact⟨CX HE.out.symm,b2⟩
  ·have HM:=hide (show R=min (max x lo) hi by rw [HA.out,if_neg (by omega)])
   clear h1 h2
   rcases Int.lt_or_le x lo with a1 | a1
   ·rcases Int.lt_or_le hi lo with a2 | a2
    ·have HE:=hide (show R=hi by rw [HM.out];simp only [Int.max_def,Int.min_def];(repeat' split)<;>omega)
     go_enter Tryz.func117,Tryz.ntmps117
     go_wp2_with fail
     refine(PA.out _).mono ?_
     rintro e w1 ⟨rfl,b1⟩
     have b2:=(HB.out _).trans (b1.mono (by simp))
     clear b1
     go_wp2_with fail
     go_ret
     exact⟨CX HE.out.symm,b2⟩
    ·have HE:=hide (show R=lo by rw [HM.out];simp only [Int.max_def,Int.min_def];(repeat' split)<;>omega)
     go_enter Tryz.func117,Tryz.ntmps117
     go_wp2_with fail
     refine(PA.out _).mono ?_
     rintro e w1 ⟨rfl,b1⟩
     have b2:=(HB.out _).trans (b1.mono (by simp))
     clear b1
     go_wp2_with fail
     go_ret
     exact⟨CX HE.out.symm,b2⟩
   ·rcases Int.lt_or_le hi x with a2 | a2
    ·have HE:=hide (show R=hi by rw [HM.out];simp only [Int.max_def,Int.min_def];(repeat' split)<;>omega)
     go_enter Tryz.func117,Tryz.ntmps117
     go_wp2_with fail
     refine(PA.out _).mono ?_
     rintro e w1 ⟨rfl,b1⟩
     have b2:=(HB.out _).trans (b1.mono (by simp))
     clear b1
     go_wp2_with fail
     go_ret
     exact⟨CX HE.out.symm,b2⟩
    ·have HE:=hide (show R=x by rw [HM.out];simp only [Int.max_def,Int.min_def];(repeat' split)<;>omega)
     go_enter Tryz.func117,Tryz.ntmps117
     go_wp2_with fail
     refine(PA.out _).mono ?_
     rintro e w1 ⟨rfl,b1⟩
     have b2:=(HB.out _).trans (b1.mono (by simp))
     clear b1
     go_wp2_with fail
     go_ret
     exact⟨CX HE.out.symm,b2⟩
 ·have d2:(x==0)=false:=by simpa using h2
  have HM:=hide (show R=min (max x lo) hi by rw [HA.out,if_neg (by omega)])
  clear h1 h2
  rcases Int.lt_or_le x lo with a1 | a1
  ·rcases Int.lt_or_le hi lo with a2 | a2
   ·have HE:=hide (show R=hi by rw [HM.out];simp only [Int.max_def,Int.min_def];(repeat' split)<;>omega)
    go_enter Tryz.func117,Tryz.ntmps117
    go_wp2_with fail
    refine(PA.out _).mono ?_
    rintro e w1 ⟨rfl,b1⟩
    have b2:=(HB.out _).trans (b1.mono (by simp))
    clear b1
    go_wp2_with fail
    go_ret
    exact⟨CX HE.out.symm,b2⟩
   ·have HE:=hide (show R=lo by rw [HM.out];simp only [Int.max_def,Int.min_def];(repeat' split)<;>omega)
    go_enter Tryz.func117,Tryz.ntmps117
    go_wp2_with fail
    refine(PA.out _).mono ?_
    rintro e w1 ⟨rfl,b1⟩
    have b2:=(HB.out _).trans (b1.mono (by simp))
    clear b1
    go_wp2_with fail
    go_ret
    exact⟨CX HE.out.symm,b2⟩
  ·rcases Int.lt_or_le hi x with a2 | a2
   ·have HE:=hide (show R=hi by rw [HM.out];simp only [Int.max_def,Int.min_def];(repeat' split)<;>omega)
    go_enter Tryz.func117,Tryz.ntmps117
    go_wp2_with fail
    refine(PA.out _).mono ?_
    rintro e w1 ⟨rfl,b1⟩
    have b2:=(HB.out _).trans (b1.mono (by simp))
    clear b1
    go_wp2_with fail
    go_ret
    exact⟨CX HE.out.symm,b2⟩
   ·have HE:=hide (show R=x by rw [HM.out];simp only [Int.max_def,Int.min_def];(repeat' split)<;>omega)
    go_enter Tryz.func117,Tryz.ntmps117
    go_wp2_with fail
    refine(PA.out _).mono ?_
    rintro e w1 ⟨rfl,b1⟩
    have b2:=(HB.out _).trans (b1.mono (by simp))
    clear b1
    go_wp2_with fail
    go_ret
    exact⟨CX HE.out.symm,b2⟩
end Go.Proofs.YtoaabebgmdbjeaaGreatDoor
namespace Go.Proofs.YtoaabebgmdbjeaaGreatDoor
open Go Go.RowKit
section
variable {P:Program} {ops:Array Oper} {rest:List Oper} {o o2 o3:Oper} {a:Act} {w:World} {Q:Exit->Act->World->Prop} {x:Value} {s T:SN.Sc}
theorem BM (hG:Hid (IsG w s.g (gv s.g.rows s.g.AB x))) (y:Operand) (h1:o.guard=none) (h2:o.op=.box 43 y) (h3:a.eval y=.agg (scA x s)) (h4:o2.guard=none) (h5:o2.op=.alloc 43)
  (hk: ∀g gR w2 csR,csR.size=29->Hid (Aj w2 g x s)->Hid (Below w.heap.size w w2)->Hid (Box w2 gR 43 csR)->Hid (IsG w2 s.g (gv s.g.rows s.g.AB x))->gR≠g->w.heap.size<=g->w.heap.size<=gR->
   wpList Tryz.prog ops Q rest ((a.put o.dst (.pointer (some ⟨g,0,none⟩))).put o2.dst (.pointer (some ⟨gR,0,none⟩))) w2):wpList Tryz.prog ops Q (o::o2::rest) a w:=by
 refine Ak h1 y h2 h3 fun g w1 hB hb1 hg1=>?_
 refine BQ h4 h5 fun gR w2 csR hR hsR hb2 hgR=>?_
 have hl:=hB.lt
 have hz:=hb1.size
 have hW:=hb1.trans (hb2.mono hb1.size)
 exact hk g gR w2 csR hsR (hide (hB.below hb2 hB.lt)) (hide hW) (hide hR) (hide (hG.out.low hW)) (by omega) hg1 (by omega)
theorem Dk {E:TypeId} {cs:Array Value} (hG:Hid (IsG w s.g (gv s.g.rows s.g.AB x))) (y:Operand) (h1:o.guard=none) (h2:o.op=.box 43 y) (h3:a.eval y=.agg (scA x s)) (z:Operand) (h6:o3.guard=none) (h7:o3.op=.box E z) (h8: ∀g,(a.put o.dst (.pointer (some ⟨g,0,none⟩))).eval z=.agg cs)
  (h4:o2.guard=none) (h5:o2.op=.alloc 43)
  (hk: ∀g gE gR w2 csR,csR.size=29->Hid (Aj w2 g x s)->Hid (Box w2 gE E cs)->Hid (Below w.heap.size w w2)->Hid (Box w2 gR 43 csR)->Hid (IsG w2 s.g (gv s.g.rows s.g.AB x))->gR≠g->g≠gE->gR≠gE->w.heap.size<=g->w.heap.size<=gR->
   wpList Tryz.prog ops Q rest (((a.put o.dst (.pointer (some ⟨g,0,none⟩))).put o3.dst (.pointer (some ⟨gE,0,none⟩))).put o2.dst (.pointer (some ⟨gR,0,none⟩))) w2):wpList Tryz.prog ops Q (o::o3::o2::rest) a w:=by
 refine Ak h1 y h2 h3 fun g w1 hB hb1 hg1=>?_
 refine wpList_plain h6 fun K hK=>?_
 unfold Oper.wp execOp
 simp only [h7,h8 g]
 have hE:=Box.new w1 E cs
 have hbE:=(Below.refl w1.heap.size w1).alloc (Nat.le_refl _) (.cells cs E)
 have hl:=hB.lt
 have hz:=hb1.size
 have hsz:(w1.alloc (.cells cs E)).heap.size=w1.heap.size+1:=by simp
 have hbW:=hb1.trans (hbE.mono hb1.size)
 have:=hK _ _ (BQ (ops:=ops) (rest:=rest) (Q:=Q) (o:=o2) (a:=(a.put o.dst (.pointer (some ⟨g,0,none⟩))).put o3.dst (.pointer (some ⟨w1.heap.size,0,none⟩))) (w:=w1.alloc (.cells cs E)) h4 h5 fun gR w2 csR hR hsR hb2 hgR=>
  hk g w1.heap.size gR w2 csR hsR (hide ((hB.below hbE hl).below hb2 (by omega))) (hide (hE.below hb2 hE.lt)) (hide (hbW.trans (hb2.mono hbW.size))) (hide hR) (hide (hG.out.low (hbW.trans (hb2.mono hbW.size)))) (by omega) (by omega) (by omega) hg1 (by omega))
 go_simp
 exact this
end
section
variable {w0 w w1 w8:World} {s T:SN.Sc} {x:Value} {g gR gE:Nat} {cs csR:Array Value} {t:Tmp}
theorem Al {K:Ending->World->Prop} (HR:Hid (Box w gR 43 csR)) (HW:Hid (Below w0.heap.size w0 w))
  (hk: ∀A c w',Hid (Box w' gR 43 csR)->Hid (Below w0.heap.size w0 w')->Hid (IsG w' T.g (gv T.g.rows T.g.AB (.slice A (T.g.rows*T.g.AB) c)))->K (.returned (.agg (scA (.slice A (T.g.rows*T.g.AB) c) T))) w'): ∀e w',Au w T e w'->K e w':=by
 rintro e w' ⟨v,rfl,⟨y,rfl,hg⟩,hb⟩
 obtain⟨A,c,rfl⟩:=Ac hg
 exact hk A c w' (hide (HR.out.below hb HR.out.lt)) (hide (HW.out.trans (hb.mono HW.out.size))) (hide hg)
theorem BL {fn:Func} {a:Act} (h:fn.results= #[.cell t 43]) (ht:a.tmps.getD t undef=.pointer (some ⟨gR,0,none⟩)) (hd:a.defers= []) (hB:Aj w8 gR x T) (hG:Hid (IsG w T.g (gv T.g.rows T.g.AB x))) (HR:Hid (Box w gR 43 csR)) (HW:Hid (Below w0.heap.size w0 w)) (hk:Kept [some gR] w w8) (hgR:w0.heap.size<=gR):bodyPost Tryz.prog fn (Au w0 T) .ret a w8:=
 bodyPost_ret (CR h ht hB) hd ⟨_,rfl,⟨_,rfl,hG.out.kept HR.out (by decide) hk⟩,HW.out.trans (hk.toBelow HW.out.size (fun k hh=>by simp at hh;omega))⟩
theorem EA (i:Nat) (u:Value) {G:PG.Gr} {y:Value} (HB:Hid (Aj w g x s)) (HR:Hid (Box w gR 43 csR)) (HW:Hid (Below w0.heap.size w0 w)) (HG:Hid (IsG w G y)) (hne:gR≠g) (hg:w0.heap.size<=g):
  Hid (Box (w.setCell ⟨g,i,none⟩ u) gR 43 csR)/\Hid (Below w0.heap.size w0 (w.setCell ⟨g,i,none⟩ u))/\Hid (IsG (w.setCell ⟨g,i,none⟩ u) G y):=
 ⟨hide (HR.out.far (p:=⟨g,i,none⟩) hne u),hide (HW.out.setCell (p:=⟨g,i,none⟩) hg u),hide (IsG.puts HG.out HB.out i u)⟩
theorem Jl {G:PG.Gr} {y:Value} (hb:Below w.heap.size w w1) (HB:Hid (Aj w g x s)) (HR:Hid (Box w gR 43 csR)) (HW:Hid (Below w0.heap.size w0 w)) (HG:Hid (IsG w G y)):
  Hid (Aj w1 g x s)/\Hid (Box w1 gR 43 csR)/\Hid (Below w0.heap.size w0 w1)/\Hid (IsG w1 G y):=
 ⟨hide (HB.out.below hb HB.out.lt),hide (HR.out.below hb HR.out.lt),hide (HW.out.trans (hb.mono HW.out.size)),hide (HG.out.low hb)⟩
theorem Box.Bg {t:TypeId} {a b c d e f h:Value} (x:Box w g t #[a,b,c,d,e,f,h]):
  w.cell? ⟨g,0,none⟩=some a/\w.cell? ⟨g,1,none⟩=some b/\w.cell? ⟨g,2,none⟩=some c/\w.cell? ⟨g,3,none⟩=some d/\w.cell? ⟨g,4,none⟩=some e/\w.cell? ⟨g,5,none⟩=some f/\w.cell? ⟨g,6,none⟩=some h:=
 ⟨x.cell 0,x.cell 1,x.cell 2,x.cell 3,x.cell 4,x.cell 5,x.cell 6⟩
end
end Go.Proofs.YtoaabebgmdbjeaaGreatDoor
