/- A part of the proof: SeqSmall, Equal, SeqSame, UtfTail, UtfEncode. -/
import Derived.Test.YtoaabebgmdbjeaaGreatDoorRq10
set_option maxRecDepth 100000
set_option maxHeartbeats 16000000
set_option linter.unusedVariables false
namespace Go.Proofs.YtoaabebgmdbjeaaGreatDoor
open Go.RowKit
theorem Qw {p:Prop} [Decidable p] {b:Bool} (h:b=true<->p):Ending.returned (.bool b)=.returned (.bool (decide p)):=by
 rw [show b=decide p from by rw [Bool.eq_iff_iff,h,decide_eq_true_iff]]
theorem Nn (r:Int) (w:World):Calls Tryz.prog 147 #[.int .i32 r] w fun e w'=>e=.returned (.bool (decide (PA.Ee r)))/\w=w':=by
 have HR:=hide (fun b=>Qw (p:=PA.Ee r) (b:=b))
 have cs:r<32\/r=127\/1114111<r\/(32<=r/\r<127)\/(127<r/\r<55296)\/(55296<=r/\r<=57343)\/(57343<r/\r<=1114111):=by omega
 rcases cs with h | h | h | h | h | h | h
 all_goals
  (try have h127:(r !=127)=true:=by simp;omega)
  (try subst h)
  go_enter Tryz.func147,Tryz.ntmps147
  go_wp2
  go_ret
  exact⟨HR.out _ (by unfold PA.Ee;simp;try omega),rfl⟩
def Fh (b:Int):Prop:=0<=b/\b<32/\b≠24/\b≠26/\b≠27
instance (b:Int):Decidable (Fh b):=by unfold Fh;infer_instance
theorem Np (b:Int) (w:World) (h0:0<=b):Calls Tryz.prog 149 #[.int .u8 b] w fun e w'=>e=.returned (.bool (decide (Fh b)))/\w=w':=by
 have HR:=hide (fun x=>Qw (p:=Fh b) (b:=x))
 by_cases h:b<32
 ·by_cases h1:b=24
  ·subst h1
   go_enter Tryz.func149,Tryz.ntmps149
   go_wp2
   go_ret
   exact⟨HR.out _ (by unfold Fh;simp),rfl⟩
  by_cases h2:b=26
  ·subst h2
   go_enter Tryz.func149,Tryz.ntmps149
   go_wp2
   go_ret
   exact⟨HR.out _ (by unfold Fh;simp),rfl⟩
  have e1:(b !=24)=true:=by simpa using h1
  have e2:(b !=26)=true:=by simpa using h2
  by_cases h3:b=27
  ·subst h3
   go_enter Tryz.func149,Tryz.ntmps149
   go_wp2
   go_ret
   exact⟨HR.out _ (by unfold Fh;simp),rfl⟩
  have e3:(b !=27)=true:=by simpa using h3
  have X:=hide (And.intro h1 (And.intro h2 h3))
  clear h1 h2 h3
  go_enter Tryz.func149,Tryz.ntmps149
  go_wp2
  go_ret
  exact⟨HR.out _ (by have:=X.out;unfold Fh;simp;omega),rfl⟩
 ·go_enter Tryz.func149,Tryz.ntmps149
  go_wp2
  go_ret
  exact⟨HR.out _ (by unfold Fh;simp;omega),rfl⟩
theorem Iu (b:Int) (w:World):Calls Tryz.prog 185 #[.int .u8 b] w fun e w'=>e=.returned (.bool (decide (PA.Cj b)))/\w=w':=by
 have HR:=hide (fun x=>Qw (p:=PA.Cj b) (b:=x))
 by_cases h:b=0
 ·subst h
  go_enter Tryz.func185,Tryz.ntmps185
  go_wp2
  go_ret
  exact⟨HR.out _ (by unfold PA.Cj;simp),rfl⟩
 ·have e1:(b==0)=false:=by simpa using h
  have cs:b<32\/(32<=b/\b<=47)\/47<b:=by omega
  have X:=hide h
  clear h
  rcases cs with h | h | h
  all_goals
   go_enter Tryz.func185,Tryz.ntmps185
   go_wp2
   go_ret
   exact⟨HR.out _ (by have:=X.out;unfold PA.Cj;simp;omega),rfl⟩
theorem Nq (b:Int) (w:World):Calls Tryz.prog 186 #[.int .u8 b] w fun e w'=>e=.returned (.bool (decide (PA.ES b)))/\w=w':=by
 have HR:=hide (fun x=>Qw (p:=PA.ES b) (b:=x))
 by_cases h:b=0
 ·subst h
  go_enter Tryz.func186,Tryz.ntmps186
  go_wp2
  go_ret
  exact⟨HR.out _ (by unfold PA.ES;simp),rfl⟩
 ·have e1:(b==0)=false:=by simpa using h
  have cs:b<60\/(60<=b/\b<=63)\/63<b:=by omega
  have X:=hide h
  clear h
  rcases cs with h | h | h
  all_goals
   go_enter Tryz.func186,Tryz.ntmps186
   go_wp2
   go_ret
   exact⟨HR.out _ (by have:=X.out;unfold PA.ES;simp;omega),rfl⟩
def Ho (i f:Int):Prop:=PA.Cj i/\48<=f/\f<=126/\(i=0-> ¬PA.opens f)
instance (i f:Int):Decidable (Ho i f):=by unfold Ho;infer_instance
theorem Pf (i f:Int) (w:World):Calls Tryz.prog 150 #[.int .u8 i,.int .u8 f] w fun e w'=>e=.returned (.bool (decide (Ho i f)))/\w=w':=by
 have HR:=hide (fun x=>Qw (p:=Ho i f) (b:=x))
 have CI:=hide (Iu i)
 by_cases h0:f<48
 ·go_enter Tryz.func150,Tryz.ntmps150
  go_wp2_with fail
  go_ret
  exact⟨HR.out _ (by unfold Ho;simp;omega),rfl⟩
 by_cases h1:126<f
 ·go_enter Tryz.func150,Tryz.ntmps150
  go_wp2_with fail
  go_ret
  exact⟨HR.out _ (by unfold Ho;simp;omega),rfl⟩
 by_cases hi:PA.Cj i
 ·have ei:decide (PA.Cj i)=true:=by simpa using hi
  rw [ei] at CI
  by_cases ho:PA.opens f
  ·by_cases hz:i=0
   ·have hz':(i !=0)=false:=by simp [hz]
    have X:=hide (And.intro hz ho)
    clear hi ei hz
    unfold PA.opens at ho
    rcases ho with rfl | rfl | rfl | rfl | rfl | rfl
    all_goals
     go_enter Tryz.func150,Tryz.ntmps150
     go_wp2_with fail
     refine(CI.out _).mono ?_
     rintro e w1 ⟨rfl,rfl⟩
     go_wp2_with fail
     go_ret
     exact⟨HR.out _ (by have:=X.out;unfold Ho;simp [this.1,this.2]),rfl⟩
   ·have hz':(i !=0)=true:=by simpa using hz
    have X:=hide (And.intro hz hi)
    clear hi ei hz
    unfold PA.opens at ho
    rcases ho with rfl | rfl | rfl | rfl | rfl | rfl
    all_goals
     go_enter Tryz.func150,Tryz.ntmps150
     go_wp2_with fail
     refine(CI.out _).mono ?_
     rintro e w1 ⟨rfl,rfl⟩
     go_wp2_with fail
     go_ret
     exact⟨HR.out _ (by have:=X.out;unfold Ho;simp [this.1,this.2]),rfl⟩
  ·have e1:(f==91)=false:=by unfold PA.opens at ho;simp;omega
   have e2:(f==93)=false:=by unfold PA.opens at ho;simp;omega
   have e3:(f==80)=false:=by unfold PA.opens at ho;simp;omega
   have e4:(f==88)=false:=by unfold PA.opens at ho;simp;omega
   have e5:(f==94)=false:=by unfold PA.opens at ho;simp;omega
   have e6:(f==95)=false:=by unfold PA.opens at ho;simp;omega
   have X:=hide (And.intro ho hi)
   clear hi ei ho
   go_enter Tryz.func150,Tryz.ntmps150
   go_wp2_with fail
   refine(CI.out _).mono ?_
   rintro e w1 ⟨rfl,rfl⟩
   go_wp2_with fail
   go_ret
   exact⟨HR.out _ (by have:=X.out;unfold Ho;simp [this.1,this.2];omega),rfl⟩
 ·have ei:decide (PA.Cj i)=false:=by simpa using hi
  rw [ei] at CI
  have X:=hide hi
  clear hi ei
  go_enter Tryz.func150,Tryz.ntmps150
  go_wp2_with fail
  refine(CI.out _).mono ?_
  rintro e w1 ⟨rfl,rfl⟩
  go_wp2_with fail
  go_ret
  exact⟨HR.out _ (by have:=X.out;unfold Ho;simp [this]),rfl⟩
end Go.Proofs.YtoaabebgmdbjeaaGreatDoor
namespace Go.Proofs.YtoaabebgmdbjeaaGreatDoor
open Go.RowKit
def mJ (w:World) (n:Nat) (l:List Int) (e:Ending) (w':World):Prop:=
 ∃v',e=.returned v'/\w'.ownsRow w.heap.size 3 1 v' n (Br l)/\Below w.heap.size w w'
theorem ZA (l:List Int): ∀u∈Br l,u.oneCell'=true:=QD _ _
theorem VF (A:Option Addr) (n c:Nat) (l:List Int) (w:World) (hA:Seen w w.heap.size A n (Br l)) (hn:n<=1099511627776):Calls Tryz.prog 67 #[.slice A n c] w (mJ w n l):=by
 obtain⟨i0,hi,hz0,hz1,hz2⟩:=info_parts Qs
 go_enter Tryz.func67,Tryz.ntmps67
 go_wp2_with (at_builtin;refine IX rfl (.const (.slice none 0 0)) (.tmp 3) 22 rfl w.heap.size 3 i0 _ 8 Tryz.underlying22 hi hz0 hz1 hz2 rfl (.slice none 0 0) 0 [] rfl (World.ownsRow_nil _ _ _ _) w.heap.size A n c (Br l) rfl hA (ZA l) (by omega) (by omega) (Nat.le_refl _) ?_;intro v' w1 hown1 hg1 hm1)
 go_ret
 refine⟨v',rfl,?_,Db hg1 (Nat.le_refl _) (fun g hg=>by simp [Value.ownBlock] at hg)⟩
 rw [Nat.zero_add,List.nil_append] at hown1
 exact hown1
def C9 (l:List Int):Prop:=l.length<=16/\(∀x∈l, -1<=x/\x<=65535)/\l≠ [-1]
instance (l:List Int):Decidable (C9 l):=by unfold C9;infer_instance
theorem ZB {p:Prop} [Decidable p] (h:p):Ending.returned (.bool true)=.returned (.bool (decide p)):=by rw [decide_eq_true h]
theorem WW {p:Prop} [Decidable p] (h: ¬p):Ending.returned (.bool false)=.returned (.bool (decide p)):=by rw [decide_eq_false h]
theorem Pg {q:Int->Prop} {l:List Int} {k:Nat} {x:Int} (h: ∀y∈l.take k,q y) (hx:l[k]? =some x) (hq:q x): ∀y∈l.take (k+1),q y:=by
 intro y hy
 rw [List.take_add_one,hx] at hy
 rcases List.mem_append.1 hy with hy | hy
 ·exact h y hy
 ·simp at hy
  subst hy
  exact hq
theorem LX (A:Option Addr) (n c:Nat) (l:List Int) (w:World) (hA:Seen w w.heap.size A n (Br l)):Calls Tryz.prog 187 #[.slice A n c] w fun e w'=>e=.returned (.bool (decide (C9 l)))/\w=w':=by
 have hl:l.length=n:=by simpa [Br] using hA.1
 have HA:=hide hA
 have HL:=hide hl
 clear hA hl
 by_cases h16:16<n
 ·have HN:=hide (show¬C9 l from fun h=>by have:=h.1;have:=HL.out;omega)
  go_enter Tryz.func187,Tryz.ntmps187
  go_wp2
  go_ret
  exact⟨WW HN.out,by trivial⟩
 ·go_enter Tryz.func187,Tryz.ntmps187
  go_wp2
  go_loopw [10] (fun i wr=> ∃k:Nat,k<=n/\i=.int .i64 k/\wr=w/\Hid (∀x∈l.take k, -1<=x/\x<=65535)) (fun i _=>n-(intOf i).toNat)
  case atStart=>exact⟨0,Nat.zero_le _,rfl,rfl,hide (by simp)⟩
  case round=>
   obtain⟨k,hk,rfl,rfl,HT⟩:=hrel
   by_cases hlt:k<n
   ·obtain⟨ad,u,rfl,_,hu,hc⟩:=HA.out.at_ hlt
    rw [Br,List.getElem?_map] at hu
    obtain⟨x,hx,rfl⟩:=Option.map_eq_some_iff.1 hu
    clear hu
    have HX:=hide hx
    clear hx
    have cs:x= -1\/x< -1\/65535<x\/(0<=x/\x<=65535):=by omega
    rcases cs with h | h | h | h
    ·subst h
     have HT2:=hide (Pg (q:=fun x=> -1<=x/\x<=65535) HT.out HX.out (by omega))
     go_wp2
     go_roundw
     case rel=>exact⟨k+1,by omega,by go_num,by trivial,HT2⟩
     case measure=>simp [intOf];omega
    ·have hd:(x != -1)=true:=by simp;omega
     have HN:=hide (show¬C9 l from fun hh=>by have:=hh.2.1 x (List.mem_of_getElem? HX.out);omega)
     go_wp2
     go_ret
     exact⟨WW HN.out,by trivial⟩
    ·have hd:(x != -1)=true:=by simp;omega
     have HN:=hide (show¬C9 l from fun hh=>by have:=hh.2.1 x (List.mem_of_getElem? HX.out);omega)
     go_wp2
     go_ret
     exact⟨WW HN.out,by trivial⟩
    ·have hd:(x != -1)=true:=by simp;omega
     have HT2:=hide (Pg (q:=fun x=> -1<=x/\x<=65535) HT.out HX.out (by omega))
     go_wp2
     go_roundw
     case rel=>exact⟨k+1,by omega,by go_num,by trivial,HT2⟩
     case measure=>simp [intOf];omega
   ·obtain rfl:k=n:=by omega
    have HF:=hide (show∀x∈l, -1<=x/\x<=65535 from by
     have:=HT.out
     rwa [List.take_of_length_le (by rw [HL.out];omega)] at this)
    clear HT
    by_cases h1:k=1
    ·subst h1
     obtain⟨ad,u,rfl,_,hu,hc⟩:=HA.out.at_ (k:=0) (by omega)
     rw [Br,List.getElem?_map] at hu
     obtain⟨x,hx,rfl⟩:=Option.map_eq_some_iff.1 hu
     rw [show ad.add 0=ad from by simp [Addr.add]] at hc
     have hll:l= [x] :=by
      have hlen:=HL.out
      rcases l with _ | ⟨y,_ | ⟨z,l⟩⟩<;>simp at hlen hx
      subst hx
      rfl
     have HLL:=hide hll
     clear hll hx hu
     by_cases hx1:x= -1
     ·subst hx1
      have HN:=hide (show¬C9 l from fun hh=>hh.2.2 HLL.out)
      go_wp2
      go_ret
      exact⟨WW HN.out,by trivial⟩
     ·have hd:(x != -1)=true:=by simpa using hx1
      have HN:=hide (show C9 l from⟨by have:=HL.out;omega,HF.out,by rw [HLL.out];simpa using hx1⟩)
      clear hx1
      go_wp2
      go_ret
      exact⟨ZB HN.out,by trivial⟩
    ·have hd:((k:Int)!=1)=true:=by simp;omega
     have HN:=hide (show C9 l from⟨by have:=HL.out;omega,HF.out,fun e=>h1 (by rw [<- HL.out,e];rfl)⟩)
     go_wp2
     go_ret
     exact⟨ZB HN.out,by trivial⟩
def IB (t:List Int):Prop:=t.length<=4096/\ ∀x∈t,32<=x/\x<256
instance (l:List Int):Decidable (IB l):=by unfold IB;infer_instance
theorem Nr (t:List Int) (w:World) (ht: ∀x∈t,0<=x/\x<256):Calls Tryz.prog 152 #[.string (strOfNums t)] w fun e w'=>e=.returned (.bool (decide (IB t)))/\Below w.heap.size w w':=by
 have hs:(strOfNums t).size=t.length:=strOfNums_size t
 have hS:Seen (Es w (strOfNums t)) (Es w (strOfNums t)).heap.size (some ⟨w.heap.size,0,none⟩) t.length (u8s t):=Nl rfl ht rfl
 have hB:=Mt w (strOfNums t)
 have hc:=Y9 w (strOfNums t)
 generalize Es w (strOfNums t)=w1 at hS hB hc
 generalize Ms w (strOfNums t)=cp at hc
 have HS:=hide hS
 have HB:=hide hB
 have HT:=hide ht
 clear hS hB ht
 generalize hn:t.length=n at*
 generalize strOfNums t=s at*
 have HL:=hide hn
 clear hn
 by_cases h4:4096<n
 ·have HN:=hide (show¬IB t from fun h=>by have:=h.1;have:=HL.out;omega)
  go_enter Tryz.func152,Tryz.ntmps152
  go_wp2
  go_ret
  exact⟨WW HN.out,Below.refl _ _⟩
 ·go_enter Tryz.func152,Tryz.ntmps152
  go_wp2
  go_loopw [11] (fun i wr=> ∃k:Nat,k<=n/\i=.int .i64 k/\wr=w1/\Hid (∀x∈t.take k,32<=x/\x<256)) (fun i _=>n-(intOf i).toNat)
  case atStart=>exact⟨0,Nat.zero_le _,rfl,rfl,hide (by simp)⟩
  case round=>
   obtain⟨k,hk,rfl,rfl,HK⟩:=hrel
   by_cases hlt:k<n
   ·obtain⟨ad,u,had,_,hu,hcc⟩:=HS.out.at_ hlt
    injection had with had
    subst had
    rw [Addr.add_lit,Nat.zero_add] at hcc
    rw [u8s,List.getElem?_map] at hu
    obtain⟨x,hx,rfl⟩:=Option.map_eq_some_iff.1 hu
    have hxr:=HT.out x (List.mem_of_getElem? hx)
    have HX:=hide hx
    clear hu hx
    by_cases h32:x<32
    ·have HN:=hide (show¬IB t from fun hh=>by have:=hh.2 x (List.mem_of_getElem? HX.out);omega)
     go_wp2
     go_ret
     exact⟨WW HN.out,HB.out⟩
    ·have HT2:=hide (Pg (q:=fun x=>32<=x/\x<256) HK.out HX.out (by omega))
     go_wp2
     go_roundw
     case rel=>exact⟨k+1,by omega,by go_num,by trivial,HT2⟩
     case measure=>simp [intOf];omega
   ·obtain rfl:k=n:=by omega
    have HF:=hide (show IB t from⟨by have:=HL.out;omega,by
     have:=HK.out
     rwa [List.take_of_length_le (by rw [HL.out];omega)] at this⟩)
    go_wp2
    go_ret
    exact⟨ZB HF.out,HB.out⟩
end Go.Proofs.YtoaabebgmdbjeaaGreatDoor
namespace Go.Proofs.YtoaabebgmdbjeaaGreatDoor
open Go.RowKit
theorem WX (w:World) (a b:Nat):w.drewN (a+b)=(w.drewN a).drewN b:=by
 unfold World.drewN
 simp [Nat.add_assoc]
theorem WY {l l':List Int} {k:Nat} {x:Int} (h:l.take k=l'.take k) (h1:l[k]? =some x) (h2:l'[k]? =some x):l.take (k+1)=l'.take (k+1):=by
 rw [List.take_add_one,List.take_add_one,h,h1,h2]
theorem WZ {l l':List Int} {k:Nat} {x y:Int} (h1:l[k]? =some x) (h2:l'[k]? =some y) (hne:x≠y):l≠l':=fun e=>by
 subst e
 rw [h1] at h2
 exact hne (Option.some.inj h2)
theorem Wd (l l':List Int) (A A':Option Addr) (B B' n c m c':Nat) (w:World) (hx:Seen w B A n (l.map (.int .i64))) (hy:Seen w B' A' m (l'.map (.int .i64))) (hn:n<=1099511627776):
  Calls Tryz.prog 184 #[.slice A n c,.slice A' m c'] w fun e w'=>e=.returned (.bool (decide (l=l')))/\ ∃q,w.drewN q=w':=by
 have e1:l.length=n:=by simpa using hx.1
 have e2:l'.length=m:=by simpa using hy.1
 by_cases hnm:n=m
 ·subst hnm
  have HX:=hide hx
  have HY:=hide hy
  have HL:=hide (And.intro e1 e2)
  clear hx hy e1 e2
  go_enter Tryz.func184,Tryz.ntmps184
  go_wp2
  go_loopw [13] (fun i wr=> ∃k q:Nat,k<=n/\i=.int .i64 k/\wr=w.drewN q/\Hid (l.take k=l'.take k)) (fun i _=>n-(intOf i).toNat)
  case atStart=>exact⟨0,0,Nat.zero_le _,rfl,rfl,hide (by simp)⟩
  case round=>
   obtain⟨k,q,hk,rfl,rfl,HT⟩:=hrel
   by_cases hlt:k<n
   ·obtain⟨ad,u,rfl,_,hu,hc⟩:=HX.out.at_ hlt
    obtain⟨ad',u',rfl,_,hu',hc'⟩:=HY.out.at_ hlt
    rw [List.getElem?_map] at hu hu'
    obtain⟨x,hx1,rfl⟩:=Option.map_eq_some_iff.1 hu
    obtain⟨y,hy1,rfl⟩:=Option.map_eq_some_iff.1 hu'
    clear hu hu'
    by_cases hxy:x=y
    ·subst hxy
     have HT2:=hide (WY HT.out hx1 hy1)
     clear hx1 hy1
     go_wp2_with fail
     go_quiet (fail)
     go_wp2
     go_roundw
     case rel=>exact⟨k+1,_,by omega,by go_num,rfl,HT2⟩
     case measure=>simp [intOf];omega
    ·have hd:(x !=y)=true:=by simpa using hxy
     have HN:=hide (decide_eq_false (WZ hx1 hy1 hxy))
     clear hx1 hy1 hxy
     go_wp2_with fail
     go_quiet (fail)
     go_wp2
     go_ret
     exact⟨Ke HN.out.symm,_,WX w q nq⟩
   ·obtain rfl:k=n:=by omega
    have HE:=hide (decide_eq_true (show l=l' by
     have:=HT.out
     rwa [List.take_of_length_le (by rw [HL.out.1];omega),List.take_of_length_le (by rw [HL.out.2];omega)] at this))
    go_wp2
    go_ret
    exact⟨Ke HE.out.symm,q,rfl⟩
 ·have HN:=hide (decide_eq_false (show l≠l' from fun e=>hnm (by rw [<- e1, <- e2,e])))
  have hd:((n:Int)!=(m:Int))=true:=by simp;omega
  clear hx hy e1 e2 hnm
  go_enter Tryz.func184,Tryz.ntmps184
  go_wp2
  go_ret
  exact⟨Ke HN.out.symm,0,rfl⟩
end Go.Proofs.YtoaabebgmdbjeaaGreatDoor
namespace Go.Proofs.YtoaabebgmdbjeaaGreatDoor
open Go.RowKit
theorem E9 (l:List Int):(strOfNums l).toList=l.map fun n=>UInt8.ofNat n.toNat:=by
 rw [ByteArray.toList_eq]
 simp [strOfNums]
theorem Iw: ∀{l m:List Int},(∀x∈l,0<=x/\x<256)->(∀x∈m,0<=x/\x<256)->l.map (fun n=>UInt8.ofNat n.toNat)=m.map (fun n=>UInt8.ofNat n.toNat)->l=m
 | [], [],_,_,_=>rfl
 | [],y::m,_,_,h=>by simp at h
 | x::l, [],_,_,h=>by simp at h
 | x::l,y::m,hl,hm,h=>by
  simp only [List.map_cons,List.cons.injEq] at h
  have hx:=hl x (by simp)
  have hy:=hm y (by simp)
  have e:x=y:=by
   have:=congrArg UInt8.toNat h.1
   simp at this
   omega
  rw [e,Iw (fun z hz=>hl z (List.mem_cons_of_mem _ hz)) (fun z hz=>hm z (List.mem_cons_of_mem _ hz)) h.2]
theorem Ph {l m:List Int} (hl: ∀x∈l,0<=x/\x<256) (hm: ∀x∈m,0<=x/\x<256):((strOfNums l).toList==(strOfNums m).toList)=decide (l=m):=by
 rw [E9,E9,Bool.eq_iff_iff,beq_iff_eq,decide_eq_true_iff]
 exact⟨Iw hl hm,fun e=>by rw [e]⟩
def Dp (a b:PA.Ev):Bool:=decide (a.kind=b.kind)&&(decide (a.rune=b.rune)&&(decide (a.priv=b.priv)&&(decide (a.inter=b.inter)&&(decide (a.final=b.final)&&(decide (a.params=b.params)&&decide (a.text=b.text))))))
theorem JK (a b:PA.Ev):Dp a b=true<->a=b:=by
 obtain⟨a1,a2,a3,a4,a5,a6,a7⟩:=a
 obtain⟨b1,b2,b3,b4,b5,b6,b7⟩:=b
 simp [Dp]
theorem Gq (k r p i f k' r' p' i' f':Int) (A A':Option Addr) (n c n' c':Nat) (l l' t t':List Int) (w:World) (hA:Seen w w.heap.size A n (Br l)) (hA':Seen w w.heap.size A' n' (Br l')) (hn:n<=1099511627776) (ht: ∀x∈t,0<=x/\x<256) (ht': ∀x∈t',0<=x/\x<256):
  Calls Tryz.prog 148 #[.agg #[.int .i64 k,.int .i32 r,.int .u8 p,.int .u8 i,.int .u8 f,.slice A n c,.string (strOfNums t)],.agg #[.int .i64 k',.int .i32 r',.int .u8 p',.int .u8 i',.int .u8 f',.slice A' n' c',.string (strOfNums t')]] w fun e w'=>e=.returned (.bool (Dp ⟨k,r,p,i,f,l,t⟩ ⟨k',r',p',i',f',l',t'⟩))/\Below w.heap.size w w':=by
 have hts:=Ph ht ht'
 have hB: ∀o o':Obj,Below w.heap.size w ((w.alloc o).alloc o'):=fun o o'=>((Below.refl _ _).alloc (Nat.le_refl _) _).alloc (by simp) _
 have EQ:=hide (fun o o'=>Wd l l' A A' w.heap.size w.heap.size n c n' c' ((w.alloc o).alloc o') ((hA.alloc (Nat.le_refl _) _).alloc (by simp) _) ((hA'.alloc (Nat.le_refl _) _).alloc (by simp) _) hn)
 have HB:=hide hB
 have HF:=hide (fun (x:Bool) (h:Dp ⟨k,r,p,i,f,l,t⟩ ⟨k',r',p',i',f',l',t'⟩=x)=>Ke h.symm)
 clear hA hA' hn ht ht' hB
 generalize strOfNums t=s at*
 generalize strOfNums t'=s' at*
 by_cases hk:k=k'
 rotate_left
 ·have dk:(k==k')=false:=by simpa using hk
  have HE:=hide (show Dp ⟨k,r,p,i,f,l,t⟩ ⟨k',r',p',i',f',l',t'⟩=false by simp [Dp,hk])
  clear hk hts
  go_enter Tryz.func148,Tryz.ntmps148
  go_wp2_with fail
  go_ret
  exact⟨HF.out _ HE.out,HB.out _ _⟩
 subst hk
 by_cases hr:r=r'
 rotate_left
 ·have dr:(r==r')=false:=by simpa using hr
  have HE:=hide (show Dp ⟨k,r,p,i,f,l,t⟩ ⟨k,r',p',i',f',l',t'⟩=false by simp [Dp,hr])
  clear hr hts
  go_enter Tryz.func148,Tryz.ntmps148
  go_wp2_with fail
  go_ret
  exact⟨HF.out _ HE.out,HB.out _ _⟩
 subst hr
 by_cases hp:p=p'
 rotate_left
 ·have dp:(p==p')=false:=by simpa using hp
  have HE:=hide (show Dp ⟨k,r,p,i,f,l,t⟩ ⟨k,r,p',i',f',l',t'⟩=false by simp [Dp,hp])
  clear hp hts
  go_enter Tryz.func148,Tryz.ntmps148
  go_wp2_with fail
  go_ret
  exact⟨HF.out _ HE.out,HB.out _ _⟩
 subst hp
 by_cases hi:i=i'
 rotate_left
 ·have di:(i==i')=false:=by simpa using hi
  have HE:=hide (show Dp ⟨k,r,p,i,f,l,t⟩ ⟨k,r,p,i',f',l',t'⟩=false by simp [Dp,hi])
  clear hi hts
  go_enter Tryz.func148,Tryz.ntmps148
  go_wp2_with fail
  go_ret
  exact⟨HF.out _ HE.out,HB.out _ _⟩
 subst hi
 by_cases hf:f=f'
 rotate_left
 ·have df:(f==f')=false:=by simpa using hf
  have HE:=hide (show Dp ⟨k,r,p,i,f,l,t⟩ ⟨k,r,p,i,f',l',t'⟩=false by simp [Dp,hf])
  clear hf hts
  go_enter Tryz.func148,Tryz.ntmps148
  go_wp2_with fail
  go_ret
  exact⟨HF.out _ HE.out,HB.out _ _⟩
 subst hf
 by_cases hl:l=l'
 rotate_left
 ·have dl:decide (l=l')=false:=by simpa using hl
  rw [dl] at EQ
  have HE:=hide (show Dp ⟨k,r,p,i,f,l,t⟩ ⟨k,r,p,i,f,l',t'⟩=false by simp [Dp,hl])
  clear hl dl hts
  go_enter Tryz.func148,Tryz.ntmps148
  go_wp2_with fail
  refine(EQ.out _ _).mono ?_
  rintro e w1 ⟨rfl,q,rfl⟩
  go_wp2_with fail
  go_ret
  exact⟨HF.out _ HE.out,below_drewN (HB.out _ _) _⟩
 subst hl
 have dl:decide (l=l)=true:=by simp
 rw [dl] at EQ
 have HE:=hide (show Dp ⟨k,r,p,i,f,l,t⟩ ⟨k,r,p,i,f,l,t'⟩=decide (t=t') by simp [Dp])
 rw [<- hts] at HE
 clear dl hts
 go_enter Tryz.func148,Tryz.ntmps148
 go_wp2_with fail
 refine(EQ.out _ _).mono ?_
 rintro e w1 ⟨rfl,q,rfl⟩
 go_wp2_with fail
 go_ret
 exact⟨HF.out _ HE.out,below_drewN (HB.out _ _) _⟩
end Go.Proofs.YtoaabebgmdbjeaaGreatDoor
namespace Go.Proofs.YtoaabebgmdbjeaaGreatDoor
open Go.RowKit
theorem Iy {a b:Bool} (h:a=b):Ending.returned (.bool b)=.returned (.bool a):=by rw [h]
theorem Pj (k r p i f:Int) (A:Option Addr) (n c:Nat) (l t:List Int) (w:World) (hA:Seen w w.heap.size A n (Br l)):
  Calls Tryz.prog 151 #[.agg #[.int .i64 k,.int .i32 r,.int .u8 p,.int .u8 i,.int .u8 f,.slice A n c,.string (strOfNums t)]] w fun e w'=>e=.returned (.bool (decide (64<=f)&&(decide (f<=126)&&(decide (PA.Cj i)&&(decide (PA.ES p)&&decide (C9 l))))))/\Below w.heap.size w w':=by
 have HB:=hide (fun o:Obj=>(Below.refl w.heap.size w).alloc (Nat.le_refl _) o)
 have CP:=hide (fun o:Obj=>LX A n c l (w.alloc o) ((hA.alloc (Nat.le_refl _) _).more (by simp)))
 have CI:=hide (Iu i)
 have CV:=hide (Nq p)
 clear hA
 generalize strOfNums t=s at*
 generalize hr:(decide (64<=f)&&(decide (f<=126)&&(decide (PA.Cj i)&&(decide (PA.ES p)&&decide (C9 l)))))=R
 by_cases h0:f<64
 ·have HE:=hide (show R=false by rw [<- hr];simp;omega)
  clear hr
  go_enter Tryz.func151,Tryz.ntmps151
  go_wp2_with fail
  go_ret
  exact⟨Iy HE.out,HB.out _⟩
 by_cases h1:126<f
 ·have HE:=hide (show R=false by rw [<- hr];simp;omega)
  clear hr
  go_enter Tryz.func151,Tryz.ntmps151
  go_wp2_with fail
  go_ret
  exact⟨Iy HE.out,HB.out _⟩
 have d0:decide (64<=f)=true:=by simp;omega
 have d1:decide (f<=126)=true:=by simp;omega
 rw [d0,d1,Bool.true_and,Bool.true_and] at hr
 generalize decide (PA.Cj i)=bi at*
 generalize decide (PA.ES p)=bp at*
 generalize decide (C9 l)=bl at*
 rcases bi with _ | _
 ·have HE:=hide (show R=false by rw [<- hr];rfl)
  clear hr
  go_enter Tryz.func151,Tryz.ntmps151
  go_wp2_with fail
  refine(CI.out _).mono ?_
  rintro e w1 ⟨rfl,rfl⟩
  go_wp2_with fail
  go_ret
  exact⟨Iy HE.out,HB.out _⟩
 rcases bp with _ | _
 ·have HE:=hide (show R=false by rw [<- hr];rfl)
  clear hr
  go_enter Tryz.func151,Tryz.ntmps151
  go_wp2_with fail
  refine(CI.out _).mono ?_
  rintro e w1 ⟨rfl,rfl⟩
  go_wp2_with fail
  refine(CV.out _).mono ?_
  rintro e w1 ⟨rfl,rfl⟩
  go_wp2_with fail
  go_ret
  exact⟨Iy HE.out,HB.out _⟩
 ·have HE:=hide (show R=bl by rw [<- hr];rfl)
  clear hr
  go_enter Tryz.func151,Tryz.ntmps151
  go_wp2_with fail
  refine(CI.out _).mono ?_
  rintro e w1 ⟨rfl,rfl⟩
  go_wp2_with fail
  refine(CV.out _).mono ?_
  rintro e w1 ⟨rfl,rfl⟩
  go_wp2_with fail
  refine(CP.out _).mono ?_
  rintro e w1 ⟨rfl,rfl⟩
  go_wp2_with fail
  go_ret
  exact⟨Iy HE.out,HB.out _⟩
theorem rb1 (r p i f:Int) (l t:List Int):PA.Bd ⟨1,r,p,i,f,l,t⟩=(decide (PA.Ee r)&&Dp ⟨1,r,p,i,f,l,t⟩ ⟨1,r,0,0,0, [], []⟩):=by
 rw [Bool.eq_iff_iff,Bool.and_eq_true,JK,decide_eq_true_iff]
 unfold PA.Bd
 rw [if_pos rfl,decide_eq_true_iff]
 simp only [PA.Ev.mk.injEq,true_and]
theorem rb2 (r p i f:Int) (l t:List Int):PA.Bd ⟨2,r,p,i,f,l,t⟩=(decide (Fh f)&&Dp ⟨2,r,p,i,f,l,t⟩ ⟨2,0,0,0,f, [], []⟩):=by
 rw [Bool.eq_iff_iff,Bool.and_eq_true,JK,decide_eq_true_iff]
 unfold PA.Bd Fh
 rw [if_neg (show¬(2:Int)=1 by decide),if_pos rfl,decide_eq_true_iff]
 simp only [PA.Ev.mk.injEq,true_and]
 constructor
 ·rintro ⟨a,b,c,d,e,g⟩;exact⟨g,a,b,c,d,e⟩
 ·rintro ⟨g,a,b,c,d,e⟩;exact⟨a,b,c,d,e,g⟩
theorem rb3 (r p i f:Int) (l t:List Int):PA.Bd ⟨3,r,p,i,f,l,t⟩=(decide (Ho i f)&&Dp ⟨3,r,p,i,f,l,t⟩ ⟨3,0,0,i,f, [], []⟩):=by
 rw [Bool.eq_iff_iff,Bool.and_eq_true,JK,decide_eq_true_iff]
 unfold PA.Bd Ho
 rw [if_neg (show¬(3:Int)=1 by decide),if_neg (show¬(3:Int)=2 by decide),if_pos rfl,decide_eq_true_iff]
 simp only [PA.Ev.mk.injEq,true_and]
 constructor
 ·rintro ⟨a,b,c,d,g⟩;exact⟨g,a,b,c,d⟩
 ·rintro ⟨g,a,b,c,d⟩;exact⟨a,b,c,d,g⟩
theorem rb4 (r p i f:Int) (l t:List Int):PA.Bd ⟨4,r,p,i,f,l,t⟩=((decide (64<=f)&&(decide (f<=126)&&(decide (PA.Cj i)&&(decide (PA.ES p)&&decide (C9 l)))))&&(decide (r=0)&&decide (t= []))):=by
 rw [Bool.eq_iff_iff]
 unfold PA.Bd
 rw [if_neg (show¬(4:Int)=1 by decide),if_neg (show¬(4:Int)=2 by decide),if_neg (show¬(4:Int)=3 by decide),if_pos rfl,decide_eq_true_iff]
 simp only [Bool.and_eq_true,decide_eq_true_iff]
 unfold C9
 constructor
 ·rintro ⟨a,b,c,d,g,h,x,y,z⟩;exact⟨⟨g,h,d,c,x,y,z⟩,a,b⟩
 ·rintro ⟨⟨g,h,d,c,x,y,z⟩,a,b⟩;exact⟨a,b,c,d,g,h,x,y,z⟩
theorem rb5 (r p i f:Int) (l t:List Int):PA.Bd ⟨5,r,p,i,f,l,t⟩=(decide (IB t)&&Dp ⟨5,r,p,i,f,l,t⟩ ⟨5,0,0,0,0, [],t⟩):=by
 rw [Bool.eq_iff_iff,Bool.and_eq_true,JK,decide_eq_true_iff]
 unfold PA.Bd IB
 rw [if_neg (show¬(5:Int)=1 by decide),if_neg (show¬(5:Int)=2 by decide),if_neg (show¬(5:Int)=3 by decide),if_neg (show¬(5:Int)=4 by decide),if_pos rfl,decide_eq_true_iff]
 simp only [PA.Ev.mk.injEq,true_and,and_true]
 constructor
 ·rintro ⟨a,b,c,d,e,g⟩;exact⟨g,a,b,c,d,e⟩
 ·rintro ⟨g,a,b,c,d,e⟩;exact⟨a,b,c,d,e,g⟩
theorem rb0 (k r p i f:Int) (l t:List Int) (h1:k≠1) (h2:k≠2) (h3:k≠3) (h4:k≠4) (h5:k≠5):PA.Bd ⟨k,r,p,i,f,l,t⟩=false:=by
 unfold PA.Bd
 rw [if_neg h1,if_neg h2,if_neg h3,if_neg h4,if_neg h5]
theorem jM (r p i f:Int) (A:Option Addr) (n c:Nat) (l t:List Int) (w:World) (hA:Seen w w.heap.size A n (Br l)) (hn:n<=1099511627776) (h0:0<=f) (ht: ∀x∈t,0<=x/\x<256):
  Calls Tryz.prog 115 #[.agg #[.int .i64 1,.int .i32 r,.int .u8 p,.int .u8 i,.int .u8 f,.slice A n c,.string (strOfNums t)]] w fun e w'=>e=.returned (.bool (PA.Bd ⟨1,r,p,i,f,l,t⟩))/\Below w.heap.size w w':=by
 have HB:=hide (fun o:Obj=>(Below.refl w.heap.size w).alloc (Nat.le_refl _) o)
 have SM:=hide (fun w1 (b1:Below w.heap.size w w1)=>Gq 1 r p i f 1 r 0 0 0 A none n c 0 0 l [] t [] w1 ((hA.below b1).more b1.size) (Seen.IV _ _ _) hn ht (by simp))
 have CF:=hide (Nn r)
 have RB:=hide (rb1 r p i f l t)
 generalize PA.Bd ⟨1,r,p,i,f,l,t⟩=R at RB⊢
 generalize Dp ⟨1,r,p,i,f,l,t⟩ ⟨1,r,0,0,0, [], []⟩=S at*
 generalize decide (PA.Ee r)=b1 at*
 clear hA ht
 rcases b1 with _ | _
 ·have HE:=hide (show R=false by rw [RB.out];rfl)
  go_enter Tryz.func115,Tryz.ntmps115
  go_wp2_with fail
  refine(CF.out _).mono ?_
  rintro e w1 ⟨rfl,rfl⟩
  go_wp2_with fail
  go_ret
  exact⟨Iy HE.out,HB.out _⟩
 ·have HE:=hide (show R=S by rw [RB.out];rfl)
  go_enter Tryz.func115,Tryz.ntmps115
  go_wp2_with fail
  refine(CF.out _).mono ?_
  rintro e w1 ⟨rfl,rfl⟩
  go_wp2_with fail
  refine(SM.out _ (HB.out _)).mono ?_
  rintro e w3 ⟨rfl,b3⟩
  have b4:=(HB.out _).trans (b3.mono (by simp))
  clear b3
  go_wp2_with fail
  go_ret
  exact⟨Iy HE.out,b4⟩
theorem jN (r p i f:Int) (A:Option Addr) (n c:Nat) (l t:List Int) (w:World) (hA:Seen w w.heap.size A n (Br l)) (hn:n<=1099511627776) (h0:0<=f) (ht: ∀x∈t,0<=x/\x<256):
  Calls Tryz.prog 115 #[.agg #[.int .i64 2,.int .i32 r,.int .u8 p,.int .u8 i,.int .u8 f,.slice A n c,.string (strOfNums t)]] w fun e w'=>e=.returned (.bool (PA.Bd ⟨2,r,p,i,f,l,t⟩))/\Below w.heap.size w w':=by
 have HB:=hide (fun o:Obj=>(Below.refl w.heap.size w).alloc (Nat.le_refl _) o)
 have SM:=hide (fun w1 (b1:Below w.heap.size w w1)=>Gq 2 r p i f 2 0 0 0 f A none n c 0 0 l [] t [] w1 ((hA.below b1).more b1.size) (Seen.IV _ _ _) hn ht (by simp))
 have CF:=hide (fun w=>Np f w h0)
 have RB:=hide (rb2 r p i f l t)
 generalize PA.Bd ⟨2,r,p,i,f,l,t⟩=R at RB⊢
 generalize Dp ⟨2,r,p,i,f,l,t⟩ ⟨2,0,0,0,f, [], []⟩=S at*
 generalize decide (Fh f)=b1 at*
 clear hA ht
 rcases b1 with _ | _
 ·have HE:=hide (show R=false by rw [RB.out];rfl)
  go_enter Tryz.func115,Tryz.ntmps115
  go_wp2_with fail
  refine(CF.out _).mono ?_
  rintro e w1 ⟨rfl,rfl⟩
  go_wp2_with fail
  go_ret
  exact⟨Iy HE.out,HB.out _⟩
 ·have HE:=hide (show R=S by rw [RB.out];rfl)
  go_enter Tryz.func115,Tryz.ntmps115
  go_wp2_with fail
  refine(CF.out _).mono ?_
  rintro e w1 ⟨rfl,rfl⟩
  go_wp2_with fail
  refine(SM.out _ (HB.out _)).mono ?_
  rintro e w3 ⟨rfl,b3⟩
  have b4:=(HB.out _).trans (b3.mono (by simp))
  clear b3
  go_wp2_with fail
  go_ret
  exact⟨Iy HE.out,b4⟩
theorem jO (r p i f:Int) (A:Option Addr) (n c:Nat) (l t:List Int) (w:World) (hA:Seen w w.heap.size A n (Br l)) (hn:n<=1099511627776) (h0:0<=f) (ht: ∀x∈t,0<=x/\x<256):
  Calls Tryz.prog 115 #[.agg #[.int .i64 3,.int .i32 r,.int .u8 p,.int .u8 i,.int .u8 f,.slice A n c,.string (strOfNums t)]] w fun e w'=>e=.returned (.bool (PA.Bd ⟨3,r,p,i,f,l,t⟩))/\Below w.heap.size w w':=by
 have HB:=hide (fun o:Obj=>(Below.refl w.heap.size w).alloc (Nat.le_refl _) o)
 have SM:=hide (fun w1 (b1:Below w.heap.size w w1)=>Gq 3 r p i f 3 0 0 i f A none n c 0 0 l [] t [] w1 ((hA.below b1).more b1.size) (Seen.IV _ _ _) hn ht (by simp))
 have CF:=hide (Pf i f)
 have RB:=hide (rb3 r p i f l t)
 generalize PA.Bd ⟨3,r,p,i,f,l,t⟩=R at RB⊢
 generalize Dp ⟨3,r,p,i,f,l,t⟩ ⟨3,0,0,i,f, [], []⟩=S at*
 generalize decide (Ho i f)=b1 at*
 clear hA ht
 rcases b1 with _ | _
 ·have HE:=hide (show R=false by rw [RB.out];rfl)
  go_enter Tryz.func115,Tryz.ntmps115
  go_wp2_with fail
  refine(CF.out _).mono ?_
  rintro e w1 ⟨rfl,rfl⟩
  go_wp2_with fail
  go_ret
  exact⟨Iy HE.out,HB.out _⟩
 ·have HE:=hide (show R=S by rw [RB.out];rfl)
  go_enter Tryz.func115,Tryz.ntmps115
  go_wp2_with fail
  refine(CF.out _).mono ?_
  rintro e w1 ⟨rfl,rfl⟩
  go_wp2_with fail
  refine(SM.out _ (HB.out _)).mono ?_
  rintro e w3 ⟨rfl,b3⟩
  have b4:=(HB.out _).trans (b3.mono (by simp))
  clear b3
  go_wp2_with fail
  go_ret
  exact⟨Iy HE.out,b4⟩
theorem jP (r p i f:Int) (A:Option Addr) (n c:Nat) (l t:List Int) (w:World) (hA:Seen w w.heap.size A n (Br l)) (hn:n<=1099511627776) (h0:0<=f) (ht: ∀x∈t,0<=x/\x<256):
  Calls Tryz.prog 115 #[.agg #[.int .i64 5,.int .i32 r,.int .u8 p,.int .u8 i,.int .u8 f,.slice A n c,.string (strOfNums t)]] w fun e w'=>e=.returned (.bool (PA.Bd ⟨5,r,p,i,f,l,t⟩))/\Below w.heap.size w w':=by
 have HB:=hide (fun o:Obj=>(Below.refl w.heap.size w).alloc (Nat.le_refl _) o)
 have SM:=hide (fun w1 (b1:Below w.heap.size w w1)=>Gq 5 r p i f 5 0 0 0 0 A none n c 0 0 l [] t t w1 ((hA.below b1).more b1.size) (Seen.IV _ _ _) hn ht ht)
 have CF:=hide (fun w=>Nr t w ht)
 have RB:=hide (rb5 r p i f l t)
 generalize PA.Bd ⟨5,r,p,i,f,l,t⟩=R at RB⊢
 generalize Dp ⟨5,r,p,i,f,l,t⟩ ⟨5,0,0,0,0, [],t⟩=S at*
 generalize decide (IB t)=b1 at*
 clear hA ht
 rcases b1 with _ | _
 ·have HE:=hide (show R=false by rw [RB.out];rfl)
  go_enter Tryz.func115,Tryz.ntmps115
  go_wp2_with fail
  refine(CF.out _).mono ?_
  rintro e w1 ⟨rfl,bb⟩
  have b2:=(HB.out _).trans (bb.mono (by simp))
  obtain⟨k0,k1,k2,k3,k4,k5,k6⟩:=Box.seven ((Box.new w 34 #[.int .i64 5,.int .i32 r,.int .u8 p,.int .u8 i,.int .u8 f,.slice A n c,.string (strOfNums t)]).below bb (by simp))
  clear bb
  go_wp2_with fail
  go_ret
  exact⟨Iy HE.out,b2⟩
 ·have HE:=hide (show R=S by rw [RB.out];rfl)
  go_enter Tryz.func115,Tryz.ntmps115
  go_wp2_with fail
  refine(CF.out _).mono ?_
  rintro e w1 ⟨rfl,bb⟩
  have b2:=(HB.out _).trans (bb.mono (by simp))
  obtain⟨k0,k1,k2,k3,k4,k5,k6⟩:=Box.seven ((Box.new w 34 #[.int .i64 5,.int .i32 r,.int .u8 p,.int .u8 i,.int .u8 f,.slice A n c,.string (strOfNums t)]).below bb (by simp))
  clear bb
  go_wp2_with fail
  refine(SM.out _ b2).mono ?_
  rintro e w3 ⟨rfl,b3⟩
  have b4:=b2.trans (b3.mono b2.size)
  clear b3
  go_wp2_with fail
  go_ret
  exact⟨Iy HE.out,b4⟩
theorem jQ (r p i f:Int) (A:Option Addr) (n c:Nat) (l t:List Int) (w:World) (hA:Seen w w.heap.size A n (Br l)) (hn:n<=1099511627776) (h0:0<=f) (ht: ∀x∈t,0<=x/\x<256):
  Calls Tryz.prog 115 #[.agg #[.int .i64 4,.int .i32 r,.int .u8 p,.int .u8 i,.int .u8 f,.slice A n c,.string (strOfNums t)]] w fun e w'=>e=.returned (.bool (PA.Bd ⟨4,r,p,i,f,l,t⟩))/\Below w.heap.size w w':=by
 have HB:=hide (fun o:Obj=>(Below.refl w.heap.size w).alloc (Nat.le_refl _) o)
 have CF:=hide (fun o:Obj=>Pj 4 r p i f A n c l t (w.alloc o) ((hA.alloc (Nat.le_refl _) _).more (by simp)))
 have RB:=hide (rb4 r p i f l t)
 have hts:(strOfNums t).toList.isEmpty=decide (t= []):=by rw [E9,Bool.eq_iff_iff];simp
 generalize PA.Bd ⟨4,r,p,i,f,l,t⟩=R at RB⊢
 generalize (decide (64<=f)&&(decide (f<=126)&&(decide (PA.Cj i)&&(decide (PA.ES p)&&decide (C9 l)))))=b1 at*
 generalize decide (t= [])=bt at*
 generalize strOfNums t=s at*
 clear hA ht
 rcases b1 with _ | _
 ·have HE:=hide (show R=false by rw [RB.out];rfl)
  go_enter Tryz.func115,Tryz.ntmps115
  go_wp2_with fail
  refine(CF.out _).mono ?_
  rintro e w1 ⟨rfl,bb⟩
  have b2:=(HB.out _).trans (bb.mono (by simp))
  clear bb
  go_wp2_with fail
  go_ret
  exact⟨Iy HE.out,b2⟩
 by_cases hr:r=0
 ·subst hr
  have HE:=hide (show R=bt by rw [RB.out];simp)
  have HTS:=hide hts
  clear hts
  go_enter Tryz.func115,Tryz.ntmps115
  go_wp2_with fail
  have bx:=Box.new w 34 #[.int .i64 4,.int .i32 0,.int .u8 p,.int .u8 i,.int .u8 f,.slice A n c,.string s]
  refine(CF.out _).mono ?_
  rintro e w1 ⟨rfl,bb⟩
  have b2:=(HB.out _).trans (bb.mono (by simp))
  obtain⟨k0,k1,k2,k3,k4,k5,k6⟩:=Box.seven (bx.below bb (by simp))
  clear bb bx
  go_wp2_with fail
  go_ret
  exact⟨Iy (HE.out.trans HTS.out.symm),b2⟩
 ·have d0:(r==0)=false:=by simpa using hr
  have HE:=hide (show R=false by rw [RB.out];simp [hr])
  clear hr
  go_enter Tryz.func115,Tryz.ntmps115
  go_wp2_with fail
  have bx:=Box.new w 34 #[.int .i64 4,.int .i32 r,.int .u8 p,.int .u8 i,.int .u8 f,.slice A n c,.string s]
  refine(CF.out _).mono ?_
  rintro e w1 ⟨rfl,bb⟩
  have b2:=(HB.out _).trans (bb.mono (by simp))
  obtain⟨k0,k1,k2,k3,k4,k5,k6⟩:=Box.seven (bx.below bb (by simp))
  clear bb bx
  go_wp2_with fail
  go_ret
  exact⟨Iy HE.out,b2⟩
theorem jR (k r p i f:Int) (A:Option Addr) (n c:Nat) (l t:List Int) (w:World) (hA:Seen w w.heap.size A n (Br l)) (hn:n<=1099511627776) (h0:0<=f) (ht: ∀x∈t,0<=x/\x<256) (h1:k≠1) (h2:k≠2) (h3:k≠3) (h4:k≠4) (h5:k≠5):
  Calls Tryz.prog 115 #[.agg #[.int .i64 k,.int .i32 r,.int .u8 p,.int .u8 i,.int .u8 f,.slice A n c,.string (strOfNums t)]] w fun e w'=>e=.returned (.bool (PA.Bd ⟨k,r,p,i,f,l,t⟩))/\Below w.heap.size w w':=by
 have HE:=hide (rb0 k r p i f l t h1 h2 h3 h4 h5)
 have e1:(k==1)=false:=by simpa using h1
 have e2:(k==2)=false:=by simpa using h2
 have e3:(k==3)=false:=by simpa using h3
 have e4:(k==4)=false:=by simpa using h4
 have e5:(k==5)=false:=by simpa using h5
 clear h1 h2 h3 h4 h5 hA ht
 go_enter Tryz.func115,Tryz.ntmps115
 go_wp2_with fail
 go_ret
 exact⟨Iy HE.out,(Below.refl _ _).alloc (Nat.le_refl _) _⟩
theorem LM (k r p i f:Int) (A:Option Addr) (n c:Nat) (l t:List Int) (w:World) (hA:Seen w w.heap.size A n (Br l)) (hn:n<=1099511627776) (h0:0<=f) (ht: ∀x∈t,0<=x/\x<256):
  Calls Tryz.prog 115 #[.agg #[.int .i64 k,.int .i32 r,.int .u8 p,.int .u8 i,.int .u8 f,.slice A n c,.string (strOfNums t)]] w fun e w'=>e=.returned (.bool (PA.Bd ⟨k,r,p,i,f,l,t⟩))/\Below w.heap.size w w':=by
 by_cases h1:k=1
 ·subst h1;exact jM r p i f A n c l t w hA hn h0 ht
 by_cases h2:k=2
 ·subst h2;exact jN r p i f A n c l t w hA hn h0 ht
 by_cases h3:k=3
 ·subst h3;exact jO r p i f A n c l t w hA hn h0 ht
 by_cases h4:k=4
 ·subst h4;exact jQ r p i f A n c l t w hA hn h0 ht
 by_cases h5:k=5
 ·subst h5;exact jP r p i f A n c l t w hA hn h0 ht
 exact jR k r p i f A n c l t w hA hn h0 ht h1 h2 h3 h4 h5
end Go.Proofs.YtoaabebgmdbjeaaGreatDoor
namespace Go.Proofs.YtoaabebgmdbjeaaGreatDoor
open Go.RowKit
theorem Iz (r:Int) (w:World):Calls Tryz.prog 206 #[.int .i32 r] w fun e w'=>e=.returned (.int .u8 (U.tl r))/\w=w':=by
 have e1:=YA 6 (by omega) r
 have e2:=ah 6 128 (r%64) (by omega) (by omega) (by omega) (by omega) (by omega)
 have e3:U.tl r=128+r%64:=rfl
 have e4:r%64%256=r%64:=by omega
 have E:=hide (And.intro e1 (And.intro e2 (And.intro e3 e4)))
 clear e1 e2 e3 e4
 go_enter Tryz.func206,Tryz.ntmps206
 go_wp2
 go_ret
 obtain⟨e1,e2,e3,e4⟩:=E.out
 refine⟨TP ?_,rfl⟩
 simp at e1
 rw [e3]
 show bits .or .u8 128 (bits .and .i32 r 63%256)=_
 rw [e1,e4,e2]
end Go.Proofs.YtoaabebgmdbjeaaGreatDoor
namespace Go.Proofs.YtoaabebgmdbjeaaGreatDoor
open Go.RowKit
theorem Ih (base:Nat) (v:Value) (n:Nat) (xs:List Value) (r:Int) (w:World) (hown:w.ownsRow base 5 1 v n xs) (hn:n<=1099511627772) (hbase:base<=w.heap.size) (hr:U.isR r=true) (h:0<=r/\r<128):
  Calls Tryz.prog 188 #[v,.int .i32 r] w (SH base 5 w v n xs (u8s (U.en r)) fun v'=>v'):=by
 obtain⟨i0,hi,hz0,hz1,hz2⟩:=info_parts Dy
 have he:U.en r= [r] :=by unfold U.en;repeat(first | rw [if_pos (by omega)] | rw [if_neg (by omega)])
 rw [he]
 clear he
 have CI:=hide (GK r)
 have CS:=hide (Ir r)
 have CT:=hide Iz
 go_enter Tryz.func188,Tryz.ntmps188
 go_wp2_with (first
  | (go_at_call 204;go_must (refine(CI.out _).mono ?_);rintro e w' ⟨rfl,rfl⟩;rw [hr])
  | (go_at_call 205;go_must (refine(CS.out _).mono ?_);rintro e w' ⟨rfl,rfl⟩;rw [show U.sz r=1 from by unfold U.sz;repeat(first | rw [if_pos (by omega)] | rw [if_neg (by omega)])])
  | (go_at_call 206;go_must (refine(CT.out _ _).mono ?_);rintro e w' ⟨rfl,rfl⟩)
  | (at_builtin;go_must (refine Ei rfl (.tmp 13) (.tmp 16) 30 rfl base 5 i0 _ 1 Tryz.underlying30 hi hz0 hz1 hz2 rfl v n xs rfl hown _ _ _ 1 rfl rfl (by simp) (by simp [Value.oneCell']) (by omega) (by omega) hbase ?_);intro v' w1 hown1 hg1 hm1))
 go_ret
 exact⟨v',rfl,hown1,hg1,hm1⟩
theorem put2 (base:Nat) (v:Value) (n:Nat) (xs:List Value) (r:Int) (w:World) (hown:w.ownsRow base 5 1 v n xs) (hn:n<=1099511627772) (hbase:base<=w.heap.size) (hr:U.isR r=true) (h:128<=r/\r<2048):
  Calls Tryz.prog 188 #[v,.int .i32 r] w (SH base 5 w v n xs (u8s (U.en r)) fun v'=>v'):=by
 obtain⟨i0,hi,hz0,hz1,hz2⟩:=info_parts Dy
 have he:U.en r= [192+r / 64,U.tl r] :=by unfold U.en;repeat(first | rw [if_pos (by omega)] | rw [if_neg (by omega)])
 rw [he]
 clear he
 have CI:=hide (GK r)
 have CS:=hide (Ir r)
 have CT:=hide Iz
 go_enter Tryz.func188,Tryz.ntmps188
 go_wp2_with (first
  | (go_at_call 204;go_must (refine(CI.out _).mono ?_);rintro e w' ⟨rfl,rfl⟩;rw [hr])
  | (go_at_call 205;go_must (refine(CS.out _).mono ?_);rintro e w' ⟨rfl,rfl⟩;rw [show U.sz r=2 from by unfold U.sz;repeat(first | rw [if_pos (by omega)] | rw [if_neg (by omega)])])
  | (go_at_call 206;go_must (refine(CT.out _ _).mono ?_);rintro e w' ⟨rfl,rfl⟩)
  | (at_builtin;go_must (refine Ei rfl (.tmp 20) (.tmp 27) 30 rfl base 5 i0 _ 1 Tryz.underlying30 hi hz0 hz1 hz2 rfl v n xs rfl hown _ _ _ 2 rfl rfl (by simp) (by simp [Value.oneCell']) (by omega) (by omega) hbase ?_);intro v' w1 hown1 hg1 hm1))
 go_ret
 exact⟨v',rfl,hown1,hg1,hm1⟩
theorem put3 (base:Nat) (v:Value) (n:Nat) (xs:List Value) (r:Int) (w:World) (hown:w.ownsRow base 5 1 v n xs) (hn:n<=1099511627772) (hbase:base<=w.heap.size) (hr:U.isR r=true) (h:2048<=r/\r<65536):
  Calls Tryz.prog 188 #[v,.int .i32 r] w (SH base 5 w v n xs (u8s (U.en r)) fun v'=>v'):=by
 obtain⟨i0,hi,hz0,hz1,hz2⟩:=info_parts Dy
 have he:U.en r= [224+r / 4096,U.tl (r / 64),U.tl r] :=by unfold U.en;repeat(first | rw [if_pos (by omega)] | rw [if_neg (by omega)])
 rw [he]
 clear he
 have CI:=hide (GK r)
 have CS:=hide (Ir r)
 have CT:=hide Iz
 go_enter Tryz.func188,Tryz.ntmps188
 go_wp2_with (first
  | (go_at_call 204;go_must (refine(CI.out _).mono ?_);rintro e w' ⟨rfl,rfl⟩;rw [hr])
  | (go_at_call 205;go_must (refine(CS.out _).mono ?_);rintro e w' ⟨rfl,rfl⟩;rw [show U.sz r=3 from by unfold U.sz;repeat(first | rw [if_pos (by omega)] | rw [if_neg (by omega)])])
  | (go_at_call 206;go_must (refine(CT.out _ _).mono ?_);rintro e w' ⟨rfl,rfl⟩)
  | (at_builtin;go_must (refine Ei rfl (.tmp 31) (.tmp 41) 30 rfl base 5 i0 _ 1 Tryz.underlying30 hi hz0 hz1 hz2 rfl v n xs rfl hown _ _ _ 3 rfl rfl (by simp) (by simp [Value.oneCell']) (by omega) (by omega) hbase ?_);intro v' w1 hown1 hg1 hm1))
 go_ret
 exact⟨v',rfl,hown1,hg1,hm1⟩
theorem put4 (base:Nat) (v:Value) (n:Nat) (xs:List Value) (r:Int) (w:World) (hown:w.ownsRow base 5 1 v n xs) (hn:n<=1099511627772) (hbase:base<=w.heap.size) (hr:U.isR r=true) (h:65536<=r/\r<1114112):
  Calls Tryz.prog 188 #[v,.int .i32 r] w (SH base 5 w v n xs (u8s (U.en r)) fun v'=>v'):=by
 obtain⟨i0,hi,hz0,hz1,hz2⟩:=info_parts Dy
 have he:U.en r= [240+r / 262144,U.tl (r / 4096),U.tl (r / 64),U.tl r] :=by unfold U.en;repeat(first | rw [if_pos (by omega)] | rw [if_neg (by omega)])
 rw [he]
 clear he
 have CI:=hide (GK r)
 have CS:=hide (Ir r)
 have CT:=hide Iz
 go_enter Tryz.func188,Tryz.ntmps188
 go_wp2_with (first
  | (go_at_call 204;go_must (refine(CI.out _).mono ?_);rintro e w' ⟨rfl,rfl⟩;rw [hr])
  | (go_at_call 205;go_must (refine(CS.out _).mono ?_);rintro e w' ⟨rfl,rfl⟩;rw [show U.sz r=4 from by unfold U.sz;repeat(first | rw [if_pos (by omega)] | rw [if_neg (by omega)])])
  | (go_at_call 206;go_must (refine(CT.out _ _).mono ?_);rintro e w' ⟨rfl,rfl⟩)
  | (at_builtin;go_must (refine Ei rfl (.tmp 43) (.tmp 56) 30 rfl base 5 i0 _ 1 Tryz.underlying30 hi hz0 hz1 hz2 rfl v n xs rfl hown _ _ _ 4 rfl rfl (by simp) (by simp [Value.oneCell']) (by omega) (by omega) hbase ?_);intro v' w1 hown1 hg1 hm1))
 go_ret
 exact⟨v',rfl,hown1,hg1,hm1⟩
theorem put0 (base:Nat) (v:Value) (n:Nat) (xs:List Value) (r:Int) (w:World) (hown:w.ownsRow base 5 1 v n xs) (hn:n<=1099511627772) (hbase:base<=w.heap.size) (hr:U.isR r=false) (hr0: -2147483648<=r) (hr1:r<=2147483647):
  Calls Tryz.prog 188 #[v,.int .i32 r] w (SH base 5 w v n xs (u8s [239,191,189]) fun v'=>v'):=by
 obtain⟨i0,hi,hz0,hz1,hz2⟩:=info_parts Dy
 have CI:=hide (GK r)
 have CS:=hide (Ir 65533)
 have CT:=hide Iz
 have hz:U.sz 65533=3:=by simp [U.sz]
 rw [hz] at CS
 clear hz
 have t1:U.tl 1023=191:=by simp [U.tl]
 have t2:U.tl 65533=189:=by simp [U.tl]
 go_enter Tryz.func188,Tryz.ntmps188
 go_wp2_with (first
  | (go_at_call 204;go_must (refine(CI.out _).mono ?_);rintro e w' ⟨rfl,rfl⟩;rw [hr])
  | (go_at_call 205;go_must (refine(CS.out _).mono ?_);rintro e w' ⟨rfl,rfl⟩)
  | (go_at_call 206;go_must (refine(CT.out _ _).mono ?_);rintro e w' ⟨rfl,rfl⟩)
  | (at_builtin;go_must (refine Ei rfl (.tmp 31) (.tmp 41) 30 rfl base 5 i0 _ 1 Tryz.underlying30 hi hz0 hz1 hz2 rfl v n xs rfl hown _ _ _ 3 rfl rfl (by simp) (by simp [Value.oneCell']) (by omega) (by omega) hbase ?_);intro v' w1 hown1 hg1 hm1))
 go_ret
 exact⟨v',rfl,hown1,hg1,hm1⟩
theorem dP (base:Nat) (v:Value) (n:Nat) (xs:List Value) (r:Int) (w:World) (hown:w.ownsRow base 5 1 v n xs) (hn:n<=1099511627772) (hbase:base<=w.heap.size) (hr0: -2147483648<=r) (hr1:r<=2147483647):
  Calls Tryz.prog 188 #[v,.int .i32 r] w (SH base 5 w v n xs (u8s (U.en1 r)) fun v'=>v'):=by
 rcases hr:U.isR r with _ | _
 ·rw [show U.en1 r= [239,191,189] from by simp [U.en1,hr]]
  exact put0 base v n xs r w hown hn hbase hr hr0 hr1
 ·rw [show U.en1 r=U.en r from by simp [U.en1,hr]]
  have h:=hr
  simp [U.isR] at h
  have cs:(0<=r/\r<128)\/(128<=r/\r<2048)\/(2048<=r/\r<65536)\/(65536<=r/\r<1114112):=by omega
  rcases cs with c | c | c | c
  ·exact Ih base v n xs r w hown hn hbase hr c
  ·exact put2 base v n xs r w hown hn hbase hr c
  ·exact put3 base v n xs r w hown hn hbase hr c
  ·exact put4 base v n xs r w hown hn hbase hr c
def VG (w:World) (l:List Int) (e:Ending) (w':World):Prop:=
 ∃v',e=.returned v'/\w'.ownsRow w.heap.size 5 1 v' l.length (u8s l)/\Below w.heap.size w w'
theorem TR (A:Option Addr) (n c:Nat) (l:List Int) (w:World) (hA:Seen w w.heap.size A n (aj l)) (hl: ∀x∈l, -2147483648<=x/\x<=2147483647) (hn:n<=137438953472):
  Calls Tryz.prog 153 #[.slice A n c] w (VG w (U.enc l)):=by
 have hlen:l.length=n:=by simpa [aj] using hA.1
 have HA:=hide hA
 have HN:=hide hlen
 have HL:=hide hl
 clear hA hlen hl
 go_enter Tryz.func153,Tryz.ntmps153
 go_wp2
 go_loopw [3,8] (fun v i wr=> ∃k:Nat,k<=n/\i=.int .i64 k/\wr.ownsRow w.heap.size 5 1 v (U.enc (l.take k)).length (u8s (U.enc (l.take k)))/\Below w.heap.size w wr)
  (fun _ i _=>n-(intOf i).toNat)
 case atStart=>exact⟨0,Nat.zero_le _,rfl,World.ownsRow_nil _ _ _ _,Below.refl _ _⟩
 case round=>
  obtain⟨k,hk,rfl,hown,hbel⟩:=hrel
  by_cases hlt:k<n
  ·obtain⟨ad,u,rfl,_,hu,hc⟩:=(HA.out.below hbel).at_ hlt
   rw [aj,List.getElem?_map] at hu
   obtain⟨x,hx,rfl⟩:=Option.map_eq_some_iff.1 hu
   have hs1:=U.YG (l.take k) x
   rw [show l.take k++ [x] =l.take (k+1) from by rw [List.take_add_one,hx];rfl] at hs1
   have hlen:=U.bM (l.take k)
   rw [List.length_take] at hlen
   generalize U.enc (l.take k)=ys at hs1 hown hlen
   have ci:=dP w.heap.size u3 ys.length (u8s ys) x wr hown (by omega) hbel.size (HL.out x (List.mem_of_getElem? hx)).1 (HL.out x (List.mem_of_getElem? hx)).2
   generalize U.en1 x=ts at hs1 ci
   have CI:=hide ci
   have HS:=hide hs1
   clear hu hx hs1 ci
   go_wp2_with (go_at_call 188;go_must (refine CI.out.mono ?_);rintro e w1 ⟨v',rfl,hown1,hg1,hm1⟩)
   go_roundw
   case rel=>
    refine⟨k+1,by omega,by go_num,?_,hbel.grown hg1 hbel.size (fun g hg=>(hown.lt g hg).1)⟩
    rw [HS.out]
    simpa [u8s] using hown1
   case measure=>simp [intOf];omega
  ·obtain rfl:k=n:=by omega
   rw [List.take_of_length_le (by rw [HN.out];omega)] at hown
   go_wp2
   go_ret
   exact⟨u3,rfl,hown,hbel⟩
end Go.Proofs.YtoaabebgmdbjeaaGreatDoor
