/- A part of the proof: GridSmall, PenEq. -/
import Derived.Test.YtoaabebgmdbjeaaGreatDoorSb04
import Derived.Laws.StructEq
set_option maxRecDepth 100000
set_option maxHeartbeats 16000000
set_option linter.unusedVariables false
namespace Go.Proofs.YtoaabebgmdbjeaaGreatDoor
open Go.RowKit
theorem KG (R K n c:Nat) (A:Option Addr) (w:World) (hn:n=R*K) (h1:1<=R) (hR:R<=40) (h0:1<=K) (hK:K<=60):
  Calls Tryz.prog 92 #[gv R K (.slice A n c)] w fun e w'=>e=.returned (.bool true)/\Below w.heap.size w w':=by
 have e1:(R:Int)*(K:Int)=(n:Int):=by rw [hn];simp
 have hn5:n<=2400:=by rw [hn];exact Nat.mul_le_mul hR hK
 have q1:((R:Int)>=1):=by omega
 clear hn
 unfold gv
 go_enter Tryz.func92,Tryz.ntmps92
 go_wp2_with fail
 go_ret
 exact⟨rfl,(Below.refl _ _).alloc (Nat.le_refl _) _⟩
theorem GN (R K r n c:Nat) (ad:Addr) (w:World) (hn:n=R*K) (hnc:n<=c) (hc:c<=maxLen) (hr:r<R) (hR:R<=40) (h0:1<=K) (hK:K<=60):
  Calls Tryz.prog 66 #[gv R K (.slice (some ad) n c),.int .i64 r] w fun e w'=>(∃c',e=.returned (.slice (some (ad.add (r*K*5))) K c')/\K<=c'/\c'<=maxLen)/\Below w.heap.size w w':=by
 have SZ:=hide (fun w'=>KG R K n c (some ad) w' hn (by omega) hR h0 hK)
 have hle:r*K+K<=R*K:=by rw [<- Nat.succ_mul];exact Nat.mul_le_mul_right K hr
 have hRK:R*K<=2400:=Nat.mul_le_mul hR hK
 have e1:(r:Int)*(K:Int)=((r*K:Nat):Int):=by simp
 have e2:((r:Int)+1)*(K:Int)=((r*K+K:Nat):Int):=by rw [Int.add_mul,e1];simp
 unfold gv at SZ
 generalize r*K=x at*
 rw [<- hn] at hle hRK
 clear hn
 unfold gv
 go_enter Tryz.func66,Tryz.ntmps66
 go_wp2_with (
  go_at_call 92
  go_must (refine(SZ.out _).mono ?_)
  rintro e w1 ⟨rfl,b1⟩
  have x1:=(Box.new w 37 #[.int .i64 R,.int .i64 K,.slice (some ad) n c]).below b1 (by simp)
  obtain⟨y0,y1,y2,_⟩:=x1.three
  have b2:=((Below.refl w.heap.size w).alloc (Nat.le_refl _) (.cells #[.int .i64 R,.int .i64 K,.slice (some ad) n c] 37)).trans (b1.mono (by simp))
  clear b1 SZ)
 go_ret
 refine⟨⟨c-x,?_,by omega,by omega⟩,b2⟩
 first | rfl | (show Ending.returned (.slice _ (x+K-x) _)=_;rw [Nat.add_sub_cancel_left])
theorem Gy {w:World} {B n R K r:Nat} {ad:Addr} {l:List PG.Cl} (hl:Au w B (some ad) n l) (hn:n=R*K) (hr:r<R) (h0:1<=K):Au w B (some (ad.add (r*K*5))) K ((l.drop (r*K)).take K):=by
 have hle:r*K+K<=R*K:=by rw [<- Nat.succ_mul];exact Nat.mul_le_mul_right K hr
 have h:=(hl.drop (k:=r*K) (cap:=n) (by omega) (Nat.le_refl _)).take (k:=K) (by omega)
 rw [if_neg (by omega)] at h
 exact h
theorem Ud (R K n c:Nat) (r:Int) (A:Option Addr) (w:World) (hn:n=R*K) (h1:1<=R) (hr:r<0\/(R:Int)<=r) (hR:R<=40) (h0:1<=K) (hK:K<=60):
  Calls Tryz.prog 66 #[gv R K (.slice A n c),.int .i64 r] w fun e w'=>e=.returned (.slice none 0 0)/\Below w.heap.size w w':=by
 have SZ:=hide (fun w'=>KG R K n c A w' hn h1 hR h0 hK)
 unfold gv at SZ
 clear hn
 unfold gv
 rcases hr with hr | hr
 ·go_enter Tryz.func66,Tryz.ntmps66
  go_wp2_with (
   go_at_call 92
   go_must (refine(SZ.out _).mono ?_)
   rintro e w1 ⟨rfl,b1⟩
   have x1:=(Box.new w 37 #[.int .i64 R,.int .i64 K,.slice A n c]).below b1 (by simp)
   obtain⟨y0,y1,y2,_⟩:=x1.three
   have b2:=((Below.refl w.heap.size w).alloc (Nat.le_refl _) (.cells #[.int .i64 R,.int .i64 K,.slice A n c] 37)).trans (b1.mono (by simp))
   clear b1 SZ)
  go_ret
  exact⟨rfl,b2⟩
 ·have hr0:0<=r:=by omega
  go_enter Tryz.func66,Tryz.ntmps66
  go_wp2_with (
   go_at_call 92
   go_must (refine(SZ.out _).mono ?_)
   rintro e w1 ⟨rfl,b1⟩
   have x1:=(Box.new w 37 #[.int .i64 R,.int .i64 K,.slice A n c]).below b1 (by simp)
   obtain⟨y0,y1,y2,_⟩:=x1.three
   have b2:=((Below.refl w.heap.size w).alloc (Nat.le_refl _) (.cells #[.int .i64 R,.int .i64 K,.slice A n c] 37)).trans (b1.mono (by simp))
   clear b1 SZ)
  go_ret
  exact⟨rfl,b2⟩
theorem pE (l:List PG.Cl) (n c B:Nat) (j k:Int) (b:Bool) (A:Option Addr) (w:World) (hl:Au w B A n l) (hn:n<=1099511627776)
  (hb:(b=true/\ ∃q:Nat,j=q/\ ∃d,l[q]? =some d/\PG.kd d=k)\/(b=false/\(j<0\/(n:Int)<=j\/ ∃q:Nat,j=q/\ ∃d,l[q]? =some d/\PG.kd d≠k))):
  Calls Tryz.prog 161 #[.slice A n c,.int .i64 j,.int .i64 k] w fun e w'=>e=.returned (.bool b)/\w=w':=by
 have hlen:=hl.len
 rcases hb with ⟨rfl,q,rfl,d,hd,rfl⟩ | ⟨rfl,h | h | ⟨q,rfl,d,hd,hk⟩⟩
 ·have hq:q<n:=by rw [<- hlen];exact(List.getElem?_eq_some_iff.1 hd).1
  obtain⟨ad,rfl,_,d0,d1,_⟩:=hl.five hd
  clear hl hd hlen
  generalize PG.kd d=k at*
  go_enter Tryz.func161,Tryz.ntmps161
  go_wp2_with fail
  go_ret
  exact⟨LP (by simp),rfl⟩
 ·clear hl hlen
  go_enter Tryz.func161,Tryz.ntmps161
  go_wp2_with fail
  go_ret
  exact⟨rfl,rfl⟩
 ·have h0:0<=j:=by omega
  clear hl hlen
  go_enter Tryz.func161,Tryz.ntmps161
  go_wp2_with fail
  go_ret
  exact⟨rfl,rfl⟩
 ·have hq:q<n:=by rw [<- hlen];exact(List.getElem?_eq_some_iff.1 hd).1
  obtain⟨ad,rfl,_,d0,d1,_⟩:=hl.five hd
  clear hl hd hlen
  have hz:(PG.kd d==k)=false:=by simpa using hk
  generalize PG.kd d=kk at*
  clear hk
  go_enter Tryz.func161,Tryz.ntmps161
  go_wp2_with fail
  go_ret
  exact⟨rfl,rfl⟩
def Dy (l:List PG.Cl) (k:Nat):Bool:=decide ((PG.kd (fnL l k)=1/\ ¬(k+1<l.length/\PG.kd (fnL l (k+1))=2))\/(PG.kd (fnL l k)=2/\ ¬(0<k/\PG.kd (fnL l (k-1))=1)))
theorem Lg (l:List PG.Cl) (k:Nat):PG.mend (fnL l) l.length k=if Dy l k=true then PG.blank (PG.pn (fnL l k)) else fnL l k:=by
 unfold PG.mend Dy
 simp only [decide_eq_true_eq]
theorem VZ (l:List PG.Cl) (n c B k:Nat) (A:Option Addr) (w:World) (hl:Au w B A n l) (hn:n<=1099511627776) (hk:k<n):
  Calls Tryz.prog 128 #[.slice A n c,.int .i64 k] w fun e w'=>e=.returned (.bool (Dy l k))/\w=w':=by
 have hlen:=hl.len
 have IS:=hide (fun j q b hb=>pE l n c B j q b A w hl hn hb)
 have hck:l[k]? =some l[k] :=List.getElem?_eq_getElem (by omega)
 generalize l[k] =cc at hck
 have hf:=JF hck
 obtain⟨ad,rfl,_,d0,d1,_⟩:=hl.five hck
 by_cases h1:PG.kd cc=1
 ·by_cases h2:k+1<l.length/\PG.kd (fnL l (k+1))=2
  ·have e:Dy l k=false:=by unfold Dy;rw [hf,decide_eq_false_iff_not];rintro (⟨_,x⟩ | ⟨x,_⟩);exact x h2;omega
   have I:=hide (IS.out ((k:Int)+1) 2 true (.inl ⟨rfl,k+1,by omega,_,List.getElem?_eq_getElem h2.1,by rw [<- JF (List.getElem?_eq_getElem h2.1)];exact h2.2⟩))
   rw [e]
   rw [h1] at d1
   clear hl hck hlen IS h2 e hf h1 d0
   go_enter Tryz.func128,Tryz.ntmps128
   go_wp2_with (go_at_call 161;go_must (refine(I.out).mono ?_);rintro e w1 ⟨rfl,rfl⟩)
   go_ret
   exact⟨rfl,rfl⟩
  ·have e:Dy l k=true:=by unfold Dy;rw [hf,decide_eq_true_eq];exact .inl ⟨h1,h2⟩
   have I:=hide (IS.out ((k:Int)+1) 2 false (.inr ⟨rfl,by
    by_cases h3:k+1<l.length
    ·exact .inr (.inr ⟨k+1,by omega,_,List.getElem?_eq_getElem h3,fun h4=>h2 ⟨h3,by rw [JF (List.getElem?_eq_getElem h3)];exact h4⟩⟩)
    ·exact .inr (.inl (by omega))⟩))
   rw [e]
   rw [h1] at d1
   clear hl hck hlen IS h2 e hf h1 d0
   go_enter Tryz.func128,Tryz.ntmps128
   go_wp2_with (go_at_call 161;go_must (refine(I.out).mono ?_);rintro e w1 ⟨rfl,rfl⟩)
   go_ret
   exact⟨rfl,rfl⟩
 ·by_cases h3:PG.kd cc=2
  ·by_cases h2:0<k/\PG.kd (fnL l (k-1))=1
   ·have e:Dy l k=false:=by unfold Dy;rw [hf,decide_eq_false_iff_not];rintro (⟨x,_⟩ | ⟨_,x⟩);exact h1 x;exact x h2
    have hp:l[k-1]? =some l[k-1] :=List.getElem?_eq_getElem (by omega)
    have I:=hide (IS.out ((k:Int)-1) 1 true (.inl ⟨rfl,k-1,by omega,_,hp,by rw [<- JF hp];exact h2.2⟩))
    rw [e]
    rw [h3] at d1
    clear hl hck hlen IS h2 e hf h1 h3 d0 hp
    go_enter Tryz.func128,Tryz.ntmps128
    go_wp2_with (go_at_call 161;go_must (refine(I.out).mono ?_);rintro e w1 ⟨rfl,rfl⟩)
    go_ret
    exact⟨rfl,rfl⟩
   ·have e:Dy l k=true:=by unfold Dy;rw [hf,decide_eq_true_eq];exact .inr ⟨h3,h2⟩
    have I:=hide (IS.out ((k:Int)-1) 1 false (.inr ⟨rfl,by
     by_cases h4:0<k
     ·have hp:l[k-1]? =some l[k-1] :=List.getElem?_eq_getElem (by omega)
      exact .inr (.inr ⟨k-1,by omega,_,hp,fun h5=>h2 ⟨h4,by rw [JF hp];exact h5⟩⟩)
     ·exact .inl (by omega)⟩))
    rw [e]
    rw [h3] at d1
    clear hl hck hlen IS h2 e hf h1 h3 d0
    go_enter Tryz.func128,Tryz.ntmps128
    go_wp2_with (go_at_call 161;go_must (refine(I.out).mono ?_);rintro e w1 ⟨rfl,rfl⟩)
    go_ret
    exact⟨rfl,rfl⟩
  ·have e:Dy l k=false:=by unfold Dy;rw [hf,decide_eq_false_iff_not];rintro (⟨x,_⟩ | ⟨x,_⟩);exact h1 x;exact h3 x
   have q1:(PG.kd cc==1)=false:=by simpa using h1
   have q2:(PG.kd cc==2)=false:=by simpa using h3
   rw [e]
   clear hl hck hlen IS e hf d0 h1 h3
   go_enter Tryz.func128,Tryz.ntmps128
   go_wp2_with fail
   go_ret
   exact⟨rfl,rfl⟩
theorem QA (l:List PG.Cl) (n c B k:Nat) (b:Bool) (e:Dy l k=b) (A:Option Addr) (w:World) (hl:Au w B A n l) (hn:n<=1099511627776) (hk:k<n):
  Calls Tryz.prog 128 #[.slice A n c,.int .i64 k] w fun e w'=>e=.returned (.bool b)/\Below w.heap.size w w':=by
 subst e
 refine(VZ l n c B k A w hl hn hk).mono ?_
 rintro e w' ⟨rfl,rfl⟩
 exact⟨rfl,Below.refl _ _⟩
end Go.Proofs.YtoaabebgmdbjeaaGreatDoor
namespace Go.Proofs.YtoaabebgmdbjeaaGreatDoor
open Go.RowKit
def E8 (l:List PG.Cl) (k:Nat):List PG.Cl:=(Dn l).take k++List.replicate (l.length-k) PG.none
theorem Rq (l:List PG.Cl):E8 l 0=List.replicate l.length PG.none:=by simp [E8]
theorem Va (l:List PG.Cl):E8 l l.length=Dn l:=by
 unfold E8
 rw [List.take_of_length_le (by rw [Ed];exact Nat.le_refl _),Nat.sub_self,List.replicate_zero,List.append_nil]
theorem Vb {l:List PG.Cl} {k:Nat} (hk:k<=l.length):(E8 l k).length=l.length:=by
 unfold E8
 rw [List.length_append,List.length_take,List.length_replicate,Ed]
 omega
theorem Nb {l:List PG.Cl} {k:Nat} (hk:k<l.length):(E8 l k).set k (PG.mend (fnL l) l.length k)=E8 l (k+1):=by
 unfold E8
 have e:((Dn l).take k).length=k:=by rw [List.length_take,Ed];omega
 rw [List.set_append_right _ _ (by omega),e,Nat.sub_self,show l.length-k=(l.length-(k+1))+1 by omega,List.replicate_succ,List.set_cons_zero,List.take_add_one,YO hk]
 simp
theorem Yb {l:List PG.Cl} {k:Nat} (hk:k<l.length):(E8 l k)[k]? =some PG.none:=by
 have e:((Dn l).take k).length=k:=by rw [List.length_take,Ed];omega
 unfold E8
 rw [List.getElem?_append_right (by omega),e,Nat.sub_self,List.getElem?_replicate,if_pos (by omega)]
theorem Oc {w:World} {base n g cap k:Nat} {c:PG.Cl} {e:TypeId} {l:List PG.Cl} (h:w.ownsRow base e 5 (.slice (some ⟨g,0,none⟩) n cap) n (Ag (l.set k c))) (hk:k<l.length):
  w.cell? ⟨g,k*5,none⟩=some (.int .i32 (PG.rn c))/\w.cell? ⟨g,k*5+1,none⟩=some (.int .i64 (PG.kd c))/\w.cell? ⟨g,k*5+2,none⟩=some (.int .i64 (PG.pn c).1)/\w.cell? ⟨g,k*5+3,none⟩=some (.int .i64 (PG.pn c).2.1)/\w.cell? ⟨g,k*5+4,none⟩=some (.int .i64 (PG.pn c).2.2)/\
  w.frozen? ⟨g,k*5,none⟩=false/\w.frozen? ⟨g,k*5+1,none⟩=false/\w.frozen? ⟨g,k*5+2,none⟩=false/\w.frozen? ⟨g,k*5+3,none⟩=false/\w.frozen? ⟨g,k*5+4,none⟩=false:=
 IK h (by rw [List.getElem?_set_self hk])
theorem Gz (n c B:Nat) (A:Option Addr) (l:List PG.Cl) (w:World) (hl:Au w B A n l) (hB:B<=w.heap.size) (hn:n<=1048576):
  Calls Tryz.prog 114 #[.slice A n c] w fun e w'=> ∃g,e=.returned (.slice (some ⟨g,0,none⟩) n n)/\w'.ownsRow w.heap.size 66 5 (.slice (some ⟨g,0,none⟩) n n) n (Ag (Dn l))/\Below w.heap.size w w':=by
 obtain⟨i0,hi,hz0,hz1,hz2⟩:=info_parts DN
 have hlen:=hl.len
 have BC: ∀(p:PG.Pn) (w':World),Calls Tryz.prog 97 #[.agg #[.int .i64 p.1,.int .i64 p.2.1,.int .i64 p.2.2]] w' fun e w''=>e=.returned (.agg #[.int .i32 32,.int .i64 0,.int .i64 p.1,.int .i64 p.2.1,.int .i64 p.2.2])/\Below w'.heap.size w' w'':=fun p w'=>FP _ _ _ w'
 have BC:=hide BC
 have AL:=hide (fun w' k b (e:Dy l k=b) (hb:Below w.heap.size w w') (hk:k<n)=>QA l n c B k b e A w' (hl.below (hb.mono hB)) (by omega) hk)
 have hby:=hide (show i0.bytes*n<=281474976710656 by rw [hz2];omega)
 clear hz2
 go_enter Tryz.func114,Tryz.ntmps114
 go_wp2_with (
  at_make
  go_must (refine wpList_make_full _ rfl (.tmp 6) (.tmp 6) 35 rfl w.heap.size 66 i0 _ 5 Tryz.underlying35 hi hz0 hz1 .i64 .i64 _ _ n rfl rfl (by omega) (by omega) hby.out (by simp only [maxLen];omega) (Nat.le_refl _) ?_)
  intro w1 hown1 hg1
  rw [JE, <- hlen, <- Rq,hlen] at hown1
  have bb:Below w.heap.size w w1:=Dh hg1 (Nat.le_refl _) (by simp)
  clear hg1)
 go_loopw [10] (fun i wr=> ∃k:Nat,k<=n/\i=.int .i64 k/\wr.ownsRow w.heap.size 66 5 (.slice (some ⟨w.heap.size,0,none⟩) n n) n (Ag (E8 l k))/\Below w.heap.size w wr)
  (fun i _=>n-(intOf i).toNat)
 case atStart=>exact⟨0,Nat.zero_le _,rfl,hown1,bb⟩
 case round=>
  clear hown1 bb hby
  obtain⟨k,hk,rfl,ho,hb⟩:=hrel
  by_cases hlt:k<n
  ·have hck:l[k]? =some l[k] :=List.getElem?_eq_getElem (by omega)
   generalize l[k] =cc at hck
   obtain⟨ad,rfl,hadB,d0,d1,d2,d3,d4⟩:=(hl.below (hb.mono hB)).five hck
   have hold:=Yb (l:=l) (k:=k) (by omega)
   have hhl:=Vb (l:=l) (k:=k) (by omega)
   obtain⟨v0,v1,v2,v3,v4,f0,f1,f2,f3,f4⟩:=IK ho hold
   have l2:w.heap.size<wr.heap.size:=(ho.lt w.heap.size rfl).2
   have la:ad.block<w.heap.size:=by omega
   have S1: ∀w2,Below (Ci wr w.heap.size (k*5) cc).heap.size (Ci wr w.heap.size (k*5) cc) w2->
     (w2.cell? (ad.add (k*5))=some (.int .i32 (PG.rn cc))/\w2.cell? ⟨(ad.add (k*5)).block,(ad.add (k*5)).off+1,none⟩=some (.int .i64 (PG.kd cc))/\
      w2.cell? ⟨(ad.add (k*5)).block,(ad.add (k*5)).off+2,none⟩=some (.int .i64 (PG.pn cc).1)/\w2.cell? ⟨(ad.add (k*5)).block,(ad.add (k*5)).off+3,none⟩=some (.int .i64 (PG.pn cc).2.1)/\w2.cell? ⟨(ad.add (k*5)).block,(ad.add (k*5)).off+4,none⟩=some (.int .i64 (PG.pn cc).2.2))/\
     w2.ownsRow w.heap.size 66 5 (.slice (some ⟨w.heap.size,0,none⟩) n n) n (Ag ((E8 l k).set k cc))/\Below w.heap.size w w2:=fun w2 h2=>by
    have S:=Eo ho (k:=k) cc hlt (by omega)
    have B1:=hb.grown S.2 hb.size (by rintro _ ⟨⟩;exact Nat.le_refl _)
    have B2:=B1.trans (h2.mono B1.size)
    obtain⟨ad',e',_,q0,q1,q2,q3,q4⟩:=(hl.below (B2.mono hB)).five hck
    injection e' with e'
    subst e'
    exact⟨⟨q0,q1,q2,q3,q4⟩,S.1.kept (BS h2 none) (by simp [Value.ownBlock]),B2⟩
   have B0:Below w.heap.size w (Ci wr w.heap.size (k*5) cc):=hb.grown (Eo ho (k:=k) cc hlt (by omega)).2 hb.size (by rintro _ ⟨⟩;exact Nat.le_refl _)
   have S1:=hide S1
   have B0:=hide B0
   have HK:=hide hck
   have HL:=hide hl
   have hfk:=hide (JF hck)
   clear ho hck hold hl
   rcases hal:Dy l k with _ | _
   ·have hm:PG.mend (fnL l) l.length k=cc:=by rw [Lg,hal,hfk.out];rfl
    have hset:(E8 l k).set k cc=E8 l (k+1):=by rw [<- hm];exact Nb (by omega)
    have hset:=hide hset
    have hal:=hide hal
    clear hm BC
    go_wp2_with (
     go_at_call 128
     go_must (refine(AL.out _ _ _ hal.out B0.out hlt).mono ?_)
     rintro e w2 ⟨rfl,b2⟩
     obtain⟨_,o2,b2⟩:=S1.out _ b2
     have o2:=hide o2
     clear S1 B0 d0 d1 d2 d3 d4 v0 v1 v2 v3 v4 f0 f1 f2 f3 f4)
    go_roundw
    case rel=>exact⟨k+1,by omega,by go_num,by rw [<- hset.out];exact o2.out,b2⟩
    case measure=>simp [intOf];omega
   ·have hm:PG.mend (fnL l) l.length k=PG.blank (PG.pn cc):=by rw [Lg,hal,hfk.out];rfl
    have hset:((E8 l k).set k cc).set k (PG.blank (PG.pn cc))=E8 l (k+1):=by rw [List.set_set, <- hm];exact Nb (by omega)
    have hset:=hide hset
    have hal:=hide hal
    clear hm
    go_wp2_with (first
     | (go_at_call 128
        go_must (refine(AL.out _ _ _ hal.out B0.out hlt).mono ?_)
        rintro e w2 ⟨rfl,b2⟩
        obtain⟨⟨q0,q1,q2,q3,q4⟩,o2,b2⟩:=S1.out _ b2
        have l3:w.heap.size<w2.heap.size:=(o2.lt w.heap.size rfl).2
        have la1:(ad.add (k*5)).block<w2.heap.size:=by rw [addBlock];omega
        have o2:=hide o2
        clear S1 B0 d0 d1 d2 d3 d4 v0 v1 v2 v3 v4 f0 f1 f2 f3 f4)
     | (go_at_call 97
        go_must (refine(BC.out (PG.pn cc) _).mono ?_)
        rintro e w3 ⟨rfl,b3⟩
        have o3:=o2.out.kept (BS b3 none) (by simp [Value.ownBlock])
        have b3:=b2.trans (b3.mono b2.size)
        obtain⟨v0,v1,v2,v3,v4,f0,f1,f2,f3,f4⟩:=Oc o3 (by omega)
        have S:=Eo o3 (k:=k) (PG.blank (PG.pn cc)) hlt (by rw [List.length_set];omega)
        have B3:=hide (b3.grown S.2 b3.size (by rintro _ ⟨⟩;exact Nat.le_refl _))
        have O3:=hide S.1
        clear S o3 o2 b3 b2))
    go_roundw
    case rel=>exact⟨k+1,by omega,by go_num,by rw [<- hset.out];exact O3.out,B3.out⟩
    case measure=>simp [intOf];omega
  ·obtain rfl:k=n:=by omega
   rw [<- hlen,Va,hlen] at ho
   have ho:=hide ho
   have hb:=hide hb
   clear BC AL
   go_wp2_with fail
   go_ret
   exact⟨_,rfl,ho.out,hb.out⟩
end Go.Proofs.YtoaabebgmdbjeaaGreatDoor
namespace Go.Proofs.YtoaabebgmdbjeaaGreatDoor
open Go.RowKit
def GQ (w:World) (R K n:Nat) (l:List PG.Cl) (e:Ending) (w':World):Prop:= ∃g,e=.returned (gv R K (.slice (some ⟨g,0,none⟩) n n))/\w'.ownsRow w.heap.size 66 5 (.slice (some ⟨g,0,none⟩) n n) n (Ag l)/\Below w.heap.size w w'
theorem Il (R K n c B:Nat) (A:Option Addr) (l:List PG.Cl) (w:World) (hl:Au w B A n l) (hB:B<=w.heap.size) (hn:n<=1048576):
  Calls Tryz.prog 112 #[gv R K (.slice A n c)] w (GQ w R K n l):=by
 obtain⟨i0,hi,hz0,hz1,hz2⟩:=info_parts DN
 have hlen:=hl.len
 have hby:=hide (show i0.bytes*n<=281474976710656 by rw [hz2];omega)
 have hrl:=hide (show l.length=(List.replicate n PG.none).length by rw [List.length_replicate,hlen])
 clear hz2 hlen
 unfold GQ gv
 go_enter Tryz.func112,Tryz.ntmps112
 go_wp2_with (first
  | (at_make
     go_must (refine wpList_make_full _ rfl (.tmp 6) (.tmp 6) 35 rfl w.heap.size 66 i0 _ 5 Tryz.underlying35 hi hz0 hz1 .i64 .i64 _ _ n rfl rfl (by omega) (by omega) hby.out (by simp only [maxLen];omega) (by simp;omega) ?_)
     intro w1 hown1 hg1
     rw [JE,World.size_alloc,World.size_alloc] at hown1
     obtain⟨x0,x1,bb⟩:=Ob (Dh hg1 (Nat.le_refl _) (by simp))
     obtain⟨y0,y1,y2,z0,z1,z2⟩:=x0.three
     have hown1:=hide hown1
     clear hg1)
  | ((with_reducible refine Hu (o:=⟨some 11,_,_,_,_,_⟩) ?_)
     go_must (refine Ck (o:=⟨some 11,_,_,_,_,_⟩) rfl (.tmp 8) (.tmp 10) 35 35 rfl 66 i0 Tryz.underlying35 hi hz1 w.heap.size 66 _ 0 0 n n n n (List.replicate n PG.none) rfl hown1.out rfl A B n c n l rfl (Nat.min_self n) (hl.below (bb.mono hB)) (by omega) ?_)
     intro w2 Vd hg2
     rw [Ub hrl.out] at Vd
     have y:=x0.grown hg2 (fun e=>by injection e with e;omega)
     have z:=x1.grown hg2 (fun e=>by injection e with e;omega)
     have bb2:=bb.grown hg2 bb.size (by rintro _ ⟨⟩;omega)
     clear y0 y1 y2 z0 z1 z2 x0 x1 hown1 hg2 bb
     obtain⟨y0,y1,y2,z0,z1,z2⟩:=y.three
     obtain⟨p0,p1,p2,q0,q1,q2⟩:=z.three
     have n0:=Aa Vd y (by decide)
     have n1:=Aa Vd z (by decide)
     have Vd:=hide Vd))
 have X:=(z.far (p:=⟨w.heap.size,2,none⟩) (by show w.heap.size+1≠w.heap.size;omega) (.slice (some ⟨w.heap.size+1+1,0,none⟩) n n)).Cu (.int .i64 R) (.int .i64 K) (.slice (some ⟨w.heap.size+1+1,0,none⟩) n n)
 obtain⟨j0,j1,j2,_⟩:=X.three
 refine bodyPost_ret (v:=.agg #[.int .i64 R,.int .i64 K,.slice (some ⟨w.heap.size+1+1,0,none⟩) n n]) (by simp [results,Tryz.results112,go_sem,j0,j1,j2]) rfl ⟨_,rfl,?_,?_⟩
 ·exact ownsRow_setCell_other (ownsRow_setCell_other (ownsRow_setCell_other (ownsRow_setCell_other Vd.out n0 _) n1 _) n1 _) n1 _
 ·exact BN (bb2.setCell (Nat.le_refl _) _) (by omega) _ _ _
def putCells (x:Int) (p:PG.Pn):List PG.Cl:=if C.width x=1 then [(x,0,p)] else if C.width x=2 then [(x,1,p),(0,2,p)] else []
theorem Ji (x:Int) (p:PG.Pn):((putCells x p).length:Int)=C.width x:=by
 unfold putCells
 rcases PG.FX x with h | h | h<;>rw [h] <;>rfl
theorem Kk (x:Int) (p:PG.Pn) (w:World) (hx0: -2147483648<=x) (hx1:x<=2147483647) (hs:D6 w):
  Calls Tryz.prog 113 #[.int .i32 x,pv p] w fun e w'=>(∃A c,e=.returned (.slice A (putCells x p).length c)/\Au w' w'.heap.size A (putCells x p).length (putCells x p)/\(putCells x p).length<=c/\c<=maxLen)/\Below w.heap.size w w':=by
 have W:=hide (fun w' (hs':D6 w') v (h:C.width x=v)=>(show Calls Tryz.prog 63 #[.int .i32 x] w' fun e w''=>e=.returned (.int .i64 v)/\Below w'.heap.size w' w'' by subst h;exact KF x w' hx0 hx1 hs'))
 obtain⟨f,b,g⟩:=p
 unfold pv
 have hw:=PG.FX x
 have FIN: ∀(u:List PG.Cl) (n:Nat) (A:Option Addr) (c:Nat) (w':World),u.length=n->n<=c->c<=maxLen->Au w' w'.heap.size A n u-> ∃A' c',Ending.returned (.slice A n c)=.returned (.slice A' u.length c')/\Au w' w'.heap.size A' u.length u/\u.length<=c'/\c'<=maxLen:=fun u n A c w' h1 h2 h3 h4=>by
  subst h1
  exact⟨A,c,rfl,h4,h2,h3⟩
 have FIN:=hide FIN
 rcases hw with h | h | h
 ·have e:putCells x (f,b,g)= [] :=by unfold putCells;rw [h];rfl
  rw [e]
  have W:=hide (fun w' hs'=>W.out w' hs' 0 h)
  clear h e
  go_enter Tryz.func113,Tryz.ntmps113
  go_wp2_with (
   go_at_call 63
   go_must (refine(W.out _ (hs.keep ((Below.refl _ _).alloc (Nat.le_refl _) _))).mono ?_)
   rintro e w1 ⟨rfl,b1⟩
   have b2:=((Below.refl w.heap.size w).alloc (Nat.le_refl _) (.cells #[.int .i64 f,.int .i64 b,.int .i64 g] 38)).trans (b1.mono (by simp))
   clear b1 W)
  go_ret
  exact⟨FIN.out [] 0 none 0 _ rfl (Nat.le_refl _) (Nat.zero_le _) (Au.Xu _ _ _),b2⟩
 ·have e:putCells x (f,b,g)= [(x,0,(f,b,g))] :=by unfold putCells;rw [h];rfl
  rw [e]
  have W:=hide (fun w' hs'=>W.out w' hs' 1 h)
  clear h e
  go_enter Tryz.func113,Tryz.ntmps113
  go_wp2_with (
   go_at_call 63
   go_must (refine(W.out _ (hs.keep ((Below.refl _ _).alloc (Nat.le_refl _) _))).mono ?_)
   rintro e w1 ⟨rfl,b1⟩
   have x1:=(Box.new w 38 #[.int .i64 f,.int .i64 b,.int .i64 g]).below b1 (by simp)
   obtain⟨y0,y1,y2,_⟩:=x1.three
   have b2:=((Below.refl w.heap.size w).alloc (Nat.le_refl _) (.cells #[.int .i64 f,.int .i64 b,.int .i64 g] 38)).trans (b1.mono (by simp))
   clear b1 W)
  go_ret
  refine⟨FIN.out [(x,0,(f,b,g))] 1 _ 1 _ rfl (Nat.le_refl _) (by simp only [maxLen];omega) ?_,b2.alloc b2.size _⟩
  exact Seen.RG (Box.fresh rfl) rfl rfl (by simp)
 ·have e:putCells x (f,b,g)= [(x,1,(f,b,g)),(0,2,(f,b,g))] :=by unfold putCells;rw [h];rfl
  rw [e]
  have W:=hide (fun w' hs'=>W.out w' hs' 2 h)
  clear h e
  go_enter Tryz.func113,Tryz.ntmps113
  go_wp2_with (
   go_at_call 63
   go_must (refine(W.out _ (hs.keep ((Below.refl _ _).alloc (Nat.le_refl _) _))).mono ?_)
   rintro e w1 ⟨rfl,b1⟩
   have x1:=(Box.new w 38 #[.int .i64 f,.int .i64 b,.int .i64 g]).below b1 (by simp)
   obtain⟨y0,y1,y2,_⟩:=x1.three
   have b2:=((Below.refl w.heap.size w).alloc (Nat.le_refl _) (.cells #[.int .i64 f,.int .i64 b,.int .i64 g] 38)).trans (b1.mono (by simp))
   clear b1 W)
  go_ret
  refine⟨FIN.out [(x,1,(f,b,g)),(0,2,(f,b,g))] 2 _ 2 _ rfl (Nat.le_refl _) (by simp only [maxLen];omega) ?_,b2.alloc b2.size _⟩
  exact Seen.RG (Box.fresh rfl) rfl rfl (by simp)
theorem Rs {n k:Nat} (p:PG.Pn) (hk:k<n):(List.replicate k (PG.blank p)++List.replicate (n-k) PG.none).set k (PG.blank p)=List.replicate (k+1) (PG.blank p)++List.replicate (n-(k+1)) PG.none:=by
 rw [List.set_append_right _ _ (by simp),List.length_replicate,Nat.sub_self,show n-k=(n-(k+1))+1 by omega,List.replicate_succ (n:=n-(k+1)),List.set_cons_zero,List.replicate_succ' (n:=k)]
 simp
end Go.Proofs.YtoaabebgmdbjeaaGreatDoor
namespace Go.Proofs.YtoaabebgmdbjeaaGreatDoor
open Go.RowKit
theorem fV (r c:Int) (R K:Nat) (p:PG.Pn) (w:World) (hr0: -9223372036854775808<=r) (hr1:r<=9223372036854775807) (hc0: -9223372036854775808<=c) (hc1:c<=9223372036854775807)
  (hR:(R=1/\r<1)\/((R:Int)=r/\1<=r/\r<=40)\/(R=40/\40<r)) (hK:(K=1/\c<1)\/((K:Int)=c/\1<=c/\c<=60)\/(K=60/\60<c)):
  Calls Tryz.prog 52 #[.int .i64 r,.int .i64 c,pv p] w (GQ w R K (R*K) (List.replicate (R*K) (PG.blank p))):=by
 obtain⟨i0,hi,hz0,hz1,hz2⟩:=info_parts DN
 have BC: ∀(p:PG.Pn) (w':World),Calls Tryz.prog 97 #[.agg #[.int .i64 p.1,.int .i64 p.2.1,.int .i64 p.2.2]] w' fun e w''=>e=.returned (.agg #[.int .i32 32,.int .i64 0,.int .i64 p.1,.int .i64 p.2.1,.int .i64 p.2.2])/\Below w'.heap.size w' w'':=fun p w'=>FP _ _ _ w'
 have BC:=hide BC
 have hR1:1<=R/\R<=40:=by omega
 have hK1:1<=K/\K<=60:=by omega
 have eRK:(R:Int)*(K:Int)=((R*K:Nat):Int):=by simp
 have hn1:1<=R*K:=Nat.mul_le_mul hR1.1 hK1.1
 have hn2:R*K<=2400:=Nat.mul_le_mul hR1.2 hK1.2
 have hby:=hide (show i0.bytes*(R*K)<=281474976710656 by rw [hz2];omega)
 obtain⟨r1,e1⟩: ∃r1,(if r<1 then (1:Int) else r)=r1:=⟨_,rfl⟩
 obtain⟨c1,e3⟩: ∃c1,(if c<1 then (1:Int) else c)=c1:=⟨_,rfl⟩
 have e2:(if (40:Int)<r1 then (40:Int) else r1)=(R:Int):=by rw [<- e1];split<;>split<;>omega
 have e4:(if (60:Int)<c1 then (60:Int) else c1)=(K:Int):=by rw [<- e3];split<;>split<;>omega
 clear hR hK hz2
 generalize R*K=n at*
 unfold GQ pv gv
 go_enter Tryz.func52,Tryz.ntmps52
 go_wp2_with (
  at_make
  go_must (refine wpList_make_full _ rfl (.tmp 17) (.tmp 17) 35 rfl w.heap.size 66 i0 _ 5 Tryz.underlying35 hi hz0 hz1 .i64 .i64 _ _ n rfl rfl (by omega) (by omega) hby.out (by simp only [maxLen];omega) (by simp;omega) ?_)
  intro w1 hown1 hg1
  rw [JE,World.size_alloc,World.size_alloc] at hown1
  obtain⟨x0,x1,bb⟩:=Ob (Dh hg1 (Nat.le_refl _) (by simp))
  have hown1:=hide hown1
  clear hg1 e1 e2 e3 e4)
 go_loopw [21] (fun i wr=> ∃k:Nat,k<=n/\i=.int .i64 k/\Box wr w.heap.size 38 #[.int .i64 p.1,.int .i64 p.2.1,.int .i64 p.2.2] /\Box wr (w.heap.size+1) 37 #[.int .i64 0,.int .i64 0,.slice none 0 0] /\
   wr.ownsRow w.heap.size 66 5 (.slice (some ⟨w.heap.size+1+1,0,none⟩) n n) n (Ag (List.replicate k (PG.blank p)++List.replicate (n-k) PG.none))/\Below w.heap.size w wr)
  (fun i _=>n-(intOf i).toNat)
 case atStart=>exact⟨0,Nat.zero_le _,rfl,x0,x1,by rw [List.replicate_zero,List.nil_append,Nat.sub_zero];exact hown1.out,bb⟩
 case round=>
  clear hown1 bb x0 x1 hby
  obtain⟨k,hk,rfl,x0,x1,ho,hb⟩:=hrel
  obtain⟨y0,y1,y2,_⟩:=x0.three
  have l0:=x0.lt
  have l2:w.heap.size+1+1<wr.heap.size:=(ho.lt _ rfl).2
  have lb:w.heap.size<=wr.heap.size:=hb.size
  by_cases hlt:k<n
  ·have hll:(List.replicate k (PG.blank p)++List.replicate (n-k) PG.none).length=n:=by simp;omega
   have hck:(List.replicate k (PG.blank p)++List.replicate (n-k) PG.none)[k]? =some PG.none:=by
    rw [List.getElem?_append_right (by simp),List.length_replicate,Nat.sub_self,List.getElem?_replicate,if_pos (by omega)]
   have FIN: ∀w3,Below wr.heap.size wr w3->
     (w3.cell? ⟨w.heap.size+1+1,k*5,none⟩=some (.int .i32 (PG.rn PG.none))/\w3.cell? ⟨w.heap.size+1+1,k*5+1,none⟩=some (.int .i64 (PG.kd PG.none))/\w3.cell? ⟨w.heap.size+1+1,k*5+2,none⟩=some (.int .i64 (PG.pn PG.none).1)/\w3.cell? ⟨w.heap.size+1+1,k*5+3,none⟩=some (.int .i64 (PG.pn PG.none).2.1)/\w3.cell? ⟨w.heap.size+1+1,k*5+4,none⟩=some (.int .i64 (PG.pn PG.none).2.2)/\
      w3.frozen? ⟨w.heap.size+1+1,k*5,none⟩=false/\w3.frozen? ⟨w.heap.size+1+1,k*5+1,none⟩=false/\w3.frozen? ⟨w.heap.size+1+1,k*5+2,none⟩=false/\w3.frozen? ⟨w.heap.size+1+1,k*5+3,none⟩=false/\w3.frozen? ⟨w.heap.size+1+1,k*5+4,none⟩=false)/\
     Box (Ci w3 (w.heap.size+1+1) (k*5) (PG.blank p)) w.heap.size 38 #[.int .i64 p.1,.int .i64 p.2.1,.int .i64 p.2.2] /\Box (Ci w3 (w.heap.size+1+1) (k*5) (PG.blank p)) (w.heap.size+1) 37 #[.int .i64 0,.int .i64 0,.slice none 0 0] /\
     (Ci w3 (w.heap.size+1+1) (k*5) (PG.blank p)).ownsRow w.heap.size 66 5 (.slice (some ⟨w.heap.size+1+1,0,none⟩) n n) n (Ag (List.replicate (k+1) (PG.blank p)++List.replicate (n-(k+1)) PG.none))/\Below w.heap.size w (Ci w3 (w.heap.size+1+1) (k*5) (PG.blank p)):=fun w3 h3=>by
    have o3:=ho.kept (BS h3 none) (by simp [Value.ownBlock])
    have S:=Eo o3 (k:=k) (PG.blank p) (by omega) hll
    have hs3:=h3.size
    refine⟨IK o3 hck,(x0.below h3 x0.lt).grown S.2 (fun e=>by injection e with e;omega),(x1.below h3 x1.lt).grown S.2 (fun e=>by injection e with e;omega),?_,(hb.trans (h3.mono lb)).grown S.2 (by omega) (by rintro _ ⟨⟩;omega)⟩
    rw [<- Rs p hlt]
    exact S.1
   have FIN:=hide FIN
   clear ho hck x0 x1 hll
   go_wp2_with (
    go_at_call 97
    go_must (refine(BC.out p _).mono ?_)
    rintro e w3 ⟨rfl,b3⟩
    obtain⟨⟨v0,v1,v2,v3,v4,f0,f1,f2,f3,f4⟩,G2⟩:=FIN.out _ b3
    have G2:=hide G2
    clear b3 FIN)
   go_roundw
   case rel=>exact⟨k+1,by omega,by go_num,G2.out⟩
   case measure=>simp [intOf];omega
  ·obtain rfl:k=n:=by omega
   rw [Nat.sub_self,List.replicate_zero,List.append_nil] at ho
   have n1:=Aa ho x1 (by decide)
   have X:=x1.Cu (.int .i64 R) (.int .i64 K) (.slice (some ⟨w.heap.size+1+1,0,none⟩) k k)
   have O:=ownsRow_setCell_other (ownsRow_setCell_other (ownsRow_setCell_other ho (a:=⟨w.heap.size+1,0,none⟩) n1 (.int .i64 R)) (a:=⟨w.heap.size+1,1,none⟩) n1 (.int .i64 K)) (a:=⟨w.heap.size+1,2,none⟩) n1 (.slice (some ⟨w.heap.size+1+1,0,none⟩) k k)
   have bz:=BN hb (show w.heap.size<=w.heap.size+1 by omega) (.int .i64 R) (.int .i64 K) (.slice (some ⟨w.heap.size+1+1,0,none⟩) k k)
   obtain⟨j0,j1,j2,_⟩:=X.three
   obtain⟨q0,q1,q2,q3,q4,q5⟩:=x1.three
   have O:=hide O
   have bz:=hide bz
   clear ho BC
   go_wp2_with fail
   refine bodyPost_ret (v:=.agg #[.int .i64 R,.int .i64 K,.slice (some ⟨w.heap.size+1+1,0,none⟩) k k]) (by simp [results,Tryz.results52,go_sem,j0,j1,j2]) rfl ⟨_,rfl,O.out,bz.out⟩
end Go.Proofs.YtoaabebgmdbjeaaGreatDoor
namespace Go.Proofs.YtoaabebgmdbjeaaGreatDoor
open Go Go.RowKit
theorem Ve:Tryz.prog.eqGuardType Tryz.prog.depth 38=false:=by kernel_rfl
theorem Lh (d:Nat) (a b c a' b' c':Int) (w:World):(Op.equalIn (d+2) 38 (.agg #[.int .i64 a,.int .i64 b,.int .i64 c]) (.agg #[.int .i64 a',.int .i64 b',.int .i64 c'])).run Tryz.prog w=.ok (a==a'&&b==b'&&c==c') w:=by
 have u3:=Tryz.underlying3
 have a3:=Tryz.isAgg3
 have z3:=Tryz.sizeOf3
 have hS:Tryz.prog.underlying 38=some (.struct (Tryz.prog.fieldsOf 38)):=by kernel_rfl
 have hp:Tryz.prog.stoodInHeld 38=false:=by kernel_rfl
 rw [run_equalIn_agg w (d+1) _ _ _ hS hp]
 simp only [Program.fieldsOf,Tryz.underlying38]
 go_simp
 by_cases h1:a=a'<;>by_cases h2:b=b'<;>by_cases h3:c=c'<;>simp [h1,h2,h3]
theorem Vf (d:Nat) (r k a b c r' k' a' b' c':Int) (w:World):(Op.equalIn (d+3) 66 (.agg #[.int .i32 r,.int .i64 k,.int .i64 a,.int .i64 b,.int .i64 c]) (.agg #[.int .i32 r',.int .i64 k',.int .i64 a',.int .i64 b',.int .i64 c'])).run Tryz.prog w=.ok (r==r'&&k==k'&&a==a'&&b==b'&&c==c') w:=by
 have u3:=Tryz.underlying3
 have a3:=Tryz.isAgg3
 have z3:=Tryz.sizeOf3
 have u4:=Tryz.underlying21
 have a4:=Tryz.isAgg21
 have z4:=Tryz.sizeOf21
 have a5:=Tryz.isAgg38
 have z5:=Tryz.sizeOf38
 have hS:Tryz.prog.underlying 66=some (.struct (Tryz.prog.fieldsOf 66)):=by kernel_rfl
 have hp:Tryz.prog.stoodInHeld 66=false:=by kernel_rfl
 have pe:=Lh d a b c a' b' c'
 rw [run_equalIn_agg w (d+2) _ _ _ hS hp]
 simp only [Program.fieldsOf,Tryz.underlying66]
 go_simp
 by_cases h1:r=r'<;>by_cases h2:k=k'<;>by_cases h3:a=a'<;>by_cases h4:b=b'<;>by_cases h5:c=c'<;>simp [h1,h2,h3,h4,h5]
theorem Ue (a b c a' b' c':Int) (w:World):(binOp .eql 38 (.agg #[.int .i64 a,.int .i64 b,.int .i64 c]) (.agg #[.int .i64 a',.int .i64 b',.int .i64 c'])).run Tryz.prog w=.ok (.bool (a==a'&&b==b'&&c==c')) w:=by
 rw [run_eql_struct,Lh 9998]
 rfl
theorem Yc (r k a b c r' k' a' b' c':Int) (w:World):(binOp .neq 66 (.agg #[.int .i32 r,.int .i64 k,.int .i64 a,.int .i64 b,.int .i64 c]) (.agg #[.int .i32 r',.int .i64 k',.int .i64 a',.int .i64 b',.int .i64 c'])).run Tryz.prog w=.ok (.bool (!(r==r'&&k==k'&&a==a'&&b==b'&&c==c'))) w:=by
 rw [run_neq_struct,Vf 9997]
 rfl
end Go.Proofs.YtoaabebgmdbjeaaGreatDoor
