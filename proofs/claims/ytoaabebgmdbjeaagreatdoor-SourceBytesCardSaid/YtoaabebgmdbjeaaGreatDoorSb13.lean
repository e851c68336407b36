/- What package edit's small functions do to cells in memory: clone, within, isPlace, rows, blank. What package edit's push, pull and part do to cells in memory. Cells moved in a row, rows moved, rows erased: the cells that come of it are those of plain grids. Plain mathematics. Regions whose last operation writes cells of a row; the grid, the pen and the answer of a call of package edit in memory; part, push and pull told of plain grids. -/
import Derived.Test.YtoaabebgmdbjeaaGreatDoorSb08
set_option maxRecDepth 100000
set_option maxHeartbeats 16000000
set_option linter.unusedVariables false
namespace Go.Proofs.YtoaabebgmdbjeaaGreatDoor
open Go.RowKit
theorem iF {l:List PG.Cl} {x k:Nat} (c:PG.Cl) (h:x+k<l.length):(spl l x (List.replicate k c)).set (x+k) c=spl l x (List.replicate (k+1) c):=by
 have:=YM (l:=l) (m:=List.replicate k c) (x:=x) c (by rw [List.length_replicate];exact h)
 rw [List.length_replicate] at this
 rw [this,List.replicate_succ']
theorem Ec (R K n c B:Nat) (ad:Addr) (l:List PG.Cl) (w:World) (hl:Au w B (some ad) n l) (hB:B<=w.heap.size) (hn:n<=1048576):
  Calls Tryz.prog 179 #[gv R K (.slice (some ad) n c)] w (Jh w R K l):=by
 have hlen:=hl.len
 have SC:=hide (fun w' (hb:Below w.heap.size w w')=>Ls n c B ad l w' (hl.below (hb.mono hB)) (Nat.le_trans hB hb.size) hn)
 unfold Jh gv
 go_enter Tryz.func179,Tryz.ntmps179
 go_wp2_with (
  go_at_call 39
  go_must (refine(SC.out _ (((Below.refl _ _).alloc (Nat.le_refl _) _).alloc (by simp) _)).mono ?_)
  rintro e w1 ⟨v1,rfl,hown1,b1⟩
  obtain⟨x0,x1,bb⟩:=Ob b1
  obtain⟨A1,c1,rfl,_⟩:=Bb hown1
  obtain⟨y0,y1,y2,z0,z1,z2⟩:=x0.three
  obtain⟨p0,p1,p2,q0,q1,q2⟩:=x1.three
  clear b1 SC)
 have n0:=Aa hown1 x0 (by decide)
 have n1:=Aa hown1 x1 (by decide)
 have X:=(x1.far (p:=⟨w.heap.size,2,none⟩) (by show w.heap.size+1≠w.heap.size;omega) (.slice A1 n c1)).Cu (.int .i64 R) (.int .i64 K) (.slice A1 n c1)
 obtain⟨j0,j1,j2,_⟩:=X.three
 refine bodyPost_ret (v:=.agg #[.int .i64 R,.int .i64 K,.slice A1 n c1]) (by simp [results,Tryz.results179,go_sem,j0,j1,j2]) rfl ⟨_,rfl,?_,?_⟩
 ·rw [hlen]
  exact own_base' (ownsRow_setCell_other (ownsRow_setCell_other (ownsRow_setCell_other (ownsRow_setCell_other hown1 n0 _) n1 _) n1 _) n1 _) (by simp;omega)
 ·exact BN (bb.setCell (Nat.le_refl _) _) (by omega) _ _ _
theorem Ju (n m t:Int) (w:World) (h:(0<=n/\n<=m/\t=n)\/(0<=m/\m<n/\t=m)):
  Calls Tryz.prog 182 #[.int .i64 n,.int .i64 m] w fun e w'=>e=.returned (.int .i64 t)/\w=w':=by
 rcases h with ⟨h1,h2,rfl⟩ | ⟨h1,h2,rfl⟩
 ·go_enter Tryz.func182,Tryz.ntmps182
  go_wp2_with fail
  go_ret
  exact⟨CV (by omega),rfl⟩
 ·go_enter Tryz.func182,Tryz.ntmps182
  go_wp2_with fail
  go_ret
  exact⟨CV (by omega),rfl⟩
theorem CG {G:PG.Gr} {v:Value} {w:World} (hG:PG.BL G) (h:IsG w G v) (r c:Int) (b:Bool) (hb:(b=true/\0<=r/\r<G.rows/\0<=c/\c<G.AB)\/(b=false/\ ¬(0<=r/\r<G.rows/\0<=c/\c<G.AB))):
  Calls Tryz.prog 180 #[v,.int .i64 r,.int .i64 c] w fun e w'=>e=.returned (.bool b)/\Below w.heap.size w w':=by
 obtain⟨A,cp,rfl,hl,h1,h2⟩:=h.open_
 obtain⟨cc,hat⟩: ∃cc,atI G r c=atv cc b:=by
  unfold atI
  rcases hb with ⟨rfl,hb⟩ | ⟨rfl,hb⟩
  ·rw [if_pos hb];exact⟨_,rfl⟩
  ·rw [if_neg hb];exact⟨_,rfl⟩
 have AT:=hide (fun w' (hb:Below w.heap.size w w')=>(show Calls Tryz.prog 29 #[gv G.rows G.AB (.slice A (G.rows*G.AB) cp),.int .i64 r,.int .i64 c] w' fun e w''=>e=.returned (atv cc b)/\Below w'.heap.size w' w'' by rw [<- hat];exact pK hG (h.low hb) r c))
 clear hb hat hl h
 generalize G.rows*G.AB=n at*
 unfold gv atv cv at*
 go_enter Tryz.func180,Tryz.ntmps180
 go_wp2_with (
  go_at_call 29
  go_must (refine(AT.out _ ((Below.refl _ _).alloc (Nat.le_refl _) _)).mono ?_)
  rintro e w1 ⟨rfl,b1⟩
  have b2:=((Below.refl w.heap.size w).alloc (Nat.le_refl _) (.cells #[.int .i64 G.rows,.int .i64 G.AB,.slice A n cp] 37)).trans (b1.mono (by simp))
  clear b1 AT)
 go_ret
 exact⟨rfl,b2.alloc b2.size _⟩
def Kr (g x m cp:Nat):Value:=if cp=x then .slice (some ⟨g,0,none⟩) 0 0 else .slice (some ⟨g,x*5,none⟩) m (cp-x)
theorem MR {g x m cp n:Nat} (h:x+m<=n) (hn:n<=cp) (hc:cp<=maxLen): ∃A c',Kr g x m cp=.slice A m c'/\(0<m->A=some ⟨g,x*5,none⟩)/\m<=c'/\c'<=maxLen:=by
 unfold Kr
 by_cases e:cp=x
 ·obtain rfl:m=0:=by omega
  rw [if_pos e]
  exact⟨_,_,rfl,fun h=>by omega,Nat.le_refl _,Nat.zero_le _⟩
 ·rw [if_neg e]
  exact⟨_,_,rfl,fun _=>rfl,by omega,by omega⟩
theorem Iq {g x m cp n:Nat} (h:x+m<=n) (hn:n<=cp) (hm:0<m):Kr g x m cp=.slice (some ⟨g,x*5,none⟩) m (cp-x):=if_neg (by omega)
theorem KQ (R K n cp g a b x m:Nat) (w:World) (hx:x=a*K) (hm:x+m=b*K) (hn:n=R*K) (hb:b<=R) (hR:R<=40) (hK:K<=60) (hnc:n<=cp) (hcp:cp<=maxLen):
  Calls Tryz.prog 181 #[gv R K (.slice (some ⟨g,0,none⟩) n cp),.int .i64 a,.int .i64 b] w fun e w'=>e=.returned (Kr g x m cp)/\Below w.heap.size w w':=by
 have hbn:b*K<=n:=by rw [hn];exact Nat.mul_le_mul_right K hb
 have hn2:n<=2400:=by rw [hn];exact Nat.mul_le_mul hR hK
 have e1:(a:Int)*(K:Int)=(x:Int):=by rw [hx];simp
 have e2:(b:Int)*(K:Int)=((x+m:Nat):Int):=by rw [hm];simp
 rw [<- hm] at hbn
 simp only [maxLen] at hcp
 clear hx hm hn hb
 unfold gv
 by_cases hc:cp=x
 ·obtain rfl:m=0:=by omega
  subst hc
  go_enter Tryz.func181,Tryz.ntmps181
  go_wp2_with fail
  go_ret
  refine⟨?_,(Below.refl _ _).alloc (Nat.le_refl _) _⟩
  unfold Kr
  rw [if_pos rfl]
  first | rfl | (show Ending.returned (.slice (some ⟨g,0,none⟩) (cp+0-cp) (cp-cp))=_;rw [Nat.add_zero,Nat.sub_self]) | (show Ending.returned (.slice (some ⟨g,0,none⟩) 0 (cp-cp))=_;rw [Nat.sub_self]) | (show Ending.returned (.slice (some ⟨g,0,none⟩) (cp-cp) (cp-cp))=_;rw [Nat.sub_self])
 ·go_enter Tryz.func181,Tryz.ntmps181
  go_wp2_with fail
  go_ret
  refine⟨?_,(Below.refl _ _).alloc (Nat.le_refl _) _⟩
  unfold Kr
  rw [if_neg hc]
  show Ending.returned (.slice (some ⟨g,x*5,none⟩) (x+m-x) (cp-x))=_
  rw [Nat.add_sub_cancel_left]
theorem Fz (x m cp n cap g base:Nat) (A:Option Addr) (l:List PG.Cl) (p:PG.Pn) (w:World) (ho:w.ownsRow base 66 5 (.slice (some ⟨g,0,none⟩) n cap) n (Ag l)) (hx:x+m<=n) (hn:n<=2400) (hA:0<m->A=some ⟨g,x*5,none⟩):
  Calls Tryz.prog 183 #[.slice A m cp,pv p] w fun e w'=>e=.returned (.tuple #[])/\w'.ownsRow base 66 5 (.slice (some ⟨g,0,none⟩) n cap) n (Ag (spl l x (List.replicate m (PG.blank p))))/\Kept [some g] w w':=by
 have hlen:=(Au.Bu ho).len
 have BC: ∀(p:PG.Pn) (w':World),Calls Tryz.prog 97 #[.agg #[.int .i64 p.1,.int .i64 p.2.1,.int .i64 p.2.2]] w' fun e w''=>e=.returned (.agg #[.int .i32 32,.int .i64 0,.int .i64 p.1,.int .i64 p.2.1,.int .i64 p.2.2])/\Below w'.heap.size w' w'':=fun p w'=>FP _ _ _ w'
 have BC:=hide BC
 have hg0:=(ho.lt g rfl).2
 have X0:=Box.new w 38 #[.int .i64 p.1,.int .i64 p.2.1,.int .i64 p.2.2]
 have O0:=D9 ho (.cells #[.int .i64 p.1,.int .i64 p.2.1,.int .i64 p.2.2] 38)
 have K0:=(Kept.refl [some g] w).alloc (.cells #[.int .i64 p.1,.int .i64 p.2.1,.int .i64 p.2.2] 38)
 have X0:=hide X0
 have O0:=hide O0
 have K0:=hide K0
 have hlen:=hide hlen
 clear ho
 unfold pv
 go_enter Tryz.func183,Tryz.ntmps183
 go_wp2_with fail
 go_loopw [7] (fun i wr=> ∃k:Nat,k<=m/\i=.int .i64 k/\Box wr w.heap.size 38 #[.int .i64 p.1,.int .i64 p.2.1,.int .i64 p.2.2] /\wr.ownsRow base 66 5 (.slice (some ⟨g,0,none⟩) n cap) n (Ag (spl l x (List.replicate k (PG.blank p))))/\Kept [some g] w wr)
  (fun i _=>m-(intOf i).toNat)
 case atStart=>exact⟨0,Nat.zero_le _,rfl,X0.out,by rw [List.replicate_zero,Ua];exact O0.out,K0.out⟩
 case round=>
  clear O0 K0 X0
  obtain⟨k,hk,rfl,x0,ho,hb⟩:=hrel
  obtain⟨y0,y1,y2,_⟩:=x0.three
  have l0:=x0.lt
  by_cases hlt:k<m
  ·obtain rfl:=hA (by omega)
   have hsl:=D5 (l:=l) (x:=x) (m:=List.replicate k (PG.blank p)) (by rw [List.length_replicate,hlen.out];omega)
   obtain⟨cd,hck⟩: ∃cd,(spl l x (List.replicate k (PG.blank p)))[x+k]? =some cd:=⟨_,List.getElem?_eq_getElem (by rw [hsl,hlen.out];omega)⟩
   have FIN: ∀w3,Below wr.heap.size wr w3->
     (w3.cell? ⟨g,x*5+k*5,none⟩=some (.int .i32 (PG.rn cd))/\w3.cell? ⟨g,x*5+k*5+1,none⟩=some (.int .i64 (PG.kd cd))/\w3.cell? ⟨g,x*5+k*5+2,none⟩=some (.int .i64 (PG.pn cd).1)/\w3.cell? ⟨g,x*5+k*5+3,none⟩=some (.int .i64 (PG.pn cd).2.1)/\w3.cell? ⟨g,x*5+k*5+4,none⟩=some (.int .i64 (PG.pn cd).2.2)/\
      w3.frozen? ⟨g,x*5+k*5,none⟩=false/\w3.frozen? ⟨g,x*5+k*5+1,none⟩=false/\w3.frozen? ⟨g,x*5+k*5+2,none⟩=false/\w3.frozen? ⟨g,x*5+k*5+3,none⟩=false/\w3.frozen? ⟨g,x*5+k*5+4,none⟩=false)/\
     Box (Ci w3 g (x*5+k*5) (PG.blank p)) w.heap.size 38 #[.int .i64 p.1,.int .i64 p.2.1,.int .i64 p.2.2] /\
     (Ci w3 g (x*5+k*5) (PG.blank p)).ownsRow base 66 5 (.slice (some ⟨g,0,none⟩) n cap) n (Ag (spl l x (List.replicate (k+1) (PG.blank p))))/\Kept [some g] w (Ci w3 g (x*5+k*5) (PG.blank p)):=fun w3 h3=>by
    have m0:=Aa ho x0 (by decide)
    have o3:=ho.kept (BS h3 none) (by simp [Value.ownBlock])
    have S:=Eu o3 (k:=x+k) (o:=x*5+k*5) (by omega) (PG.blank p) (by omega) (by rw [hsl,hlen.out])
    refine⟨EC o3 (by omega) hck,(x0.below h3 x0.lt).grown S.2 (fun e=>m0 e.symm),?_,(hb.below h3).grown S.2 (From.mem (by simp))⟩
    rw [<- iF _ (by rw [hlen.out];omega)]
    exact S.1
   have FIN:=hide FIN
   clear ho hck x0 hb hsl
   go_wp2_with (
    go_at_call 97
    go_must (refine(BC.out p _).mono ?_)
    rintro e w3 ⟨rfl,b3⟩
    obtain⟨⟨v0,v1,v2,v3,v4,f0,f1,f2,f3,f4⟩,G2⟩:=FIN.out _ b3
    have G2:=hide G2
    clear b3 FIN)
   go_roundw
   case rel=>exact⟨k+1,by omega,by go_num,G2.out⟩
   case measure=>simp [intOf];omega
  ·obtain rfl:k=m:=by omega
   have ho:=hide ho
   have hb:=hide hb
   clear BC
   go_wp2_with fail
   go_end0
   exact⟨rfl,ho.out,hb.out⟩
end Go.Proofs.YtoaabebgmdbjeaaGreatDoor
namespace Go.Proofs.YtoaabebgmdbjeaaGreatDoor
open Go.RowKit
def Wrote (base g n cap:Nat) (w:World) (l:List PG.Cl) (e:Ending) (w':World):Prop:=e=.returned (.tuple #[])/\w'.ownsRow base 66 5 (.slice (some ⟨g,0,none⟩) n cap) n (Ag l)/\Kept [some g] w w'
theorem iG {l a b:List PG.Cl} {x:Nat} (h:x+a.length+b.length<=l.length):spl (spl l (x+a.length) b) x a=spl l x (a++b):=by
 refine List.ext_getElem? fun i=>?_
 have h1:(spl l (x+a.length) b).length=l.length:=D5 h
 rw [PG.Ew (by rw [h1];omega),PG.Ew h,PG.Ew (by rw [List.length_append];omega),List.length_append]
 by_cases c1:x<=i/\i<x+a.length
 ·rw [if_pos c1,if_pos (by omega),List.getElem?_append_left (by omega)]
 ·rw [if_neg c1]
  by_cases c2:x+a.length<=i/\i<x+a.length+b.length
  ·rw [if_pos c2,if_pos (by omega),List.getElem?_append_right (by omega)]
   congr 1
   omega
  ·rw [if_neg c2,if_neg (by omega)]
theorem Za {l a b:List PG.Cl} {x:Nat} (h:x+a.length+b.length<=l.length):spl (spl l x a) (x+a.length) b=spl l x (a++b):=by
 refine List.ext_getElem? fun i=>?_
 have h1:(spl l x a).length=l.length:=D5 (by omega)
 rw [PG.Ew (by rw [h1];omega),PG.Ew (by omega),PG.Ew (by rw [List.length_append];omega),List.length_append]
 by_cases c2:x+a.length<=i/\i<x+a.length+b.length
 ·rw [if_pos c2,if_pos (by omega),List.getElem?_append_right (by omega)]
  congr 1
  omega
 ·rw [if_neg c2]
  by_cases c1:x<=i/\i<x+a.length
  ·rw [if_pos c1,if_pos (by omega),List.getElem?_append_left (by omega)]
  ·rw [if_neg c1,if_neg (by omega)]
def pushed (u:List PG.Cl) (k:Nat) (p:PG.Pn):List PG.Cl:=List.replicate k (PG.blank p)++u.take (u.length-k)
def pulled (u:List PG.Cl) (k:Nat) (p:PG.Pn):List PG.Cl:=u.drop k++List.replicate k (PG.blank p)
theorem N7 (x m k cp n cap g base:Nat) (l u:List PG.Cl) (p:PG.Pn) (w:World) (ho:w.ownsRow base 66 5 (.slice (some ⟨g,0,none⟩) n cap) n (Ag l)) (hu:(l.drop x).take m=u) (hx:x+m<=n) (hn:n<=2400) (hm:0<m) (hk:k<=m) (hcp:m<=cp) (hcm:cp<=maxLen):
  Calls Tryz.prog 208 #[.slice (some ⟨g,x*5,none⟩) m cp,.int .i64 k,pv p] w (Wrote base g n cap w (spl l x (pushed u k p))):=by
 obtain⟨i0,hi,hz0,hz1,hz2⟩:=info_parts DN
 have hlen:=(Au.Bu ho).len
 have hul:u.length=m:=by rw [<- hu,List.length_take,List.length_drop];omega
 have hg0:=(ho.lt g rfl).2
 have O0:=D9 ho (.cells #[.int .i64 p.1,.int .i64 p.2.1,.int .i64 p.2.2] 38)
 have X0:=Box.new w 38 #[.int .i64 p.1,.int .i64 p.2.1,.int .i64 p.2.2]
 have K0:=(Kept.refl [some g] w).alloc (.cells #[.int .i64 p.1,.int .i64 p.2.1,.int .i64 p.2.2] 38)
 have EB:=hide (fun (x m cp:Nat) (A:Option Addr) (l:List PG.Cl) (w:World) (ho:w.ownsRow base 66 5 (.slice (some ⟨g,0,none⟩) n cap) n (Ag l)) hx hA=>Fz x m cp n cap g base A l p w ho hx hn hA)
 have SN:Au (w.alloc (.cells #[.int .i64 p.1,.int .i64 p.2.1,.int .i64 p.2.2] 38)) (w.alloc (.cells #[.int .i64 p.1,.int .i64 p.2.1,.int .i64 p.2.2] 38)).heap.size (some ⟨g,x*5,none⟩) (m-k) (u.take (m-k)):=by
  have S:=((Au.Bu O0).drop (k:=x) (cap:=n+1) (by omega) (by omega))
  rw [if_neg (by omega)] at S
  have S2:=(S.take (k:=m) (by omega)).take (k:=m-k) (by omega)
  rw [hu] at S2
  simpa [Option.map,add0] using S2
 have n0:g≠w.heap.size:=by omega
 unfold pv at*
 simp only [maxLen] at hcm
 have FIN: ∀(w2 w3:World) (l2:List PG.Cl),spl l2 x (List.replicate k (PG.blank p))=spl l x (pushed u k p)->Kept [some g] w w2->(w3.ownsRow base 66 5 (.slice (some ⟨g,0,none⟩) n cap) n (Ag (spl l2 x (List.replicate k (PG.blank p))))/\Kept [some g] w2 w3)->Wrote base g n cap w (spl l x (pushed u k p)) (.returned (.tuple #[])) w3:=fun w2 w3 l2 e h2 h3=>by
  rw [e] at h3
  exact⟨rfl,h3.1,h2.trans h3.2 (fun y hy=>From.mem hy)⟩
 have FIN:=hide FIN
 by_cases hkm:k=m
 ·have e0:spl l x (List.replicate k (PG.blank p))=spl l x (pushed u k p):=by unfold pushed;rw [hul,hkm,Nat.sub_self,List.take_zero,List.append_nil]
  have e0:=hide e0
  subst hkm
  have O0:=hide O0
  have X0:=hide X0
  have K0:=hide K0
  have hlen:=hide hlen
  have hul:=hide hul
  clear SN ho hu
  obtain⟨y0,y1,y2,_⟩:=X0.out.three
  by_cases hc:cp=k
  all_goals
   go_enter Tryz.func208,Tryz.ntmps208
   go_upto_region 2 with (
    (with_reducible refine Hu (o:=⟨some 10,_,_,_,_,_⟩) ?_)
    go_must (refine Iy rfl (.tmp 8) (.tmp 9) 35 35 rfl 66 i0 Tryz.underlying35 hi _ _ _ _ _ _ rfl rfl (by simp) ?_))
   generalize w.alloc (.cells #[.int .i64 p.1,.int .i64 p.2.1,.int .i64 p.2.2] 38)=w0 at*
   go_still_tail 4,(by kernel_rfl)
   change wpList _ _ _ _ _ w0.drew
   go_wp2_with (
    go_at_call 183
    go_must (refine(EB.out x k _ _ l w0.drew O0.out (by omega) (fun _=>rfl)).mono ?_)
    rintro e w3 ⟨rfl,h3⟩
    have H:=hide (FIN.out _ w3 l e0.out K0.out.drew h3)
    clear h3)
   go_end0
   exact H.out
 ·have hlt:k<m:=by omega
  have hkc:k<=cp:=by omega
  have e0:spl (spl l (x+k) (u.take (m-k))) x (List.replicate k (PG.blank p))=spl l x (pushed u k p):=by
   have h:=iG (l:=l) (a:=List.replicate k (PG.blank p)) (b:=u.take (m-k)) (x:=x) (by rw [List.length_replicate,List.length_take,hul,hlen];omega)
   rw [List.length_replicate] at h
   unfold pushed
   rw [hul]
   exact h
  have hl2:(spl l (x+k) (u.take (m-k))).length=l.length:=D5 (by rw [List.length_take,hul,hlen];omega)
  have e0:=hide e0
  have O0:=hide O0
  have K0:=hide K0
  have SN:=hide SN
  have hlen:=hide hlen
  have hul:=hide hul
  have n0:=hide n0
  obtain⟨y0,y1,y2,_⟩:=X0.three
  have X0:=hide X0
  clear ho hu hl2
  go_enter Tryz.func208,Tryz.ntmps208
  go_upto_region 2 with (
   (with_reducible refine Hu (o:=⟨some 10,_,_,_,_,_⟩) ?_)
   go_must (refine Ck rfl (.tmp 8) (.tmp 9) 35 35 rfl 66 i0 Tryz.underlying35 hi hz1 base 66 g _ (x+k) n cap _ _ l rfl O0.out (by omega) (some ⟨g,x*5,none⟩) _ _ cp (m-k) (u.take (m-k)) rfl (by simp only [Nat.min_def];split<;>omega) SN.out (by omega) ?_)
   intro w1 O1 hg1
   have X1:=X0.out.grown hg1 (fun e=>n0.out (by injection e with e;exact e.symm))
   have K1:=hide (K0.out.grown hg1 (From.mem (by simp)))
   have O1:=hide O1
   clear y0 y1 y2 X0 K0 O0 SN hg1
   obtain⟨y0,y1,y2,_⟩:=X1.three)
  go_still_tail 4,(by kernel_rfl)
  change wpList _ _ _ _ _ w1.drew
  go_wp2_with (
   go_at_call 183
   go_must (refine(EB.out x k _ _ _ w1.drew O1.out (by omega) (fun _=>rfl)).mono ?_)
   rintro e w3 ⟨rfl,h3⟩
   have H:=hide (FIN.out _ w3 _ e0.out K1.out.drew h3)
   clear h3)
  go_end0
  exact H.out
theorem N8 (x m k cp n cap g base:Nat) (l u:List PG.Cl) (p:PG.Pn) (w:World) (ho:w.ownsRow base 66 5 (.slice (some ⟨g,0,none⟩) n cap) n (Ag l)) (hu:(l.drop x).take m=u) (hx:x+m<=n) (hn:n<=2400) (hm:0<m) (hk:k<=m) (hcp:m<=cp) (hcm:cp<=maxLen):
  Calls Tryz.prog 146 #[.slice (some ⟨g,x*5,none⟩) m cp,.int .i64 k,pv p] w (Wrote base g n cap w (spl l x (pulled u k p))):=by
 obtain⟨i0,hi,hz0,hz1,hz2⟩:=info_parts DN
 have hlen:=(Au.Bu ho).len
 have hul:u.length=m:=by rw [<- hu,List.length_take,List.length_drop];omega
 have hg0:=(ho.lt g rfl).2
 have O0:=D9 ho (.cells #[.int .i64 p.1,.int .i64 p.2.1,.int .i64 p.2.2] 38)
 have X0:=Box.new w 38 #[.int .i64 p.1,.int .i64 p.2.1,.int .i64 p.2.2]
 have K0:=(Kept.refl [some g] w).alloc (.cells #[.int .i64 p.1,.int .i64 p.2.1,.int .i64 p.2.2] 38)
 have EB:=hide (fun (x m cp:Nat) (A:Option Addr) (l:List PG.Cl) (w:World) (ho:w.ownsRow base 66 5 (.slice (some ⟨g,0,none⟩) n cap) n (Ag l)) hx hA=>Fz x m cp n cap g base A l p w ho hx hn hA)
 have SN:Au (w.alloc (.cells #[.int .i64 p.1,.int .i64 p.2.1,.int .i64 p.2.2] 38)) (w.alloc (.cells #[.int .i64 p.1,.int .i64 p.2.1,.int .i64 p.2.2] 38)).heap.size (if cp=k then some ⟨g,x*5,none⟩ else some ⟨g,x*5+k*5,none⟩) (m-k) (u.drop k):=by
  have S:=((Au.Bu O0).drop (k:=x) (cap:=n+1) (by omega) (by omega))
  rw [if_neg (by omega)] at S
  have S2:=(S.take (k:=m) (by omega)).drop (k:=k) (cap:=cp) hk (by omega)
  rw [hu] at S2
  by_cases h:cp=k
  ·rw [if_pos h] at S2⊢
   simpa [Option.map,add0] using S2
  ·rw [if_neg h] at S2⊢
   simpa [Option.map,add0,Addr.add_lit] using S2
 have n0:g≠w.heap.size:=by omega
 unfold pv at*
 simp only [maxLen] at hcm
 have FIN: ∀(w2 w3:World) (l2:List PG.Cl),spl l2 (x+(m-k)) (List.replicate k (PG.blank p))=spl l x (pulled u k p)->Kept [some g] w w2->(w3.ownsRow base 66 5 (.slice (some ⟨g,0,none⟩) n cap) n (Ag (spl l2 (x+(m-k)) (List.replicate k (PG.blank p))))/\Kept [some g] w2 w3)->Wrote base g n cap w (spl l x (pulled u k p)) (.returned (.tuple #[])) w3:=fun w2 w3 l2 e h2 h3=>by
  rw [e] at h3
  exact⟨rfl,h3.1,h2.trans h3.2 (fun y hy=>From.mem hy)⟩
 have e0:spl (spl l x (u.drop k)) (x+(m-k)) (List.replicate k (PG.blank p))=spl l x (pulled u k p):=by
  have h:=Za (l:=l) (b:=List.replicate k (PG.blank p)) (a:=u.drop k) (x:=x) (by rw [List.length_replicate,List.length_drop,hul,hlen];omega)
  rw [List.length_drop,hul] at h
  exact h
 obtain⟨y0,y1,y2,_⟩:=X0.three
 by_cases hkm:k=m
 ·have e1:spl l (x+(m-k)) (List.replicate k (PG.blank p))=spl l x (pulled u k p):=by
   rw [<- e0,List.drop_of_length_le (by omega),Ua]
  have e0:=hide e1
  subst hkm
  have FIN:=hide FIN
  have O0:=hide O0
  have X0:=hide X0
  have K0:=hide K0
  have hlen:=hide hlen
  have hul:=hide hul
  clear SN ho hu e1
  have q0:(k:Int)-(k:Int)=0:=by omega
  have qw:IntKind.i64.wrap 0=0:=rfl
  by_cases hc:cp=k
  all_goals
   go_enter Tryz.func146,Tryz.ntmps146
   go_upto_region 2 with (
    (with_reducible refine Hu (o:=⟨some 10,_,_,_,_,_⟩) ?_)
    go_must (refine Iy rfl (.tmp 6) (.tmp 9) 35 35 rfl 66 i0 Tryz.underlying35 hi _ _ _ _ _ _ rfl rfl (by simp) ?_))
   generalize w.alloc (.cells #[.int .i64 p.1,.int .i64 p.2.1,.int .i64 p.2.2] 38)=w0 at*
   go_still_tail 7,(by kernel_rfl)
   change wpList _ _ _ _ _ w0.drew
   go_wp2_with (
    go_at_call 183
    go_must (refine(EB.out (x+(k-k)) k _ _ l w0.drew O0.out (by omega) (fun _=>by rw [Nat.sub_self];rfl)).mono ?_)
    rintro e w3 ⟨rfl,h3⟩
    have H:=hide (FIN.out _ w3 l e0.out K0.out.drew h3)
    clear h3)
   go_end0
   exact H.out
 ·have hlt:k<m:=by omega
  have hkc:k<=cp:=by omega
  have hck: ¬cp=k:=by omega
  rw [if_neg hck] at SN
  obtain⟨d,hd⟩: ∃d,m-k=d:=⟨_,rfl⟩
  have q0:(m:Int)-(k:Int)=(d:Int):=by omega
  have qw:IntKind.i64.wrap (d:Int)=(d:Int):=IntWalk.i64_in _ (by omega)
  rw [hd] at e0 SN FIN
  have FIN:=hide FIN
  have hd':d+k=m:=by omega
  clear hd
  have e0:=hide e0
  have O0:=hide O0
  have K0:=hide K0
  have SN:=hide SN
  have hlen:=hide hlen
  have hul:=hide hul
  have n0:=hide n0
  have X0:=hide X0
  clear ho hu
  have GO: ∀w1:World,w1.ownsRow base 66 5 (.slice (some ⟨g,0,none⟩) n cap) n (Ag (spl l x (u.drop k)))->(w.alloc (.cells #[.int .i64 p.1,.int .i64 p.2.1,.int .i64 p.2.2] 38)).grownBy w1 (some g)->Box w1 w.heap.size 38 #[.int .i64 p.1,.int .i64 p.2.1,.int .i64 p.2.2] /\Kept [some g] w w1:=fun w1 O1 hg1=>
   ⟨X0.out.grown hg1 (fun e=>n0.out (by injection e with e;exact e.symm)),K0.out.grown hg1 (From.mem (by simp))⟩
  have GO:=hide GO
  have hmk:d<=cp:=by omega
  have hdm:d<=m:=by omega
  have hmd:=hide (show m-d=k by omega)
  by_cases hk0:k=0
  ·subst hk0
   obtain rfl:d=m:=by omega
   have SN:=hide (show Au _ _ (some ⟨g,x*5,none⟩) d (u.drop 0) by simpa using SN.out)
   by_cases hc:cp=d
   all_goals
    go_enter Tryz.func146,Tryz.ntmps146
    go_upto_region 2 with (
     (with_reducible refine Hu (o:=⟨some 10,_,_,_,_,_⟩) ?_)
     go_must (refine Ck rfl (.tmp 6) (.tmp 9) 35 35 rfl 66 i0 Tryz.underlying35 hi hz1 base 66 g _ x n cap _ _ l rfl O0.out (by omega) (some ⟨g,x*5,none⟩) _ _ _ d (u.drop 0) rfl (by simp only [Nat.min_def];split<;>omega) SN.out (by omega) ?_)
     intro w1 O1 hg1
     obtain⟨X1,K1⟩:=GO.out w1 O1 hg1
     have K1:=hide K1
     have O1:=hide O1
     clear y0 y1 y2 X0 K0 O0 SN hg1 GO
     obtain⟨y0,y1,y2,_⟩:=X1.three)
    go_still_tail 7,(by kernel_rfl)
    change wpList _ _ _ _ _ w1.drew
    go_wp2_with (
     go_at_call 183
     go_must (refine(EB.out (x+d) 0 _ _ _ w1.drew O1.out (by omega) (fun h=>absurd h (Nat.lt_irrefl 0))).mono ?_)
     rintro e w3 ⟨rfl,h3⟩
     have H:=hide (FIN.out _ w3 _ e0.out K1.out.drew h3)
     clear h3)
    go_end0
    exact H.out
  ·have hcc: ¬cp=d:=by omega
   go_enter Tryz.func146,Tryz.ntmps146
   go_upto_region 2 with (
    (with_reducible refine Hu (o:=⟨some 10,_,_,_,_,_⟩) ?_)
    go_must (refine Ck rfl (.tmp 6) (.tmp 9) 35 35 rfl 66 i0 Tryz.underlying35 hi hz1 base 66 g _ x n cap _ _ l rfl O0.out (by omega) (some ⟨g,x*5+k*5,none⟩) _ _ _ d (u.drop k) rfl (by simp only [Nat.min_def];split<;>omega) SN.out (by omega) ?_)
    intro w1 O1 hg1
    obtain⟨X1,K1⟩:=GO.out w1 O1 hg1
    have K1:=hide K1
    have O1:=hide O1
    clear y0 y1 y2 X0 K0 O0 SN hg1 GO
    obtain⟨y0,y1,y2,_⟩:=X1.three)
   go_still_tail 7,(by kernel_rfl)
   change wpList _ _ _ _ _ w1.drew
   go_wp2_with (
    go_at_call 183
    go_must (refine(EB.out (x+d) (m-d) _ _ _ w1.drew O1.out (by omega) (fun _=>by rw [Nat.add_mul])).mono ?_)
    rintro e w3 ⟨rfl,h3⟩
    rw [hmd.out] at h3
    have H:=hide (FIN.out _ w3 _ e0.out K1.out.drew h3)
    clear h3)
   go_end0
   exact H.out
def halves (l:List PG.Cl) (y:Nat) (p q:PG.Pn):Nat->List PG.Cl
 | 0=>l
 | 1=>l.set y (PG.blank p)
 | _=>(l.set y (PG.blank p)).set (y+1) (PG.blank q)
theorem TM (l:List PG.Cl) (y:Nat) (p q:PG.Pn) (k:Nat):(halves l y p q k).length=l.length:=by
 match k with
 | 0=>rfl
 | 1=>simp [halves]
 | k+2=>simp [halves]
theorem Qc {l:List PG.Cl} {y:Nat} {a b:PG.Cl} (ha:l[y]? =some a) (hb:l[y+1]? =some b) {k:Nat} (hk:k<2): ∃c,(halves l y (PG.pn a) (PG.pn b) k)[y+k]? =some c/\(halves l y (PG.pn a) (PG.pn b) k).set (y+k) (PG.blank (PG.pn c))=halves l y (PG.pn a) (PG.pn b) (k+1):=by
 obtain rfl | rfl:k=0\/k=1:=by omega
 ·exact⟨a,ha,rfl⟩
 ·refine⟨b,?_,rfl⟩
  show(l.set y _)[y+1]? =_
  rw [List.getElem?_set_ne (by omega)]
  exact hb
theorem TN (x m c0 cp n cap g base:Nat) (l:List PG.Cl) (a b:PG.Cl) (w:World) (ho:w.ownsRow base 66 5 (.slice (some ⟨g,0,none⟩) n cap) n (Ag l)) (hx:x+m<=n) (hn:n<=2400) (hc:c0+1<m) (ha:l[x+c0]? =some a) (hb:l[x+c0+1]? =some b) (hk:PG.kd b=2):
  Calls Tryz.prog 215 #[.slice (some ⟨g,x*5,none⟩) m cp,.int .i64 ((c0+1:Nat):Int)] w (Wrote base g n cap w (halves l (x+c0) (PG.pn a) (PG.pn b) 2)):=by
 have hlen:=(Au.Bu ho).len
 have hg0:=(ho.lt g rfl).2
 have BC: ∀(p:PG.Pn) (w':World),Calls Tryz.prog 97 #[.agg #[.int .i64 p.1,.int .i64 p.2.1,.int .i64 p.2.2]] w' fun e w''=>e=.returned (.agg #[.int .i32 32,.int .i64 0,.int .i64 p.1,.int .i64 p.2.1,.int .i64 p.2.2])/\Below w'.heap.size w' w'':=fun p w'=>FP _ _ _ w'
 have BC:=hide BC
 obtain⟨_,v1,_⟩:=EC ho (k:=x+c0+1) (o:=x*5+(c0+1)*5) (by omega) hb
 rw [hk] at v1
 have O0:=hide ho
 have HN:=hide (fun k hk=>Qc ha hb (k:=k) hk)
 have HL:=hide (TM l (x+c0) (PG.pn a) (PG.pn b))
 have hlen:=hide hlen
 obtain⟨c,hcc⟩: ∃c,c0+1=c:=⟨_,rfl⟩
 rw [hcc] at v1 hc⊢
 have hc1:(c:Int)-1=(c0:Int):=by omega
 have hcp:1<=c:=by omega
 generalize hP:halves l (x+c0) (PG.pn a) (PG.pn b)=P at*
 have hP0:=hide (show P 0=l by rw [<- hP];rfl)
 have hcc:=hide hcc
 clear hP ha hb hk ho
 go_enter Tryz.func215,Tryz.ntmps215
 go_wp2_with fail
 go_loopw [4] (fun i wr=> ∃k j:Nat,k<=2/\c0+k=j/\i=.int .i64 j/\wr.ownsRow base 66 5 (.slice (some ⟨g,0,none⟩) n cap) n (Ag (P k))/\Kept [some g] w wr)
  (fun i _=>c0+2-(intOf i).toNat)
 case atStart=>exact⟨0,c0,by omega,rfl,rfl,by rw [hP0.out];exact O0.out,Kept.refl _ _⟩
 case round=>
  clear O0 v1
  obtain⟨k,j,hk,hj,rfl,ho,hb⟩:=hrel
  have hcc':=hcc.out
  by_cases hlt:j<=c
  ·obtain⟨cd,hck,hset⟩:=HN.out k (by omega)
   have hgw:g<wr.heap.size:=(ho.lt g rfl).2
   have hpl:=hide ((HL.out k).trans hlen.out)
   have V:=EC ho (k:=x+c0+k) (o:=x*5+j*5) (by omega) hck
   obtain⟨_,_,r0,r1,r2,_⟩:=V
   have FIN: ∀w3,Below wr.heap.size wr w3->
     (w3.cell? ⟨g,x*5+j*5,none⟩=some (.int .i32 (PG.rn cd))/\w3.cell? ⟨g,x*5+j*5+1,none⟩=some (.int .i64 (PG.kd cd))/\w3.cell? ⟨g,x*5+j*5+2,none⟩=some (.int .i64 (PG.pn cd).1)/\w3.cell? ⟨g,x*5+j*5+3,none⟩=some (.int .i64 (PG.pn cd).2.1)/\w3.cell? ⟨g,x*5+j*5+4,none⟩=some (.int .i64 (PG.pn cd).2.2)/\
      w3.frozen? ⟨g,x*5+j*5,none⟩=false/\w3.frozen? ⟨g,x*5+j*5+1,none⟩=false/\w3.frozen? ⟨g,x*5+j*5+2,none⟩=false/\w3.frozen? ⟨g,x*5+j*5+3,none⟩=false/\w3.frozen? ⟨g,x*5+j*5+4,none⟩=false)/\
     (Ci w3 g (x*5+j*5) (PG.blank (PG.pn cd))).ownsRow base 66 5 (.slice (some ⟨g,0,none⟩) n cap) n (Ag (P (k+1)))/\Kept [some g] w (Ci w3 g (x*5+j*5) (PG.blank (PG.pn cd))):=fun w3 h3=>by
    have o3:=ho.kept (BS h3 none) (by simp [Value.ownBlock])
    have S:=Eu o3 (k:=x+c0+k) (o:=x*5+j*5) (by omega) (PG.blank (PG.pn cd)) (by omega) hpl.out
    refine⟨EC o3 (by omega) hck,?_,(hb.below h3).grown S.2 (From.mem (by simp))⟩
    rw [<- hset]
    exact S.1
   have FIN:=hide FIN
   clear ho hck hb hset HN HL hpl
   go_wp2_with (
    go_at_call 97
    go_must (refine(BC.out (PG.pn cd) _).mono ?_)
    rintro e w3 ⟨rfl,b3⟩
    obtain⟨⟨v0,v1,v2,v3,v4,f0,f1,f2,f3,f4⟩,G2⟩:=FIN.out _ b3
    have G2:=hide G2
    clear b3 FIN)
   go_roundw
   case rel=>exact⟨k+1,j+1,by omega,by omega,by go_num,G2.out⟩
   case measure=>simp [intOf];omega
  ·obtain rfl:k=2:=by omega
   have ho:=hide ho
   have hb:=hide hb
   clear BC HN HL
   go_wp2_with fail
   go_end0
   exact⟨rfl,ho.out,hb.out⟩
theorem Wo (x m c cp n cap g base:Nat) (l:List PG.Cl) (b:PG.Cl) (w:World) (ho:w.ownsRow base 66 5 (.slice (some ⟨g,0,none⟩) n cap) n (Ag l)) (hx:x+m<=n) (hn:n<=2400) (hc:c<m) (hb:l[x+c]? =some b) (hk:PG.kd b≠2):
  Calls Tryz.prog 215 #[.slice (some ⟨g,x*5,none⟩) m cp,.int .i64 c] w (Wrote base g n cap w l):=by
 obtain⟨_,v1,_⟩:=EC ho (k:=x+c) (o:=x*5+c*5) (by omega) hb
 have hz:(PG.kd b !=2)=true:=by simpa using hk
 have ho:=hide ho
 clear hb hk
 generalize PG.kd b=kk at*
 go_enter Tryz.func215,Tryz.ntmps215
 go_wp2_with fail
 first | go_end0 | go_ret | (refine bodyPost_ret (results_none rfl _ _ _) rfl ?_)
 exact⟨rfl,ho.out,Kept.refl _ _⟩
end Go.Proofs.YtoaabebgmdbjeaaGreatDoor
namespace Go.Proofs.YtoaabebgmdbjeaaGreatDoor.PG
theorem F3 {a q K j:Nat} (hj:j<K):a*K+j<q*K<->a<q:=by
 constructor
 ·intro h
  rcases Nat.lt_or_ge a q with h1 | h1
  ·exact h1
  ·have:=Nat.mul_le_mul_right K h1
   omega
 ·intro h
  have:=Nat.mul_le_mul_right K (show a+1<=q from h)
  rw [Nat.succ_mul] at this
  omega
theorem Zb {a q K j:Nat} (hj:j<K):q*K<=a*K+j<->q<=a:=by
 have:=F3 (a:=a) (q:=q) hj
 omega
theorem Qd {g:Gr} {r c:Nat} {m:List Cl} {h:Nat->Cl} (hr:r<g.rows) (hc:c<=g.AB) (hm:m.length=g.AB-c) (hh: ∀j,j<g.AB-c->m[j]? =some (h (c+j))):spl (cells g) (r*g.AB+c) m=cells ⟨g.rows,g.AB,fun i j=>if i=r/\c<=j then h j else g.f i j⟩:=by
 have hle:r*g.AB+g.AB<=g.rows*g.AB:=by rw [<- Nat.succ_mul];exact Nat.mul_le_mul_right _ hr
 have hl:r*g.AB+c+m.length<=(cells g).length:=by rw [Aw,hm];omega
 refine Gp (g:=⟨g.rows,g.AB,fun i j=>if i=r/\c<=j then h j else g.f i j⟩) (by rw [D5 hl,Aw]) fun i j hi hj=>?_
 have hi:i<g.rows:=hi
 have hj:j<g.AB:=hj
 show(spl (cells g) (r*g.AB+c) m)[i*g.AB+j]? =some (if i=r/\c<=j then h j else g.f i j)
 rw [Ew hl,hm]
 by_cases e:i=r
 ·subst e
  by_cases h3:c<=j
  ·rw [if_pos ⟨by omega,by omega⟩,if_pos ⟨rfl,h3⟩,show i*g.AB+j-(i*g.AB+c)=j-c by omega,hh _ (by omega),show c+(j-c)=j by omega]
  ·rw [if_neg (by omega),if_neg (by omega),Cw g hi hj]
 ·rw [if_neg (by omega: ¬(i=r/\c<=j)),if_neg,Cw g hi hj]
  rintro ⟨h3,h4⟩
  rcases Nat.lt_or_gt_of_ne e with h | h
  ·have:=Nat.mul_le_mul_right g.AB h
   rw [Nat.succ_mul] at this
   omega
  ·have:=Nat.mul_le_mul_right g.AB h
   rw [Nat.succ_mul] at this
   omega
theorem Us {g:Gr} {r c j:Nat} (hr:r<g.rows) (hj:j<g.AB-c):(((cells g).drop (r*g.AB+c)).take (g.AB-c))[j]? =some (g.f r (c+j)):=by
 rw [List.getElem?_take_of_lt hj,List.getElem?_drop,Nat.add_assoc,Cw g hr (by omega)]
theorem Qe {g:Gr} {r c:Nat} (hr:r<g.rows) (hc:c<=g.AB):(((cells g).drop (r*g.AB+c)).take (g.AB-c)).length=g.AB-c:=by
 have hle:r*g.AB+g.AB<=g.rows*g.AB:=by rw [<- Nat.succ_mul];exact Nat.mul_le_mul_right _ hr
 rw [List.length_take,List.length_drop,Aw]
 omega
theorem MS {g:Gr} {t b:Nat} {m:List Cl} {h:Nat->Nat->Cl} (ht:t<=b) (hb:b<=g.rows) (hm:m.length=(b-t)*g.AB) (hh: ∀i j,i<b-t->j<g.AB->m[i*g.AB+j]? =some (h (t+i) j)):spl (cells g) (t*g.AB) m=cells ⟨g.rows,g.AB,fun i j=>if t<=i/\i<b then h i j else g.f i j⟩:=by
 have e1:t*g.AB+(b-t)*g.AB=b*g.AB:=by rw [<- Nat.add_mul];congr 1;omega
 have hle:b*g.AB<=g.rows*g.AB:=Nat.mul_le_mul_right _ hb
 have hl:t*g.AB+m.length<=(cells g).length:=by rw [Aw,hm];omega
 refine Gp (g:=⟨g.rows,g.AB,fun i j=>if t<=i/\i<b then h i j else g.f i j⟩) (by rw [D5 hl,Aw]) fun i j hi hj=>?_
 have hi:i<g.rows:=hi
 have hj:j<g.AB:=hj
 show(spl (cells g) (t*g.AB) m)[i*g.AB+j]? =some (if t<=i/\i<b then h i j else g.f i j)
 rw [Ew hl,hm,e1]
 by_cases c:t<=i/\i<b
 ·have h1:=(Zb (a:=i) (q:=t) hj).2 c.1
  have h2:=(F3 (a:=i) (q:=b) hj).2 c.2
  have e2:i*g.AB+j-t*g.AB=(i-t)*g.AB+j:=by
   rw [Nat.sub_mul]
   have:=Nat.mul_le_mul_right g.AB c.1
   omega
  rw [if_pos ⟨h1,h2⟩,if_pos c,e2,hh _ _ (by omega) hj,show t+(i-t)=i by omega]
 ·rw [if_neg c,if_neg,Cw g hi hj]
  rintro ⟨h1,h2⟩
  exact c ⟨(Zb hj).1 h1,(F3 hj).1 h2⟩
theorem Ut {g:Gr} {t b i j:Nat} (ht:t<=b) (hb:b<=g.rows) (hi:i<b-t) (hj:j<g.AB):(((cells g).drop (t*g.AB)).take ((b-t)*g.AB))[i*g.AB+j]? =some (g.f (t+i) j):=by
 rw [List.getElem?_take_of_lt ((F3 hj).2 hi),List.getElem?_drop, <- Nat.add_assoc, <- Nat.add_mul,Cw g (by omega) hj]
theorem Qf {g:Gr} {t b:Nat} (ht:t<=b) (hb:b<=g.rows):(((cells g).drop (t*g.AB)).take ((b-t)*g.AB)).length=(b-t)*g.AB:=by
 have e1:t*g.AB+(b-t)*g.AB=b*g.AB:=by rw [<- Nat.add_mul];congr 1;omega
 have hle:b*g.AB<=g.rows*g.AB:=Nat.mul_le_mul_right _ hb
 rw [List.length_take,List.length_drop,Aw]
 omega
theorem MU {u:List Cl} {k:Nat} (p:Pn) (hk:k<=u.length):(pushed u k p).length=u.length:=by
 unfold pushed
 rw [List.length_append,List.length_replicate,List.length_take]
 omega
theorem Ma {u:List Cl} {k:Nat} (p:Pn) (hk:k<=u.length):(pulled u k p).length=u.length:=by
 unfold pulled
 rw [List.length_append,List.length_replicate,List.length_drop]
 omega
theorem N9 {u:List Cl} {k j:Nat} (p:Pn) (hk:k<=u.length) (hj:j<u.length):(pushed u k p)[j]? =if j<k then some (blank p) else u[j-k]? :=by
 unfold pushed
 by_cases h:j<k
 ·rw [if_pos h,List.getElem?_append_left (by simpa using h),List.getElem?_replicate,if_pos h]
 ·rw [if_neg h,List.getElem?_append_right (by rw [List.length_replicate];omega),List.length_replicate,List.getElem?_take_of_lt (by omega)]
theorem OA {u:List Cl} {k j:Nat} (p:Pn) (hk:k<=u.length) (hj:j<u.length):(pulled u k p)[j]? =if j+k<u.length then u[j+k]? else some (blank p):=by
 unfold pulled
 by_cases h:j+k<u.length
 ·rw [if_pos h,List.getElem?_append_left (by rw [List.length_drop];omega),List.getElem?_drop,Nat.add_comm k j]
 ·rw [if_neg h,List.getElem?_append_right (by rw [List.length_drop];omega),List.getElem?_replicate,if_pos (by rw [List.length_drop];omega)]
def Dz (g:Gr) (r:Nat) (h:Nat->Cl):Gr:=⟨g.rows,g.AB,fun i j=>if i=r then h j else g.f i j⟩
theorem Wp {f:Nat->Cl} {c:Nat} (h:kd (f c)≠2):parted f c=f:=by
 funext j
 exact if_neg (by omega)
theorem Wq {g:Gr} {r c:Nat} (h:kd (g.f r c)≠2):cells g=cells (Dz g r (parted (g.f r) c)):=by
 refine DT ⟨rfl,rfl,fun i j _ _=>?_⟩
 show g.f i j=if i=r then _ else g.f i j
 rw [Wp h]
 split
 ·rename_i e;rw [e]
 ·rfl
theorem Zc {g:Gr} {r c0:Nat} (hr:r<g.rows) (hc:c0+1<g.AB) (h:kd (g.f r (c0+1))=2):halves (cells g) (r*g.AB+c0) (pn (g.f r c0)) (pn (g.f r (c0+1))) 2=cells (Dz g r (parted (g.f r) (c0+1))):=by
 show((cells g).set (r*g.AB+c0) _).set (r*g.AB+c0+1) _=_
 rw [X6 hr (by omega)]
 have e:=X6 (g:=⟨g.rows,g.AB,fun i j=>if i=r/\j=c0 then blank (pn (g.f r c0)) else g.f i j⟩) (r:=r) (c:=c0+1) hr hc (blank (pn (g.f r (c0+1))))
 rw [Nat.add_assoc,e]
 refine DT ⟨rfl,rfl,fun i j _ _=>?_⟩
 show(if i=r/\j=c0+1 then blank (pn (g.f r (c0+1))) else if i=r/\j=c0 then blank (pn (g.f r c0)) else g.f i j)=if i=r then parted (g.f r) (c0+1) j else g.f i j
 unfold parted
 by_cases e1:i=r
 ·subst e1
  by_cases e2:j=c0+1
  ·subst e2
   simp [h]
  ·by_cases e3:j=c0
   ·subst e3
    simp [h]
   ·rw [if_neg (by omega),if_neg (by omega),if_pos rfl,if_neg (by omega)]
 ·rw [if_neg (by omega),if_neg (by omega),if_neg e1]
theorem Zd {g:Gr} {r c k:Nat} {n:Int} {p:Pn} {h:Nat->Cl} (hr:r<g.rows) (hc:c<g.AB) (hk:k<=g.AB-c) (hn:(n<=(g.AB:Int)-c/\n=k)\/((g.AB:Int)-c<n/\k=g.AB-c)) (hh:h=parted (g.f r) c):
  spl (cells (Dz g r h)) (r*g.AB+c) (pushed (((cells (Dz g r h)).drop (r*g.AB+c)).take (g.AB-c)) k p)=cells (Dz g r (shifted (g.f r) g.AB c n p)):=by
 have hl:(((cells (Dz g r h)).drop (r*g.AB+c)).take (g.AB-c)).length=g.AB-c:=Qe (g:=Dz g r h) hr (by show c<=g.AB;omega)
 refine(Qd (g:=Dz g r h) (r:=r) (c:=c) (h:=shifted (g.f r) g.AB c n p) hr (by show c<=g.AB;omega) (by rw [MU p (by omega),hl];rfl) fun j hj=>?_).trans (DT ⟨rfl,rfl,fun i j hi hj=>?_⟩)
 ·have hj:j<g.AB-c:=hj
  rw [N9 p (by omega) (by omega)]
  by_cases h1:j<k
  ·rw [if_pos h1]
   unfold shifted
   rw [if_neg (by omega),if_neg (by omega)]
  ·have e:=Us (g:=Dz g r h) (r:=r) (c:=c) (j:=j-k) hr (by show j-k<g.AB-c;omega)
   have e':(((cells (Dz g r h)).drop (r*g.AB+c)).take (g.AB-c))[j-k]? =some (h (c+(j-k))):=by
    refine e.trans ?_
    show some (if r=r then h (c+(j-k)) else _)=_
    rw [if_pos rfl]
   rw [if_neg h1,e']
   unfold shifted
   rw [if_neg (by omega),if_pos (by omega),hh]
   congr 2
   omega
 ·show(if i=r/\c<=j then shifted (g.f r) g.AB c n p j else if i=r then h j else g.f i j)=if i=r then shifted (g.f r) g.AB c n p j else g.f i j
  by_cases e:i=r
  ·by_cases e2:c<=j
   ·rw [if_pos ⟨e,e2⟩,if_pos e]
   ·rw [if_neg (by omega),if_pos e,if_pos e,hh]
    unfold shifted
    rw [if_pos (by omega)]
  ·rw [if_neg (by omega),if_neg e,if_neg e]
theorem Ze {g:Gr} {r c k:Nat} {n:Int} {p:Pn} {h:Nat->Cl} (hr:r<g.rows) (hc:c<g.AB) (hk:k<=g.AB-c) (hn:(n<=(g.AB:Int)-c/\n=k)\/((g.AB:Int)-c<n/\k=g.AB-c)) (hh:h=parted (g.f r) c):
  spl (cells (Dz g r h)) (r*g.AB+c) (pulled (((cells (Dz g r h)).drop (r*g.AB+c)).take (g.AB-c)) k p)=cells (Dz g r (shifted (g.f r) g.AB c (-n) p)):=by
 have hl:(((cells (Dz g r h)).drop (r*g.AB+c)).take (g.AB-c)).length=g.AB-c:=Qe (g:=Dz g r h) hr (by show c<=g.AB;omega)
 refine(Qd (g:=Dz g r h) (r:=r) (c:=c) (h:=shifted (g.f r) g.AB c (-n) p) hr (by show c<=g.AB;omega) (by rw [Ma p (by omega),hl];rfl) fun j hj=>?_).trans (DT ⟨rfl,rfl,fun i j hi hj=>?_⟩)
 ·have hj:j<g.AB-c:=hj
  rw [OA p (by omega) (by omega),hl]
  by_cases h1:j+k<g.AB-c
  ·have e:=Us (g:=Dz g r h) (r:=r) (c:=c) (j:=j+k) hr (by show j+k<g.AB-c;omega)
   have e':(((cells (Dz g r h)).drop (r*g.AB+c)).take (g.AB-c))[j+k]? =some (h (c+(j+k))):=by
    refine e.trans ?_
    show some (if r=r then h (c+(j+k)) else _)=_
    rw [if_pos rfl]
   rw [if_pos h1,e']
   unfold shifted
   rw [if_neg (by omega),if_pos (by omega),hh]
   congr 2
   omega
  ·rw [if_neg h1]
   unfold shifted
   rw [if_neg (by omega),if_neg (by omega)]
 ·show(if i=r/\c<=j then shifted (g.f r) g.AB c (-n) p j else if i=r then h j else g.f i j)=if i=r then shifted (g.f r) g.AB c (-n) p j else g.f i j
  by_cases e:i=r
  ·by_cases e2:c<=j
   ·rw [if_pos ⟨e,e2⟩,if_pos e]
   ·rw [if_neg (by omega),if_pos e,if_pos e,hh]
    unfold shifted
    rw [if_pos (by omega)]
  ·rw [if_neg (by omega),if_neg e,if_neg e]
theorem Qg {g:Gr} {r c:Nat} {n:Int} {p:Pn} (hr:r<g.rows) (hc:c<g.AB):
  spl (cells (Dz g r (shifted (g.f r) g.AB c n p))) (r*g.AB) (Dn (((cells (Dz g r (shifted (g.f r) g.AB c n p))).drop (r*g.AB)).take g.AB))=cells (CK g r c n p):=by
 have e1:=Ii (g:=Dz g r (shifted (g.f r) g.AB c n p)) (r:=r) hr
 have e1':((cells (Dz g r (shifted (g.f r) g.AB c n p))).drop (r*g.AB)).take g.AB=(List.range g.AB).map (shifted (g.f r) g.AB c n p):=by
  refine e1.trans (List.map_congr_left fun j _=>?_)
  show(if r=r then _ else _)=_
  rw [if_pos rfl]
 rw [e1',IQ]
 refine(KH (g:=Dz g r (shifted (g.f r) g.AB c n p)) hr (by simp [Dz]) (fun j hj=>DY hj)).trans (DT ?_)
 unfold CK
 rw [if_pos ⟨hr,hc⟩]
 refine⟨rfl,rfl,fun i j _ _=>?_⟩
 show(if i=r then _ else if i=r then _ else g.f i j)=_
 by_cases e:i=r
 ·rw [if_pos e]
  exact(if_pos e).symm
 ·rw [if_neg e,if_neg e]
  exact(if_neg e).symm
theorem Ws {g:Gr} {t b q:Nat} {n:Int} {p:Pn} (ht:t<=b) (hb:b<g.rows) (hn:(n<=(b:Int)+1-t/\n=q)\/((b:Int)+1-t<n/\q=b+1-t)) (hn0:0<=n):
  spl (cells g) (t*g.AB) (pushed (((cells g).drop (t*g.AB)).take ((b+1-t)*g.AB)) (q*g.AB) p)=cells (Am g t b (-n) p):=by
 have hl:=Qf (g:=g) (t:=t) (b:=b+1) (by omega) (by omega)
 have hq:q<=b+1-t:=by omega
 have hqk:q*g.AB<=(b+1-t)*g.AB:=Nat.mul_le_mul_right _ hq
 refine(MS (g:=g) (t:=t) (b:=b+1) (h:=fun i j=>if t+q<=i then g.f (i-q) j else blank p) (by omega) (by omega) (by rw [MU p (by rw [hl];exact hqk),hl]) fun i j hi hj=>?_).trans (DT ?_)
 ·have hij:=(F3 (a:=i) (q:=b+1-t) hj).2 hi
  rw [N9 p (by rw [hl];exact hqk) (by rw [hl];exact hij)]
  by_cases h1:i<q
  ·rw [if_pos ((F3 hj).2 h1),if_neg (by omega)]
  ·have h2: ¬(i*g.AB+j<q*g.AB):=fun h=>h1 ((F3 hj).1 h)
   have e2:i*g.AB+j-q*g.AB=(i-q)*g.AB+j:=by
    rw [Nat.sub_mul]
    have:=Nat.mul_le_mul_right g.AB (show q<=i by omega)
    omega
   rw [if_neg h2,e2,Ut (by omega) (by omega) (by omega) hj,if_pos (by omega)]
   congr 2
   omega
 ·unfold Am
  rw [if_pos ⟨hb,ht⟩]
  refine⟨rfl,rfl,fun i j _ _=>?_⟩
  show(if t<=i/\i<b+1 then (if t+q<=i then g.f (i-q) j else blank p) else g.f i j)=if t<=i/\i<=b then (if (t:Int)<=i+ -n/\(i:Int)+ -n<=b then g.f ((i:Int)+ -n).toNat j else blank p) else g.f i j
  by_cases h1:t<=i/\i<=b
  ·rw [if_pos (by omega),if_pos h1]
   by_cases h2:t+q<=i
   ·rw [if_pos h2,if_pos (by omega)]
    congr 1
    omega
   ·rw [if_neg h2,if_neg (by omega)]
  ·rw [if_neg (by omega),if_neg h1]
theorem Wt {g:Gr} {t b q:Nat} {n:Int} {p:Pn} (ht:t<=b) (hb:b<g.rows) (hn:(n<=(b:Int)+1-t/\n=q)\/((b:Int)+1-t<n/\q=b+1-t)) (hn0:0<=n):
  spl (cells g) (t*g.AB) (pulled (((cells g).drop (t*g.AB)).take ((b+1-t)*g.AB)) (q*g.AB) p)=cells (Am g t b n p):=by
 have hl:=Qf (g:=g) (t:=t) (b:=b+1) (by omega) (by omega)
 have hq:q<=b+1-t:=by omega
 have hqk:q*g.AB<=(b+1-t)*g.AB:=Nat.mul_le_mul_right _ hq
 refine(MS (g:=g) (t:=t) (b:=b+1) (h:=fun i j=>if i+q<=b then g.f (i+q) j else blank p) (by omega) (by omega) (by rw [Ma p (by rw [hl];exact hqk),hl]) fun i j hi hj=>?_).trans (DT ?_)
 ·have hij:=(F3 (a:=i) (q:=b+1-t) hj).2 hi
  rw [OA p (by rw [hl];exact hqk) (by rw [hl];exact hij),hl]
  have e2:i*g.AB+j+q*g.AB=(i+q)*g.AB+j:=by
   rw [Nat.add_mul]
   omega
  rw [e2]
  by_cases h1:i+q<b+1-t
  ·rw [if_pos ((F3 hj).2 h1),Ut (by omega) (by omega) h1 hj,if_pos (by omega)]
   congr 2
   omega
  ·have h2: ¬((i+q)*g.AB+j<(b+1-t)*g.AB):=fun h=>h1 ((F3 hj).1 h)
   rw [if_neg h2,if_neg (by omega)]
 ·unfold Am
  rw [if_pos ⟨hb,ht⟩]
  refine⟨rfl,rfl,fun i j _ _=>?_⟩
  show(if t<=i/\i<b+1 then (if i+q<=b then g.f (i+q) j else blank p) else g.f i j)=if t<=i/\i<=b then (if (t:Int)<=i+n/\(i:Int)+n<=b then g.f ((i:Int)+n).toNat j else blank p) else g.f i j
  by_cases h1:t<=i/\i<=b
  ·rw [if_pos (by omega),if_pos h1]
   by_cases h2:i+q<=b
   ·rw [if_pos h2,if_pos (by omega)]
    congr 1
    omega
   ·rw [if_neg h2,if_neg (by omega)]
  ·rw [if_neg (by omega),if_neg h1]
theorem Mc {g:Gr} {t b:Nat} {p:Pn} (ht:t<=b) (hb:b<=g.rows):
  spl (cells g) (t*g.AB) (List.replicate ((b-t)*g.AB) (blank p))=cells ⟨g.rows,g.AB,fun i j=>if t<=i/\i<b then blank p else g.f i j⟩:=by
 refine MS (g:=g) (t:=t) (b:=b) (h:=fun _ _=>blank p) ht hb (by rw [List.length_replicate]) fun i j hi hj=>?_
 rw [List.getElem?_replicate,if_pos ((F3 hj).2 hi)]
end Go.Proofs.YtoaabebgmdbjeaaGreatDoor.PG
namespace Go.Proofs.YtoaabebgmdbjeaaGreatDoor
open Go.RowKit
structure TJ (m:Nat) (E:Bool->World->Prop) (vals:Nat->Value) (L:Nat->Bool) (u:Nat->Value) (wx:World):Prop where
 put:E (L m) wx
 all: ∀j,j<m->L j=true->u j=vals j
section
variable {m:Nat} {E:Bool->World->Prop} {vals:Nat->Value} {L:Nat->Bool} {u u':Nat->Value} {wx wy:World}
theorem TJ.val (h:TJ m E vals L u wx) (st: ∀b x y,E b x->Below x.heap.size x y->E b y) {i:Nat} (hi:i<m) (b:Below wx.heap.size wx wy) (v:Value) (hv:vals i=v):TJ m E vals (mark L i) (upd u i v) wy:=by
 refine⟨?_,fun j hj hl=>?_⟩
 ·rw [Eh (show m≠i by omega)]
  exact st _ _ _ h.put b
 ·by_cases e:j=i
  ·subst e
   rw [EZ]
   exact hv.symm
  ·rw [FC e]
   rw [Eh e] at hl
   exact h.all j hj hl
theorem TJ.fin (h:TJ m E vals L u wx) (v:Value) (he:E true wy):TJ m E vals (mark L m) (upd u m v) wy:=by
 refine⟨?_,fun j hj hl=>?_⟩
 ·rw [Gt]
  exact he
 ·rw [FC (show j≠m by omega)]
  rw [Eh (show j≠m by omega)] at hl
  exact h.all j hj hl
theorem TJ.same (he: ∀j,j<m+1->u j=u' j) (h:TJ m E vals L u wx):TJ m E vals L u' wx:=⟨h.put,fun j hj hl=>(he j (by omega)).symm.trans (h.all j hj hl)⟩
end
def EIn (w:World) (R K n g cap:Nat) (p:PG.Pn) (l:List PG.Cl) (wx:World):Prop:=
 Box wx w.heap.size 37 #[.int .i64 R,.int .i64 K,.slice (some ⟨g,0,none⟩) n cap] /\Box wx (w.heap.size+1) 38 #[.int .i64 p.1,.int .i64 p.2.1,.int .i64 p.2.2] /\Box wx (w.heap.size+1+1) 37 #[.int .i64 0,.int .i64 0,.slice none 0 0] /\
 wx.ownsRow w.heap.size 66 5 (.slice (some ⟨g,0,none⟩) n cap) n (Ag l)/\Below w.heap.size w wx
section
variable {w wx wy:World} {R K n g cap:Nat} {p:PG.Pn} {l l2:List PG.Cl}
theorem EIn.call (h:EIn w R K n g cap p l wx) (b:Below wx.heap.size wx wy):EIn w R K n g cap p l wy:=
 ⟨h.1.below b h.1.lt,h.2.1.below b h.2.1.lt,h.2.2.1.below b h.2.2.1.lt,h.2.2.2.1.kept (BS b none) (by simp [Value.ownBlock]),h.2.2.2.2.trans (b.mono h.2.2.2.2.size)⟩
theorem EIn.drew (h:EIn w R K n g cap p l wx):EIn w R K n g cap p l wx.drew:=⟨h.1.drew,h.2.1.drew,h.2.2.1.drew,h.2.2.2.1,h.2.2.2.2.drew⟩
theorem EIn.wrote (h:EIn w R K n g cap p l wx) (o:wy.ownsRow w.heap.size 66 5 (.slice (some ⟨g,0,none⟩) n cap) n (Ag l2)) (k:Kept [some g] wx wy):EIn w R K n g cap p l2 wy:=by
 have n0:=Aa h.2.2.2.1 h.1 (by decide)
 have n1:=Aa h.2.2.2.1 h.2.1 (by decide)
 have n2:=Aa h.2.2.2.1 h.2.2.1 (by decide)
 have lt:=(h.2.2.2.1.lt g rfl).1
 have hn: ∀q,(Value.slice (some ⟨g,0,none⟩) n cap).ownBlock≠some q->some q∉ [some g] :=fun q hq hm=>hq (by
  simp only [List.mem_singleton,Option.some.injEq] at hm
  rw [hm]
  rfl)
 exact⟨h.1.kept k (hn _ n0),h.2.1.kept k (hn _ n1),h.2.2.1.kept k (hn _ n2),o,h.2.2.2.2.trans (k.toBelow h.2.2.2.2.size (fun q hq=>by simp at hq;omega))⟩
theorem EIn.grown (h:EIn w R K n g cap p l wx) (o:wy.ownsRow w.heap.size 66 5 (.slice (some ⟨g,0,none⟩) n cap) n (Ag l2)) (k:wx.grownBy wy (some g)):EIn w R K n g cap p l2 wy:=h.wrote o (Kept.IL k)
end
theorem Qh {G:PG.Gr} (hG:PG.BL G) {r:Nat} (hr:r<G.rows):PG.kd (G.f r 0)≠2:=fun h=>by
 rcases(hG.2.2.2.2 r hr 0 (by have:=hG.2.2.1;omega)).2 with k | k | k
 ·have:=k.1;omega
 ·have:=k.1;omega
 ·have:=k.2.2.1;omega
section
variable {G:PG.Gr} (hG:PG.BL G) {r c n cp cap g base:Nat} {w:World}
include hG
theorem Uu (hr:r<G.rows) (hc:c<G.AB) (hn:n=G.rows*G.AB) (ho:w.ownsRow base 66 5 (.slice (some ⟨g,0,none⟩) n cap) n (Ag (PG.cells G))):
  Calls Tryz.prog 215 #[.slice (some ⟨g,r*G.AB*5,none⟩) G.AB cp,.int .i64 c] w (Wrote base g n cap w (PG.cells (PG.Dz G r (PG.parted (G.f r) c)))):=by
 have hle:r*G.AB+G.AB<=G.rows*G.AB:=by rw [<- Nat.succ_mul];exact Nat.mul_le_mul_right _ hr
 have h24:=size_le hG
 by_cases hk:PG.kd (G.f r c)=2
 ·rcases c with _ | c0
  ·exact absurd hk (Qh hG hr)
  ·have h:=TN (r*G.AB) G.AB c0 cp n cap g base (PG.cells G) (G.f r c0) (G.f r (c0+1)) w ho (by omega) (by omega) hc (PG.Cw G hr (by omega)) (PG.Cw G hr hc) hk
   rw [PG.Zc hr hc hk] at h
   exact h
 ·have h:=Wo (r*G.AB) G.AB c cp n cap g base (PG.cells G) (G.f r c) w ho (by omega) (by omega) hc (PG.Cw G hr hc) hk
  rw [PG.Wq hk] at h
  exact h
theorem iH (hr:r<G.rows) (hc:c<G.AB) (hn:n=G.rows*G.AB) (m:Int) (k:Nat) (hk:k<=G.AB-c) (hm:(m<=(G.AB:Int)-c/\m=k)\/((G.AB:Int)-c<m/\k=G.AB-c)) (p:PG.Pn) (hcp:G.AB-c<=cp) (hcm:cp<=maxLen) (ho:w.ownsRow base 66 5 (.slice (some ⟨g,0,none⟩) n cap) n (Ag (PG.cells (PG.Dz G r (PG.parted (G.f r) c))))):
  Calls Tryz.prog 208 #[.slice (some ⟨g,(r*G.AB+c)*5,none⟩) (G.AB-c) cp,.int .i64 k,pv p] w (Wrote base g n cap w (PG.cells (PG.Dz G r (PG.shifted (G.f r) G.AB c m p)))):=by
 have hle:r*G.AB+G.AB<=G.rows*G.AB:=by rw [<- Nat.succ_mul];exact Nat.mul_le_mul_right _ hr
 have h24:=size_le hG
 have h:=N7 (r*G.AB+c) (G.AB-c) k cp n cap g base _ _ p w ho rfl (by omega) (by omega) (by omega) hk hcp hcm
 rw [PG.Zd hr hc hk hm rfl] at h
 exact h
theorem iI (hr:r<G.rows) (hc:c<G.AB) (hn:n=G.rows*G.AB) (m:Int) (k:Nat) (hk:k<=G.AB-c) (hm:(m<=(G.AB:Int)-c/\m=k)\/((G.AB:Int)-c<m/\k=G.AB-c)) (p:PG.Pn) (hcp:G.AB-c<=cp) (hcm:cp<=maxLen) (ho:w.ownsRow base 66 5 (.slice (some ⟨g,0,none⟩) n cap) n (Ag (PG.cells (PG.Dz G r (PG.parted (G.f r) c))))):
  Calls Tryz.prog 146 #[.slice (some ⟨g,(r*G.AB+c)*5,none⟩) (G.AB-c) cp,.int .i64 k,pv p] w (Wrote base g n cap w (PG.cells (PG.Dz G r (PG.shifted (G.f r) G.AB c (-m) p)))):=by
 have hle:r*G.AB+G.AB<=G.rows*G.AB:=by rw [<- Nat.succ_mul];exact Nat.mul_le_mul_right _ hr
 have h24:=size_le hG
 have h:=N8 (r*G.AB+c) (G.AB-c) k cp n cap g base _ _ p w ho rfl (by omega) (by omega) (by omega) hk hcp hcm
 rw [PG.Ze hr hc hk hm rfl] at h
 exact h
theorem TP {t b:Nat} (ht:t<=b) (hb:b<G.rows) (hn:n=G.rows*G.AB) (m:Int) (hm0:0<=m) (q:Nat) (hm:(m<=(b:Int)+1-t/\m=q)\/((b:Int)+1-t<m/\q=b+1-t)) (p:PG.Pn) (hcp:(b+1-t)*G.AB<=cp) (hcm:cp<=maxLen) (ho:w.ownsRow base 66 5 (.slice (some ⟨g,0,none⟩) n cap) n (Ag (PG.cells G))):
  Calls Tryz.prog 208 #[.slice (some ⟨g,t*G.AB*5,none⟩) ((b+1-t)*G.AB) cp,.int .i64 ((q*G.AB:Nat):Int),pv p] w (Wrote base g n cap w (PG.cells (PG.Am G t b (-m) p))):=by
 have e1:t*G.AB+(b+1-t)*G.AB=(b+1)*G.AB:=by rw [<- Nat.add_mul];congr 1;omega
 have hle:(b+1)*G.AB<=G.rows*G.AB:=Nat.mul_le_mul_right _ hb
 have h24:=size_le hG
 have hp:0<(b+1-t)*G.AB:=Nat.mul_pos (by omega) hG.2.2.1
 have h:=N7 (t*G.AB) ((b+1-t)*G.AB) (q*G.AB) cp n cap g base _ _ p w ho rfl (by omega) (by omega) hp (Nat.mul_le_mul_right _ (by omega)) hcp hcm
 rw [PG.Ws ht hb hm hm0] at h
 exact h
theorem TR {t b:Nat} (ht:t<=b) (hb:b<G.rows) (hn:n=G.rows*G.AB) (m:Int) (hm0:0<=m) (q:Nat) (hm:(m<=(b:Int)+1-t/\m=q)\/((b:Int)+1-t<m/\q=b+1-t)) (p:PG.Pn) (hcp:(b+1-t)*G.AB<=cp) (hcm:cp<=maxLen) (ho:w.ownsRow base 66 5 (.slice (some ⟨g,0,none⟩) n cap) n (Ag (PG.cells G))):
  Calls Tryz.prog 146 #[.slice (some ⟨g,t*G.AB*5,none⟩) ((b+1-t)*G.AB) cp,.int .i64 ((q*G.AB:Nat):Int),pv p] w (Wrote base g n cap w (PG.cells (PG.Am G t b m p))):=by
 have e1:t*G.AB+(b+1-t)*G.AB=(b+1)*G.AB:=by rw [<- Nat.add_mul];congr 1;omega
 have hle:(b+1)*G.AB<=G.rows*G.AB:=Nat.mul_le_mul_right _ hb
 have h24:=size_le hG
 have hp:0<(b+1-t)*G.AB:=Nat.mul_pos (by omega) hG.2.2.1
 have h:=N8 (t*G.AB) ((b+1-t)*G.AB) (q*G.AB) cp n cap g base _ _ p w ho rfl (by omega) (by omega) hp (Nat.mul_le_mul_right _ (by omega)) hcp hcm
 rw [PG.Wt ht hb hm hm0] at h
 exact h
end
end Go.Proofs.YtoaabebgmdbjeaaGreatDoor
