/- A part of the proof: PenOne, PenApply. -/
import Derived.Test.YtoaabebgmdbjeaaGreatDoorSb17
set_option maxRecDepth 100000
set_option maxHeartbeats 16000000
set_option linter.unusedVariables false
namespace Go.Proofs.YtoaabebgmdbjeaaGreatDoor
open Go.RowKit
theorem Uw (c:Int) (A:Option Addr) (n cp B:Nat) (l:List Int) (w:World) (z:Int) (hz:(PS.wide l).1.getD c=z) (hA:Seen w B A n (FJ l)) (hn:n<=1048576) (hnc:n<=cp) (hl: ∀x∈l, -1<=x/\x<=9223372036854775807):
  Calls Tryz.prog 217 #[.int .i64 c,.slice A n cp] w (Hw z A n cp B l w):=by
 have hlen:l.length=n:=by have:=hA.1;simpa [FJ] using this
 by_cases h2:n<2
 ·rw [ML (by omega)] at hz
  have hz':c=z:=hz
  subst hz'
  exact Tt c A n cp B l w hA h2 hlen
 have cellAt: ∀k,k<n-> ∃ad x,A=some ad/\l[k]? =some x/\w.cell? (ad.add k)=some (.int .i64 x)/\ -1<=x/\x<=9223372036854775807:=by
  intro k hk
  obtain⟨ad,u,h1,_,h3,h4⟩:=hA.at_ hk
  unfold FJ at h3
  rw [List.getElem?_map] at h3
  obtain⟨x,hx,rfl⟩:=Option.map_eq_some_iff.1 h3
  obtain⟨y0,y1⟩:=hl x (List.mem_of_getElem? hx)
  exact⟨ad,x,h1,hx,h4,y0,y1⟩
 obtain⟨ad,x0,rfl,hx0,c0,_,_⟩:=cellAt 0 (by omega)
 have c0':w.cell? ad=some (.int .i64 x0):=c0
 have Tv: ∀k,k<n->k≠0-> ∃x,l[k]? =some x/\w.cell? ⟨ad.block,ad.off+k,none⟩=some (.int .i64 x)/\ -1<=x/\x<=9223372036854775807:=by
  intro k hk h0
  obtain⟨ad',x,h1,hx,h4,y0,y1⟩:=cellAt k hk
  cases h1
  rw [O6 ad h0] at h4
  exact⟨x,hx,h4,y0,y1⟩
 obtain⟨x1,hx1,c1,a1,b1⟩:=Tv 1 (by omega) (by decide)
 by_cases h5:x0=5
 ·subst h5
  have ha:=Jw hx1
  have hw:PS.wide l=(if PS.pos x1<=255 then some ((PS.pos x1:Nat):Int) else none,2):=by
   by_cases hb:PS.pos x1<=255
   ·rw [if_pos hb]
    exact QU (by omega) hx0 ha (by omega)
   ·rw [if_neg hb]
    exact WM (by omega) hx0 ha (by omega)
  rw [hw] at hz
  refine XD c ad n cp B _ l x1 w z hA (by omega) hn hnc (by rw [hw]) c0' c1 a1 rfl b1 ?_
  rw [<- hz]
  by_cases hb:PS.pos x1<=255
  ·rw [if_pos hb,if_pos hb]
   rfl
  ·rw [if_neg hb,if_neg hb]
   rfl
 by_cases h4:4<=n/\x0=2
 ·obtain⟨h4,rfl⟩:=h4
  obtain⟨x2,hx2,c2,a2,b2⟩:=Tv 2 (by omega) (by decide)
  obtain⟨x3,hx3,c3,a3,b3⟩:=Tv 3 (by omega) (by decide)
  have hw:=ZH (by omega) hx0 (Jw hx1) (Jw hx2) (Jw hx3)
  have hw2:(PS.wide l).2=4:=by rw [hw]
  rw [hw] at hz
  by_cases k1:PS.pos x1<=255
  ·by_cases k2:PS.pos x2<=255
   ·by_cases k3:PS.pos x3<=255
    ·rw [if_pos (by omega)] at hz
     have hz':16777216+((PS.pos x1:Nat):Int)*65536+((PS.pos x2:Nat):Int)*256+((PS.pos x3:Nat):Int)=z:=hz
     subst hz'
     exact XH c ad n cp B _ _ _ l x1 x2 x3 w hA h4 hn hnc hw2 c0' c1 c2 c3 a1 rfl b1 a2 rfl b2 a3 rfl b3 k1 k2 k3
    ·rw [if_neg (by omega)] at hz
     have hz':c=z:=hz
     subst hz'
     exact XG c ad n cp B _ _ _ l x1 x2 x3 w hA h4 hn hnc hw2 c0' c1 c2 c3 a1 rfl b1 a2 rfl b2 a3 rfl b3 k1 k2 k3
   ·rw [if_neg (by omega)] at hz
    have hz':c=z:=hz
    subst hz'
    exact XF c ad n cp B _ _ _ l x1 x2 x3 w hA h4 hn hnc hw2 c0' c1 c2 c3 a1 rfl b1 a2 rfl b2 a3 rfl b3 k1 k2
  ·rw [if_neg (by omega)] at hz
   have hz':c=z:=hz
   subst hz'
   exact XE c ad n cp B _ _ _ l x1 x2 x3 w hA h4 hn hnc hw2 c0' c1 c2 c3 a1 rfl b1 a2 rfl b2 a3 rfl b3 k1
 ·have hw:=Sm (by omega) hx0 h5 (by omega)
  rw [hw] at hz
  have hz':c=z:=hz
  subst hz'
  refine told_other c ad n cp B l x0 w (by omega) (by rw [hw]) c0' (by simpa using h5) ?_
  by_cases h:n<=3
  ·exact .inl h
  ·exact .inr ⟨by omega,by simp;omega⟩
theorem Qt (w:World):Calls Tryz.prog 53 #[] w fun e w'=>e=.returned (.agg #[.int .i64 (-1),.int .i64 (-1),.int .i64 0])/\Below w.heap.size w w':=by
 go_enter Tryz.func53,Tryz.ntmps53
 go_wp2
 exact bodyPost_ret (v:=.agg #[.int .i64 (-1),.int .i64 (-1),.int .i64 0]) (by simp [results,Tryz.results53,go_sem]) rfl ⟨rfl,(Below.refl _ _).alloc (Nat.le_refl _) _⟩
theorem pl_0 (p:PS.Pn):PS.one p 0=⟨-1, -1,0⟩:=rfl
theorem iY (p:PS.Pn) {n:Nat} (h0:n≠0) (h:n<=9):PS.one p n=⟨p.fo,p.ba,p.fl||| PS.Gh n⟩:=by
 unfold PS.one
 rw [if_neg h0,if_pos h]
theorem iZ (p:PS.Pn) {n:Nat} (h0:22<=n) (h:n<=29):PS.one p n=⟨p.fo,p.ba,p.fl&&& (255-tak n)⟩:=by
 unfold PS.one tak
 rw [if_neg (by omega),if_neg (by omega)]
 by_cases e:n=22
 ·rw [if_pos e,if_pos e]
 ·rw [if_neg e,if_neg e,if_pos (by omega)]
theorem XI (p:PS.Pn) {n:Nat} (h:(10<=n/\n<=21)\/30<=n):PS.one p n=⟨Sw p.fo n 30,Sw p.ba n 40,p.fl⟩:=by
 unfold PS.one Sw
 rw [if_neg (by omega),if_neg (by omega),if_neg (by omega),if_neg (by omega)]
 repeat' split
 all_goals first | (exfalso;omega) | rfl | (congr 1<;>omega)
theorem Mk (p:PS.Pn) (w:World):Calls Tryz.prog 218 #[Mh p,.int .i64 0] w fun e w'=>e=.returned (Mh (PS.one p 0))/\Below w.heap.size w w':=by
 rw [pl_0]
 obtain⟨fo,ba,fl⟩:=p
 simp only [Mh]
 go_enter Tryz.func218,Tryz.ntmps218
 go_wp2_with fail
 refine(Qt _).mono ?_
 rintro e w1 ⟨rfl,bb⟩
 have bx:=((Box.new (w.alloc (.cells #[.int .i64 fo,.int .i64 ba,.int .i64 (fl:Nat)] 38)) 38 #[.int .i64 0,.int .i64 0,.int .i64 0]).below bb (by simp))
 have b0:Below w.heap.size w w1:=(((Below.refl _ w).alloc (Nat.le_refl _) (.cells #[.int .i64 fo,.int .i64 ba,.int .i64 (fl:Nat)] 38)).alloc (by simp) (.cells #[.int .i64 0,.int .i64 0,.int .i64 0] 38)).trans (bb.mono (by simp;omega))
 rw [World.size_alloc] at bx
 obtain⟨k0,k1,k2,k3,k4,k5⟩:=bx.three
 clear bb
 go_wp2_with fail
 refine bodyPost_ret (v:=.agg #[.int .i64 (-1),.int .i64 (-1),.int .i64 0]) (by simp [results,Tryz.results218,go_sem,k0,k1,k2]) rfl ⟨rfl,?_⟩
 repeat(first | exact b0 | refine Below.setCell ?_ (by first | omega | (simp;done) | (simp;omega)) _)
theorem NI (fo ba:Int) (fl n:Nat) (w:World) (hp:fl<256) (h0:n≠0) (h9:n<=9) (hF:Df w):Calls Tryz.prog 218 #[.agg #[.int .i64 fo,.int .i64 ba,.int .i64 (fl:Nat)],.int .i64 (n:Nat)] w fun e w'=>e=.returned (.agg #[.int .i64 fo,.int .i64 ba,.int .i64 ((fl||| PS.Gh n:Nat):Int)])/\Below w.heap.size w w':=by
 have hfl:=PS.Oo n
 have hq:((n:Int)==0)=false:=by simp;omega
 have BX0:=((Box.new w 38 #[.int .i64 fo,.int .i64 ba,.int .i64 (fl:Nat)]).alloc (.cells #[.int .i64 0,.int .i64 0,.int .i64 0] 38))
 have BZ0:=by have h:=Box.new (w.alloc (.cells #[.int .i64 fo,.int .i64 ba,.int .i64 (fl:Nat)] 38)) 38 #[.int .i64 0,.int .i64 0,.int .i64 0];rw [World.size_alloc] at h;exact h
 have B0:=(((Below.refl _ w).alloc (Nat.le_refl _) (.cells #[.int .i64 fo,.int .i64 ba,.int .i64 (fl:Nat)] 38)).alloc (by simp) (.cells #[.int .i64 0,.int .i64 0,.int .i64 0] 38))
 have hT0:=QV (hF.keep B0) n (by omega)
 have hTN:=hide hF.lt
 have W:Hid (∀(fv:Nat),fv<256-> ∀g w',Box w' g 3 #[.int .i64 (fv:Nat)] ->Calls Tryz.prog 227 #[.agg #[.int .i64 fo,.int .i64 ba,.int .i64 (fl:Nat)],.slice (some ⟨g,0,none⟩) 1 1] w' fun e w2=>e=.returned (.agg #[.int .i64 fo,.int .i64 ba,.int .i64 ((fl||| fv:Nat):Int)])/\Below w'.heap.size w' w2):=hide fun fv hfv g w' hb=>by
  have h:=ZI fo ba (fl:Nat) (some ⟨g,0,none⟩) 1 1 [(fv:Int)] w' (Seen.RG hb rfl rfl hb.lt) (by omega)
  have e:C.ors (fl:Nat) [(fv:Int)] =((fl||| fv:Nat):Int):=O5 hp hfv
  rw [e] at h
  exact h
 have W:=hide (W.out _ hfl)
 generalize hv:PS.Gh n=fv at hT0 hfl W⊢
 have HT:=hide hT0
 clear hv hT0
 have HP:=hide BX0
 have HZ:=hide BZ0
 have BW:=hide B0
 have hwa:w.heap.size<=(((w.alloc (.cells #[.int .i64 fo,.int .i64 ba,.int .i64 (fl:Nat)] 38)).alloc (.cells #[.int .i64 0,.int .i64 0,.int .i64 0] 38))).heap.size:=B0.size
 clear BX0 BZ0 B0
 go_enter Tryz.func218,Tryz.ntmps218
 go_upto_region 4 with fail
 generalize (w.alloc (.cells #[.int .i64 fo,.int .i64 ba,.int .i64 (fl:Nat)] 38)).alloc (.cells #[.int .i64 0,.int .i64 0,.int .i64 0] 38)=wa at HP HZ BW HT hwa⊢
 have HN:=hide hwa
 clear hwa
 go_cut [] from 9 to 21 (fun wx=>Box wx (w.heap.size+1) 38 #[.int .i64 fo,.int .i64 ba,.int .i64 ((fl||| fv:Nat):Int)] /\Below w.heap.size w wx)
 case first=>
  refine EI (n:=47) [some (w.heap.size+1)] (fun _=> #[.int .i64 0,.int .i64 0,.int .i64 0]) [(0,0,0,0,0),(0,0,0,0,0),(0,0,0,0,0),(0,0,0,0,0),(1,0,0,0,0),(0,0,0,0,0),(4,0,5,38,3)] (fun j=> [(.agg #[.int .i64 fo,.int .i64 ba,.int .i64 (fl:Nat)]),(.int .i64 (n:Nat)),(.pointer (some ⟨6,n,none⟩)),(.int .i64 (fv:Nat)),undef,(.agg #[.int .i64 fo,.int .i64 ba,.int .i64 ((fl||| fv:Nat):Int)]),undef].getD j undef) [none,none,none,none,some (VT 3 1 #[.int .i64 (fv:Nat)])] (fun _=>(w.heap.size+1)) (by kernel_rfl) (by kernel_rfl) (by kernel_rfl) rfl (by kernel_rfl) (ko (k:=6) rfl ⟨by simp,rfl,HZ.out⟩) (fQ (k:=6) rfl) (Aj.none_ (Aj.none_ (Aj.none_ (Aj.none_ (Aj.some_ (VT.stays (by kernel_rfl)) (Aj.nil _)))))) (fun hGS=>La ⟨?_,?_,?_,?_,?_,?_,?_⟩) ?_
  ·intro L a w' hL hsame hsz hJ AJ hcl
   have hx:=hJ.Ah (HP.out) (by simp;try omega)
   have q0:w'.cell? ⟨w.heap.size,0,none⟩=some (.int .i64 fo):=hx.cell 0
   have q1:w'.cell? ⟨w.heap.size,1,none⟩=some (.int .i64 ba):=hx.cell 1
   have q2:w'.cell? ⟨w.heap.size,2,none⟩=some (.int .i64 (fl:Nat)):=hx.cell 2
   refine BG hJ hGS hcl hL 2 (.pointer (some ⟨w.heap.size,0,none⟩)) (.agg #[.int .i64 fo,.int .i64 ba,.int .i64 (fl:Nat)]) (AY hsame (by kernel_rfl)) _ rfl rfl rfl rfl rfl fun ρ _ e0=>?_
   clear hJ hsame AJ hcl hsz hx
   go_simp
  ·intro L a w' hL hsame hsz hJ AJ hcl
   refine BG hJ hGS hcl hL 1 (.int .i64 (n:Nat)) (.int .i64 (n:Nat)) (AY hsame (by kernel_rfl)) _ rfl rfl rfl rfl rfl fun ρ _ e0=>?_
   clear hJ hsame AJ hcl hsz
   go_simp
  ·intro L a w' hL hsame hsz hJ AJ hcl
   have hb:=hJ.kept.toBelow (B:=w.heap.size) HN.out (fun k hk=>by simp at hk;omega)
   have e0:a.eval (.tmp 17)=(.int .i64 (n:Nat)):=AU (j:=1) (by kernel_rfl) (hJ.valOf (by decide) (AZ AJ 1 (by kernel_rfl)) rfl rfl)
   refine Step.val _ rfl rfl (AV rfl) (.pointer (some ⟨6,n,none⟩)) w' (fun ρ hρ=>?_) (hJ.val hGS hcl hL rfl (Below.refl _ _) _ rfl)
   rw [hρ] at e0
   have eg:ρ (.global 6)=.pointer (some ⟨6,0,none⟩):=(hρ _).symm
   clear hJ hsame AJ hcl hρ hsz hb
   go_simp
   try(intro h;omega)
   try omega
  ·intro L a w' hL hsame hsz hJ AJ hcl
   have hb:=hJ.kept.toBelow (B:=w.heap.size) HN.out (fun k hk=>by simp at hk;omega)
   have e0:a.eval (.tmp 18)=(.pointer (some ⟨6,n,none⟩)):=AU (j:=2) (by kernel_rfl) (hJ.valOf (by decide) (AZ AJ 2 (by kernel_rfl)) rfl rfl)
   refine Step.val _ rfl rfl (AV rfl) (.int .i64 (fv:Nat)) w' (fun ρ hρ=>?_) (hJ.val hGS hcl hL rfl (Below.refl _ _) _ rfl)
   rw [hρ] at e0
   have hc0:=(hb.cell (p:=⟨6,n,none⟩) hTN.out).trans HT.out
   clear hJ hsame AJ hcl hρ hsz hb
   go_simp
  ·intro L a w' hL hsame hsz hJ AJ hcl
   have hb:=hJ.kept.toBelow (B:=w.heap.size) HN.out (fun k hk=>by simp at hk;omega)
   have e0:a.eval (.tmp 19)=(.int .i64 (fv:Nat)):=AU (j:=3) (by kernel_rfl) (hJ.valOf (by decide) (AZ AJ 3 (by kernel_rfl)) rfl rfl)
   refine Step.val _ rfl rfl (AV rfl) (.slice (some ⟨w'.heap.size,0,none⟩) 1 1) (w'.alloc (.cells #[.int .i64 (fv:Nat)] 3)) (fun ρ hρ=>?_) (hJ.pred hGS hcl hL rfl ((Below.refl _ _).alloc (Nat.le_refl _) _) _ (⟨_,rfl,Box.new w' _ _⟩))
   rw [hρ] at e0
   clear hJ hsame AJ hcl hρ hsz hb
   go_simp
  ·intro L a w' hL hsame hsz hJ AJ hcl
   have hb:=hJ.kept.toBelow (B:=w.heap.size) HN.out (fun k hk=>by simp at hk;omega)
   have e0:a.eval (.tmp 16)=(.agg #[.int .i64 fo,.int .i64 ba,.int .i64 (fl:Nat)]):=AU (j:=0) (by kernel_rfl) (hJ.valOf (by decide) (AZ AJ 0 (by kernel_rfl)) rfl rfl)
   obtain⟨g4,hv4,hs4⟩:=(show(VT 3 1 #[.int .i64 (fv:Nat)]) (valOf _ 4 a) w' from hJ.Cy (by decide) (AZ AJ 4 (by kernel_rfl)) rfl)
   have e1:a.eval (.tmp 20)=.slice (some ⟨g4,0,none⟩) 1 1:=AU (j:=4) (by kernel_rfl) hv4
   refine Step.call _ rfl rfl (AV rfl) 227 #[.agg #[.int .i64 fo,.int .i64 ba,.int .i64 (fl:Nat)],.slice (some ⟨g4,0,none⟩) 1 1] (fun ρ hρ=>?_) ?_
   ·skip
    rw [hρ] at e0 e1
    have ef:ρ (.func 227)=.func (.func 227) #[] #[] :=(hρ _).symm
    clear hJ hsame AJ hcl hρ hsz hb
    go_simp
   ·refine(W.out g4 _ hs4).mono ?_
    rintro e w2 ⟨rfl,bb⟩
    exact⟨_,rfl,hJ.val hGS hcl hL rfl bb _ rfl⟩
  ·intro L a w' hL hsame hsz hJ AJ hcl
   have hb:=hJ.kept.toBelow (B:=w.heap.size) HN.out (fun k hk=>by simp at hk;omega)
   have hsv:=hJ.valOf (j:=5) (by decide) (AZ AJ 5 (by kernel_rfl)) rfl rfl
   have es:a.eval (.tmp 21)=(.agg #[.int .i64 fo,.int .i64 ba,.int .i64 ((fl||| fv:Nat):Int)]):=AU (j:=5) (by kernel_rfl) hsv
   have hx:Box w' (w.heap.size+1) 38 #[.int .i64 0,.int .i64 0,.int .i64 0] :=hJ.old 6 rfl hL
   have hs:(#[.int .i64 0,.int .i64 0,.int .i64 0] :Array Value).size=3:=rfl
   have ea:a.eval (.tmp 4)=.pointer (some ⟨(w.heap.size+1),0,none⟩):=AY hsame (by kernel_rfl)
   obtain⟨m0,hm0⟩: ∃m,w'.cell? ⟨(w.heap.size+1),0,none⟩=some m:=⟨_,(hx.cell 0).trans (Array.getElem?_eq_getElem (by rw [hs];decide))⟩
   have hf0:=hx.frozen 0
   obtain⟨m1,hm1⟩: ∃m,w'.cell? ⟨(w.heap.size+1),1,none⟩=some m:=⟨_,(hx.cell 1).trans (Array.getElem?_eq_getElem (by rw [hs];decide))⟩
   have hf1:=hx.frozen 1
   obtain⟨m2,hm2⟩: ∃m,w'.cell? ⟨(w.heap.size+1),2,none⟩=some m:=⟨_,(hx.cell 2).trans (Array.getElem?_eq_getElem (by rw [hs];decide))⟩
   have hf2:=hx.frozen 2
   refine Step.skip _ rfl (AV rfl) (Gu w' (w.heap.size+1) 0 [.int .i64 fo,.int .i64 ba,.int .i64 ((fl||| fv:Nat):Int)]) (fun ρ hρ=>?_) (hJ.set hGS hcl hL rfl (AZ AJ 5 (by kernel_rfl)) rfl hsv)
   rw [hρ] at es ea
   clear hJ hsame AJ hcl hρ hsz hb hsv hx hs
   simp only [Gu]
   go_simp
  ·intro u w' hF
   change Exit.then _ _ Exit.normal (Act.put (Act.put (Act.put (Act.put (Act.put (Act.put (Act.put (Az _ u 0 _) (some 16) (u 0)) (some 17) (u 1)) (some 18) (u 2)) (some 19) (u 3)) (some 20) (u 4)) (some 21) (u 5)) none (u 6)) _
   simp only [Az]
   have hx:=hF.fin4 (j:=6) (v:=5) (by decide) rfl rfl (by decide) rfl (cs:= #[.int .i64 fo,.int .i64 ba,.int .i64 ((fl||| fv:Nat):Int)]) rfl
   have hk:=hF.kept.toBelow (B:=w.heap.size) HN.out (fun k hk=>by simp at hk;omega)
   clear hF
   generalize u 0=z0
   generalize u 1=z1
   generalize u 2=z2
   generalize u 3=z3
   generalize u 4=z4
   generalize u 5=z5
   generalize u 6=z6
   go_simp
   go_step
   go_meet
   exact⟨hx,BW.out.trans hk⟩
 case rest=>
  obtain⟨hx,hb⟩:=hcut
  obtain⟨k0,k1,k2,k3,k4,k5⟩:=hx.three
  go_wp2_with fail
  exact bodyPost_ret (v:=.agg #[.int .i64 fo,.int .i64 ba,.int .i64 ((fl||| fv:Nat):Int)]) (by simp [results,Tryz.results218,go_sem,k0,k1,k2]) rfl ⟨rfl,hb⟩
theorem NJ (fo ba:Int) (fl n:Nat) (w:World) (hp:fl<256) (h0:22<=n) (h9:n<=29) (hF:Df w):Calls Tryz.prog 218 #[.agg #[.int .i64 fo,.int .i64 ba,.int .i64 (fl:Nat)],.int .i64 (n:Nat)] w fun e w'=>e=.returned (.agg #[.int .i64 fo,.int .i64 ba,.int .i64 ((fl&&& (255-tak n):Nat):Int)])/\Below w.heap.size w w':=by
 have hq:((n:Int)==0)=false:=by simp;omega
 have BX0:=((Box.new w 38 #[.int .i64 fo,.int .i64 ba,.int .i64 (fl:Nat)]).alloc (.cells #[.int .i64 0,.int .i64 0,.int .i64 0] 38))
 have BZ0:=by have h:=Box.new (w.alloc (.cells #[.int .i64 fo,.int .i64 ba,.int .i64 (fl:Nat)] 38)) 38 #[.int .i64 0,.int .i64 0,.int .i64 0];rw [World.size_alloc] at h;exact h
 have B0:=(((Below.refl _ w).alloc (Nat.le_refl _) (.cells #[.int .i64 fo,.int .i64 ba,.int .i64 (fl:Nat)] 38)).alloc (by simp) (.cells #[.int .i64 0,.int .i64 0,.int .i64 0] 38))
 have hFT:=hide (hF.keep B0)
 have hTN:=hide hF.lt
 have HFV:=hide (l6 n)
 have TK:=hide (fun w' h=>Sy n _ rfl h0 h9 w' h)
 have HFL:=hide hp
 generalize tak n=fv at HFV TK⊢
 have HP:=hide BX0
 have HZ:=hide BZ0
 have BW:=hide B0
 have hwa:w.heap.size<=(((w.alloc (.cells #[.int .i64 fo,.int .i64 ba,.int .i64 (fl:Nat)] 38)).alloc (.cells #[.int .i64 0,.int .i64 0,.int .i64 0] 38))).heap.size:=B0.size
 clear BX0 BZ0 B0 hp
 go_enter Tryz.func218,Tryz.ntmps218
 go_upto_region 6 with fail
 generalize (w.alloc (.cells #[.int .i64 fo,.int .i64 ba,.int .i64 (fl:Nat)] 38)).alloc (.cells #[.int .i64 0,.int .i64 0,.int .i64 0] 38)=wa at HP HZ BW hFT hwa⊢
 have HN:=hide hwa
 clear hwa
 go_cut [] from 9 to 34 (fun wx=>Box wx w.heap.size 38 #[.int .i64 fo,.int .i64 ba,.int .i64 ((fl&&& (255-fv):Nat):Int)] /\Box wx (w.heap.size+1) 38 #[.int .i64 0,.int .i64 0,.int .i64 0] /\Below w.heap.size w wx)
 case first=>
  have FK:Hid (Df wa.drew):=hide hFT.out
  obtain⟨k0,k1,k2,k3,k4,k5⟩:=HP.out.three
  have hand:=hide (Mi HFL.out HFV.out)
  go_region_with (first | (go_at_call 228;refine(TK.out _ (FK.out)).mono ?_;rintro e w' ⟨rfl,rfl⟩))
  all_goals
   have hx:Box (wa.setCell ⟨w.heap.size,2,none⟩ (.int .i64 ((fl&&& (255-fv):Nat):Int))) w.heap.size 38 #[.int .i64 fo,.int .i64 ba,.int .i64 ((fl&&& (255-fv):Nat):Int)] :=HP.out.set 2 _
   have hz:=HZ.out.far (p:=⟨w.heap.size,2,none⟩) (by simp) (.int .i64 ((fl&&& (255-fv):Nat):Int))
   have hb:=BW.out.setCell (p:=⟨w.heap.size,2,none⟩) (Nat.le_refl _) (.int .i64 ((fl&&& (255-fv):Nat):Int))
   rw [hand.out]
   go_wp2_with fail
   go_meet
   exact⟨hx.drewN 1,hz.drewN 1,below_drewN hb 1⟩
 case rest=>
  obtain⟨hx,hz,hb⟩:=hcut
  obtain⟨k0,k1,k2,k3,k4,k5⟩:=hx.three
  obtain⟨j0,j1,j2,j3,j4,j5⟩:=hz.three
  go_wp2_with fail
  refine bodyPost_ret (v:=.agg #[.int .i64 fo,.int .i64 ba,.int .i64 ((fl&&& (255-fv):Nat):Int)]) (by simp [results,Tryz.results218,go_sem,j0,j1,j2]) rfl ⟨rfl,?_⟩
  repeat(first | exact hb | refine Below.setCell ?_ (by first | omega | (simp;done) | (simp;omega)) _)
theorem Kz (fo ba f1 b1:Int) (fl n:Nat) (w:World) (hf:Sw fo n 30=f1) (hb:Sw ba n 40=b1) (hn:n<=9223372036854775807) (h:(10<=n/\n<=21)\/30<=n):Calls Tryz.prog 218 #[.agg #[.int .i64 fo,.int .i64 ba,.int .i64 (fl:Nat)],.int .i64 (n:Nat)] w fun e w'=>e=.returned (.agg #[.int .i64 f1,.int .i64 b1,.int .i64 (fl:Nat)])/\Below w.heap.size w w':=by
 have C1:=hide (fun w'=>MN fo n 30 (.inl rfl) hn f1 hf w')
 have C2:=hide (fun w'=>MN ba n 40 (.inr rfl) hn b1 hb w')
 have hq:((n:Int)==0)=false:=by simp;omega
 clear hf hb
 rcases h with ⟨h,h'⟩ | h
 all_goals
  go_enter Tryz.func218,Tryz.ntmps218
  go_wp2_with fail
  refine(C1.out _).mono ?_
  rintro e w' ⟨rfl,rfl⟩
  go_wp2_with fail
  refine(C2.out _).mono ?_
  rintro e w' ⟨rfl,rfl⟩
  go_wp2_with fail
  refine bodyPost_ret (v:=.agg #[.int .i64 f1,.int .i64 b1,.int .i64 (fl:Nat)]) (by simp [results,Tryz.results218,go_sem]) rfl ⟨rfl,?_⟩
  repeat(first | exact Below.refl _ _ | refine Below.setCell ?_ (by first | omega | (simp;done) | (simp;omega)) _ | refine Below.alloc ?_ (by first | omega | (simp;done) | (simp;omega)) _)
theorem Qu (p q:PS.Pn) (n:Nat) (hq:PS.one p n=q) (hn:n<=9223372036854775807) (hp:PS.Ok p) (w:World) (hF:Df w):Calls Tryz.prog 218 #[Mh p,.int .i64 (n:Nat)] w fun e w'=>e=.returned (Mh q)/\Below w.heap.size w w':=by
 subst hq
 by_cases h0:n=0
 ·subst h0
  exact Mk p w
 by_cases h1:n<=9
 ·rw [iY p h0 h1]
  exact NI p.fo p.ba p.fl n w hp h0 h1 hF
 by_cases h2:22<=n/\n<=29
 ·rw [iZ p h2.1 h2.2]
  exact NJ p.fo p.ba p.fl n w hp h2.1 h2.2 hF
 ·have hc:(10<=n/\n<=21)\/30<=n:=by omega
  rw [XI p hc]
  exact Kz p.fo p.ba _ _ p.fl n w rfl rfl hn hc
end Go.Proofs.YtoaabebgmdbjeaaGreatDoor
namespace Go.Proofs.YtoaabebgmdbjeaaGreatDoor
open Go.RowKit
def ig:Value->Nat
 | .slice _ n _=>n
 | _=>0
theorem Seen.inn {w:World} {B:Nat} {A:Option Addr} {n:Nat} {xs:List Value} (h:Seen w B A n xs):Seen w w.heap.size A n xs:=
 ⟨h.1,fun j u hu=>by
  obtain⟨ad,h1,_,h3⟩:=h.2 j u hu
  have:=World.block_lt_of_cell? w _ h3
  rw [addBlock] at this
  exact⟨ad,h1,this,h3⟩⟩
theorem XJ (p:PS.Pn) (o:Option Int):PS.SE p o=⟨o.getD p.fo,p.ba,p.fl⟩:=by
 cases o<;>rfl
theorem XK (p:PS.Pn) (o:Option Int):PS.back p o=⟨p.fo,o.getD p.ba,p.fl⟩:=by
 cases o<;>rfl
theorem XL (p z:PS.Pn) (A:Option Addr) (n c B:Nat) (l:List Int) (hz:PS.apply p l=z) (w:World) (hp:PS.Ok p) (hA:Seen w B A n (FJ l)) (hn:n<=1048576) (hnc:n<=c) (hl: ∀x∈l, -1<=x/\x<=9223372036854775807) (hF:Df w):
  Calls Tryz.prog 210 #[Mh p,.slice A n c] w fun e w'=>e=.returned (Mh z)/\Below w.heap.size w w':=by
 have hA:=hA.inn
 have hlen:l.length=n:=by have:=hA.1;simpa [FJ] using this
 obtain⟨fo,ba,fl⟩:=p
 have B0:=(((Below.refl _ w).alloc (Nat.le_refl _) (.cells #[.int .i64 fo,.int .i64 ba,.int .i64 (fl:Nat)] 38)).alloc (by simp) (.cells #[.int .i64 0,.int .i64 0,.int .i64 0] 38))
 have BP:=((Box.new w 38 #[.int .i64 fo,.int .i64 ba,.int .i64 (fl:Nat)]).alloc (.cells #[.int .i64 0,.int .i64 0,.int .i64 0] 38))
 have BZ:=by have h:=Box.new (w.alloc (.cells #[.int .i64 fo,.int .i64 ba,.int .i64 (fl:Nat)] 38)) 38 #[.int .i64 0,.int .i64 0,.int .i64 0];rw [World.size_alloc] at h;exact h
 have hFw:=hF.keep B0
 by_cases h0:n=0
 ·subst h0
  have:l= [] :=List.eq_nil_of_length_eq_zero hlen
  subst this
  have hz':(⟨-1, -1,0⟩:PS.Pn)=z:=hz
  subst hz'
  clear hA hlen hz hFw BP hnc hn hl
  have HB:=hide B0
  have HZ:=hide BZ
  clear B0 BZ
  simp only [Mh]
  go_enter Tryz.func210,Tryz.ntmps210
  go_wp2_with fail
  refine(Qt _).mono ?_
  rintro e w1 ⟨rfl,bb⟩
  have bx:=HZ.out.below bb (by simp)
  have b0:=HB.out.trans (bb.mono HB.out.size)
  obtain⟨k0,k1,k2,k3,k4,k5⟩:=bx.three
  clear bb
  go_wp2_with fail
  refine bodyPost_ret (v:=.agg #[.int .i64 (-1),.int .i64 (-1),.int .i64 0]) (by simp [results,Tryz.results210,go_sem,k0,k1,k2]) rfl ⟨rfl,?_⟩
  repeat(first | exact b0 | refine Below.setCell ?_ (by first | omega | (simp;done) | (simp;omega)) _)
 ·have hz':PS.sgr ⟨fo,ba,fl⟩ l=z:=by
   rw [<- hz]
   unfold PS.apply
   rw [if_neg]
   intro h
   rw [h] at hlen
   simp at hlen
   omega
  have hq:((n:Int)==0)=false:=by simp;omega
  have HB:=hide B0
  have HP:=hide BP
  have HZ:=hide BZ
  have HA:=hide (hA.below B0)
  have HF:=hide hFw
  have HE:=hide hz'
  have HBD:=hide hl
  have HOK:=hide (show PS.Ok ⟨fo,ba,fl⟩ from hp)
  have HTN:=hide hF.lt
  have HFW:=hide hF
  clear hA hlen hz hz' hFw BP BZ B0 hl hp hF
  simp only [Mh]
  go_enter Tryz.func210,Tryz.ntmps210
  go_wp2_with fail
  go_loopw [1] (fun s wr=> ∃(A:Option Addr) (n cp:Nat) (l:List Int) (p:PS.Pn),s=.slice A n cp/\n<=1048576/\n<=cp/\Hid (Seen wr w.heap.size A n (FJ l))/\Hid (∀x∈l, -1<=x/\x<=9223372036854775807)/\Hid (Box wr w.heap.size 38 (qh p))/\Hid (Box wr (w.heap.size+1) 38 #[.int .i64 0,.int .i64 0,.int .i64 0])/\Hid (PS.Ok p)/\Hid (PS.sgr p l=z)/\Below w.heap.size w wr) (fun s _=>ig s)
  case atStart=>exact⟨A,n,c,l,⟨fo,ba,fl⟩,rfl,hn,hnc,HA,HBD,HP,HZ,HOK,HE,HB.out⟩
  case round=>
   obtain⟨A,n,cp,l,p,rfl,hn,hnc,hA,hbd,hP,hZ,hok,hE,hB⟩:=hrel
   obtain⟨fo,ba,fl⟩:=p
   simp only [qh] at hP
   clear HA HBD HP HZ HOK HE HF
   obtain⟨k0,k1,k2,k3,k4,k5⟩:=hP.out.three
   by_cases hpos:0<n
   ·obtain⟨ad,u,rfl,_,hu,hc⟩:=hA.out.at_ hpos
    rcases l with _ | ⟨x,r⟩
    ·simp [FJ] at hu
    have hu':Value.int .i64 x=u:=by simpa [FJ] using hu
    subst hu'
    have c0:wr.cell? ad=some (.int .i64 x):=hc
    obtain⟨x0,x1⟩:=hbd.out x (by simp)
    obtain⟨m,hm⟩: ∃m,PS.pos x=m:=⟨_,rfl⟩
    have M:=hide (fun w'=>Da x m hm x0 w')
    have hm1:m<=9223372036854775807:=by unfold PS.pos at hm;omega
    have BR:=hide (show∀y∈r, -1<=y/\y<=9223372036854775807 from fun y hy=>hbd.out y (by simp [hy]))
    have SD:=hide (show Seen wr w.heap.size (if cp=1 then some ad else some (ad.add 1)) (n-1) (FJ r) from hA.out.drop (k:=1) (by omega) hnc)
    clear hu hc hbd
    go_upto_region 5 with (first | (refine(M.out _).mono ?_;rintro e w' ⟨rfl,rfl⟩))
    go_cut [1] from 17 to 18 (fun u wx=>(∃A1 c1,u=.slice A1 (n-1) c1/\n-1<=c1/\Seen wr w.heap.size A1 (n-1) (FJ r))/\wx=wr)
    case first=>
     by_cases h1:cp=1
     ·have S:=SD.out
      rw [if_pos h1] at S
      go_wp2_with fail
      go_meet
      exact⟨⟨_,_,rfl,by omega,S⟩,rfl⟩
     ·have S:=SD.out
      rw [if_neg h1,O6 ad (by decide)] at S
      go_wp2_with fail
      go_meet
      exact⟨⟨_,_,rfl,by omega,S⟩,rfl⟩
    case rest=>
     obtain⟨⟨A1,c1,rfl,hc1,s1⟩,rfl⟩:=hcut
     have S1:=hide s1
     clear s1 SD hA
     by_cases h38:m=38
     ·have q38:((m:Int)==38)=true:=by simp;omega
      obtain⟨zc,hzc⟩: ∃zc,(PS.wide r).1.getD fo=zc:=⟨_,rfl⟩
      have E2:=hide (show PS.sgr ⟨(PS.wide r).1.getD fo,ba,fl⟩ (r.drop (PS.wide r).2)=z by
       rw [<- hE.out,PS.Yy (hm.trans h38),XJ])
      have OK2:=hide (show PS.Ok ⟨(PS.wide r).1.getD fo,ba,fl⟩ from hok.out)
      rw [hzc] at E2 OK2
      have T:=hide (fun w' h=>Uw fo A1 (n-1) c1 w.heap.size r w' zc hzc h (by omega) hc1 BR.out)
      clear hzc hE
      go_wp2_with fail
      refine(T.out _ S1.out).mono ?_
      rintro e w2 ⟨⟨mm,hw2⟩,A2,n2,c2,rfl,hs2,hc2,hn2⟩
      have P2:Box w2 w.heap.size 38 #[.int .i64 fo,.int .i64 ba,.int .i64 (fl:Nat)] :=by rw [hw2];exact hP.out.drewN mm
      have Z2:Box w2 (w.heap.size+1) 38 #[.int .i64 0,.int .i64 0,.int .i64 0] :=by rw [hw2];exact hZ.out.drewN mm
      have B2:Below w.heap.size w w2:=by rw [hw2];exact⟨hB.os,hB.tape,hB.output,hB.size,hB.block⟩
      have S2:Seen w2 w.heap.size A2 n2 (FJ (r.drop (PS.wide r).2)):=by rw [hw2];exact hs2.drewN mm
      have P3:Box (w2.setCell ⟨w.heap.size,0,none⟩ (.int .i64 zc)) w.heap.size 38 #[.int .i64 zc,.int .i64 ba,.int .i64 (fl:Nat)] :=P2.set 0 _
      have Z3:=Z2.far (p:=⟨w.heap.size,0,none⟩) (by simp) (.int .i64 zc)
      have B3:=B2.setCell (p:=⟨w.heap.size,0,none⟩) (Nat.le_refl _) (.int .i64 zc)
      have S3:=S2.below ((Below.refl w.heap.size w2).setCell (p:=⟨w.heap.size,0,none⟩) (Nat.le_refl _) (.int .i64 zc))
      obtain⟨p0,p1,p2,p3,p4,p5⟩:=P2.three
      clear hw2 hs2 k0 k1 k2 k3 k4 k5
      go_wp2_with fail
      go_roundw
      case rel=>exact⟨A2,n2,c2,_,⟨zc,ba,fl⟩,rfl,by omega,hc2,hide S3,hide (fun x hx=>BR.out x (List.mem_of_mem_drop hx)),hide P3,hide Z3,OK2,E2,B3⟩
      case measure=>simp only [ig];omega
     have q38:((m:Int)==38)=false:=by simp;omega
     by_cases h48:m=48
     ·have q48:((m:Int)==48)=true:=by simp;omega
      obtain⟨zc,hzc⟩: ∃zc,(PS.wide r).1.getD ba=zc:=⟨_,rfl⟩
      have E2:=hide (show PS.sgr ⟨fo,(PS.wide r).1.getD ba,fl⟩ (r.drop (PS.wide r).2)=z by
       rw [<- hE.out,PS.Yz (hm.trans h48),XK])
      have OK2:=hide (show PS.Ok ⟨fo,(PS.wide r).1.getD ba,fl⟩ from hok.out)
      rw [hzc] at E2 OK2
      have T:=hide (fun w' h=>Uw ba A1 (n-1) c1 w.heap.size r w' zc hzc h (by omega) hc1 BR.out)
      clear hzc hE
      go_wp2_with fail
      refine(T.out _ S1.out).mono ?_
      rintro e w2 ⟨⟨mm,hw2⟩,A2,n2,c2,rfl,hs2,hc2,hn2⟩
      have P2:Box w2 w.heap.size 38 #[.int .i64 fo,.int .i64 ba,.int .i64 (fl:Nat)] :=by rw [hw2];exact hP.out.drewN mm
      have Z2:Box w2 (w.heap.size+1) 38 #[.int .i64 0,.int .i64 0,.int .i64 0] :=by rw [hw2];exact hZ.out.drewN mm
      have B2:Below w.heap.size w w2:=by rw [hw2];exact⟨hB.os,hB.tape,hB.output,hB.size,hB.block⟩
      have S2:Seen w2 w.heap.size A2 n2 (FJ (r.drop (PS.wide r).2)):=by rw [hw2];exact hs2.drewN mm
      have P3:Box (w2.setCell ⟨w.heap.size,1,none⟩ (.int .i64 zc)) w.heap.size 38 #[.int .i64 fo,.int .i64 zc,.int .i64 (fl:Nat)] :=P2.set 1 _
      have Z3:=Z2.far (p:=⟨w.heap.size,1,none⟩) (by simp) (.int .i64 zc)
      have B3:=B2.setCell (p:=⟨w.heap.size,1,none⟩) (Nat.le_refl _) (.int .i64 zc)
      have S3:=S2.below ((Below.refl w.heap.size w2).setCell (p:=⟨w.heap.size,1,none⟩) (Nat.le_refl _) (.int .i64 zc))
      obtain⟨p0,p1,p2,p3,p4,p5⟩:=P2.three
      clear hw2 hs2 k0 k1 k2 k3 k4 k5
      go_wp2_with fail
      go_roundw
      case rel=>exact⟨A2,n2,c2,_,⟨fo,zc,fl⟩,rfl,by omega,hc2,hide S3,hide (fun x hx=>BR.out x (List.mem_of_mem_drop hx)),hide P3,hide Z3,OK2,E2,B3⟩
      case measure=>simp only [ig];omega
     have q48:((m:Int)==48)=false:=by simp;omega
     obtain⟨q,hq'⟩: ∃q,PS.one ⟨fo,ba,fl⟩ m=q:=⟨_,rfl⟩
     have E2:=hide (show PS.sgr q r=z by
      rw [<- hE.out,PS.gT (by omega) (by omega),hm,hq'])
     have OK2:=hide (show PS.Ok q by rw [<- hq'];exact PS.Yw hok.out m)
     have AO:=hide (fun w' h=>Qu ⟨fo,ba,fl⟩ q m hq' hm1 hok.out w' h)
     obtain⟨f1,b1,g1⟩:=q
     simp only [Mh] at AO
     have FW:=hide (HFW.out.kept hB (by exact HTN.out))
     clear hq' hE
     go_wp2_with fail
     refine(AO.out _ FW.out).mono ?_
     rintro e w2 ⟨rfl,bb⟩
     have P2:=hP.out.below bb hP.out.lt
     have Z2:=hZ.out.below bb hZ.out.lt
     have B2:=hB.trans (bb.mono hB.size)
     have S2:=S1.out.below (bb.mono hB.size)
     have P3:=hide (P2.Cu (.int .i64 f1) (.int .i64 b1) (.int .i64 (g1:Nat)))
     have Z3:=hide (Z2.E9 (g':=w.heap.size) (by simp) (.int .i64 f1) (.int .i64 b1) (.int .i64 (g1:Nat)))
     have B3:=BN B2 (Nat.le_refl w.heap.size) (.int .i64 f1) (.int .i64 b1) (.int .i64 (g1:Nat))
     have S3:=hide (S2.below (BN (Below.refl w.heap.size w2) (Nat.le_refl w.heap.size) (.int .i64 f1) (.int .i64 b1) (.int .i64 (g1:Nat))))
     obtain⟨p0,p1,p2,p3,p4,p5⟩:=P2.three
     clear bb k0 k1 k2 k3 k4 k5
     go_wp2_with fail
     go_roundw
     case rel=>exact⟨A1,n-1,c1,r,⟨f1,b1,g1⟩,rfl,by omega,hc1,S3,BR,P3,Z3,OK2,E2,B3⟩
     case measure=>simp only [ig];omega
   ·have e0:l= [] :=by
     have:=hA.out.1
     exact List.eq_nil_of_length_eq_zero (by simp [FJ] at this;omega)
    subst e0
    have hz:(⟨fo,ba,fl⟩:PS.Pn)=z:=hE.out
    subst hz
    obtain⟨j0,j1,j2,j3,j4,j5⟩:=hZ.out.three
    clear hA
    go_wp2_with fail
    refine bodyPost_ret (v:=.agg #[.int .i64 fo,.int .i64 ba,.int .i64 (fl:Nat)]) (by simp [results,Tryz.results210,go_sem,j0,j1,j2]) rfl ⟨rfl,?_⟩
    repeat(first | exact hB | refine Below.setCell ?_ (by first | omega | (simp;done) | (simp;omega)) _)
end Go.Proofs.YtoaabebgmdbjeaaGreatDoor
