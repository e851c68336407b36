/- Package edit's inRow: a row's cells moved. Package edit's ofRows: rows moved. What package edit's functions make, told of plain grids. Package edit's Line and Erase, told of plain grids. Package edit's Erase, told of plain grids; Line's and Erase's words for the laws. What package edit's Line and Erase make, told of plain grids, for the laws (Insert, Delete, Up, Down: EditMany). -/
import Derived.Test.YtoaabebgmdbjeaaGreatDoorSb13
set_option maxRecDepth 100000
set_option maxHeartbeats 16000000
set_option linter.unusedVariables false
namespace Go.Proofs.YtoaabebgmdbjeaaGreatDoor
open Go.RowKit
theorem T14_1 {P:Prop} (h:P:=by
 have H:=hide hcut
 have HSN: ∀wx (l:List PG.Cl),l.length=n->EIn w G.rows G.AB n g cap p l wx->Au wx wx.heap.size (some ⟨g,z*5,none⟩) G.AB ((l.drop z).take G.AB):=fun wx l hln he=>by
  have S:=((Au.Bu he.2.2.2.1).drop (k:=z) (cap:=n+1) (by omega) (by omega))
  rw [if_neg (by omega)] at S
  have S2:=S.take (k:=G.AB) (by omega)
  simpa [Option.map,add0] using S2
 have HSN:=hide HSN
 have HLR:=hide (show(Dn ((l2.drop z).take G.AB)).length=G.AB by rw [Ed,List.length_take,List.length_drop,HL2.out];omega)
 clear hcut
 go_upto_region 8 with (first
  | (go_at_call 114
     go_must (refine(Gz G.AB (cap-z) _ _ _ _ (HSN.out _ l2 HL2.out H.out) (Nat.le_refl _) (by omega)).mono ?_)
     rintro e w5 ⟨g5,rfl,o5,b5⟩
     have H:=hide (H.out.call b5)
     have S5:=hide (Au.Bu o5)
     clear o5 b5)
  | ((with_reducible refine Hu (o:=⟨some 45,_,_,_,_,_⟩) ?_)
     go_must (refine Ck rfl (.tmp 42) (.tmp 44) 35 35 rfl 66 i0 Tryz.underlying35 hi hz1 w.heap.size 66 g _ z n cap _ _ l2 rfl H.out.2.2.2.1 rfl (some ⟨g5,0,none⟩) _ _ _ G.AB (Dn ((l2.drop z).take G.AB)) rfl (Nat.min_self _) S5.out (by omega) ?_)
     intro w6 o6 hg6
     have H:=(H.out.grown o6 hg6)
     rw [MW.out] at H
     obtain⟨a0,a1,a2,a3,a4,a5⟩:=H.1.three
     obtain⟨j0,j1,j2,f0,f1,f2⟩:=H.2.2.1.three
     have H:=hide H
     clear o6 hg6))
 have X2:=H.out.2.2.1.Cu (.int .i64 G.rows) (.int .i64 G.AB) (.slice (some ⟨g,0,none⟩) n cap)
 have n2:=Aa H.out.2.2.2.1 H.out.2.2.1 (by decide)
 have O2:=ownsRow_setCell_other (ownsRow_setCell_other (ownsRow_setCell_other H.out.2.2.2.1 (a:=⟨w.heap.size+1+1,0,none⟩) n2 (.int .i64 G.rows)) (a:=⟨w.heap.size+1+1,1,none⟩) n2 (.int .i64 G.AB)) (a:=⟨w.heap.size+1+1,2,none⟩) n2 (.slice (some ⟨g,0,none⟩) n cap)
 have B2:=BN H.out.2.2.2.2 (show w.heap.size<=w.heap.size+1+1 by omega) (.int .i64 G.rows) (.int .i64 G.AB) (.slice (some ⟨g,0,none⟩) n cap)
 obtain⟨i0',i1',i2',_⟩:=X2.three
 have O2:=hide O2
 have B2:=hide B2
 go_wp2_with fail
 refine bodyPost_ret (v:=.agg #[.int .i64 G.rows,.int .i64 G.AB,.slice (some ⟨g,0,none⟩) n cap]) (by simp [results,Tryz.results209,go_sem,i0',i1',i2']) rfl (GOT.out g cap _ _ rfl O2.out B2.out)):P:=h
theorem T14_8 {P:Prop} (h:P:=by
 intro L a w' hL hsame hsz hJ AJ hcl
 have e0:a.eval (.tmp 34)=(.int .i64 m):=AU (j:=4) (by kernel_rfl) (hJ.all 4 (by decide) (AZ AJ 4 (by kernel_rfl)))
 have e1:a.eval (.tmp 38)=(.int .i64 d):=AU (j:=8) (by kernel_rfl) (hJ.all 8 (by decide) (AZ AJ 8 (by kernel_rfl)))
 refine Step.call _ rfl rfl (AV rfl) 182 #[.int .i64 m,.int .i64 d] (fun ρ hρ=>?_) ?_
 ·skip
  rw [hρ] at e0 e1
  have ef:ρ (.func 182)=.func (.func 182) #[] #[] :=(hρ _).symm
  clear hJ hsame AJ hcl hρ hsz
  go_simp
 ·refine(WI.out w').mono ?_
  rintro e w2 ⟨rfl,bb⟩
  exact⟨_,rfl,hJ.val ST.out (by decide) bb _ rfl⟩):P:=h
theorem T14_9 {P:Prop} (h:P:=by
 intro L a w' hL hsame hsz hJ AJ hcl
 have e0:a.eval (.tmp 31)=(.slice (some ⟨g,z*5,none⟩) G.AB (cap-z)):=AU (j:=1) (by kernel_rfl) (hJ.all 1 (by decide) (AZ AJ 1 (by kernel_rfl)))
 have e1:a.eval (.tmp 32)=(.int .i64 c):=AU (j:=2) (by kernel_rfl) (hJ.all 2 (by decide) (AZ AJ 2 (by kernel_rfl)))
 refine Step.val _ rfl rfl (AV rfl) (.slice (some ⟨g,z*5+c*5,none⟩) (G.AB-c) (cap-z-c)) w' (fun ρ hρ=>?_) (hJ.val ST.out (by decide) (Below.refl _ _) _ rfl)
 rw [hρ] at e0 e1
 clear hJ hsame AJ hcl hρ hsz
 go_simp):P:=h
theorem T14_12 {P:Prop} (h:P:=by
 intro L a w' hL hsame hsz hJ AJ hcl
 have e0:a.eval (.tmp 36)=(.int .i64 G.AB):=AU (j:=6) (by kernel_rfl) (hJ.all 6 (by decide) (AZ AJ 6 (by kernel_rfl)))
 have e1:a.eval (.tmp 37)=(.int .i64 c):=AU (j:=7) (by kernel_rfl) (hJ.all 7 (by decide) (AZ AJ 7 (by kernel_rfl)))
 refine Step.val _ rfl rfl (AV rfl) (.int .i64 d) w' (fun ρ hρ=>?_) (hJ.val ST.out (by decide) (Below.refl _ _) _ rfl)
 rw [hρ] at e0 e1
 clear hJ hsame AJ hcl hρ hsz
 go_simp):P:=h
theorem T14_20 {P:Prop} (h:P:=by
 intro L a w' hL hsame hsz hJ AJ hcl
 have e0:a.eval (.tmp 11)=(.pointer (some ⟨w.heap.size+1,0,none⟩)):=AY hsame (by kernel_rfl)
 obtain⟨q0,q1,q2,_⟩:=hJ.put.2.1.three
 refine Step.val _ rfl rfl (AV rfl) (.agg #[.int .i64 p.1,.int .i64 p.2.1,.int .i64 p.2.2]) w' (fun ρ hρ=>?_) (hJ.val ST.out (by decide) (Below.refl _ _) _ rfl)
 rw [hρ] at e0
 clear hJ hsame AJ hcl hρ hsz
 go_simp):P:=h
theorem T14_22 {P:Prop} (h:P:=by
 intro L a w' hL hsame hsz hJ AJ hcl
 have e0:a.eval (.tmp 35)=(.slice (some ⟨g,z*5,none⟩) G.AB (cap-z)):=AU (j:=5) (by kernel_rfl) (hJ.all 5 (by decide) (AZ AJ 5 (by kernel_rfl)))
 refine Step.val _ rfl rfl (AV rfl) (.int .i64 G.AB) w' (fun ρ hρ=>?_) (hJ.val ST.out (by decide) (Below.refl _ _) _ rfl)
 rw [hρ] at e0
 clear hJ hsame AJ hcl hρ hsz
 go_simp):P:=h
theorem T14_23 {P:Prop} (h:P:=by
 intro L a w' hL hsame hsz hJ AJ hcl
 have e0:a.eval (.tmp 13)=(.slice (some ⟨g,z*5,none⟩) G.AB (cap-z)):=AY hsame (by kernel_rfl)
 refine Step.val _ rfl rfl (AV rfl) (.slice (some ⟨g,z*5,none⟩) G.AB (cap-z)) w' (fun ρ hρ=>?_) (hJ.val ST.out (by decide) (Below.refl _ _) _ rfl)
 rw [hρ] at e0
 clear hJ hsame AJ hcl hρ hsz
 go_simp):P:=h
theorem T14_25 {P:Prop} (h:P:=by
 intro L a w' hL hsame hsz hJ AJ hcl
 have e0:a.eval (.tmp 0)=(.func (.func 208) #[] #[]):=AY hsame (by kernel_rfl)
 refine Step.val _ rfl rfl (AV rfl) (.func (.func 208) #[] #[]) w' (fun ρ hρ=>?_) (hJ.val ST.out (by decide) (Below.refl _ _) _ rfl)
 rw [hρ] at e0
 clear hJ hsame AJ hcl hρ hsz
 go_simp):P:=h
theorem T14_27 {P:Prop} (h:P:=by
 intro L a w' hL hsame hsz hJ AJ hcl
 have e0:a.eval (.tmp 3)=(.int .i64 c):=AY hsame (by kernel_rfl)
 refine Step.val _ rfl rfl (AV rfl) (.int .i64 c) w' (fun ρ hρ=>?_) (hJ.val ST.out (by decide) (Below.refl _ _) _ rfl)
 rw [hρ] at e0
 clear hJ hsame AJ hcl hρ hsz
 go_simp):P:=h
theorem T14_28 {P:Prop} (h:P:=by
 intro L a w' hL hsame hsz hJ AJ hcl
 have e0:a.eval (.tmp 4)=(.int .i64 m):=AY hsame (by kernel_rfl)
 refine Step.val _ rfl rfl (AV rfl) (.int .i64 m) w' (fun ρ hρ=>?_) (hJ.val ST.out (by decide) (Below.refl _ _) _ rfl)
 rw [hρ] at e0
 clear hJ hsame AJ hcl hρ hsz
 go_simp):P:=h
theorem TS {G:PG.Gr} {v:Value} {w:World} (hG:PG.BL G) (h:IsG w G v) (r c:Nat) (m:Int) (p:PG.Pn) (hr:r<G.rows) (hc:c<G.AB) (hm0:0<=m) (hm1:m<=65535):
  Calls Tryz.prog 209 #[.func (.func 208) #[] #[],v,.int .i64 r,.int .i64 c,.int .i64 m,pv p] w (Dk w (PG.CK G r c m p)):=by
 obtain⟨A,cp,rfl,hl,h1,h2⟩:=h.open_
 have hR:=hG.2.1
 have hK:=hG.2.2.2.1
 have hK0:=hG.2.2.1
 have hnn:0*G.AB+0<G.rows*G.AB:=PG.Bt hG.1 hG.2.2.1
 obtain⟨c0,hc0'⟩: ∃c0,(PG.cells G)[0]? =some c0:=⟨_,List.getElem?_eq_getElem (by rw [PG.Aw];omega)⟩
 obtain⟨ad,rfl,_⟩:=hl.at_ hc0'
 clear hc0'
 have hle:r*G.AB+G.AB<=G.rows*G.AB:=by rw [<- Nat.succ_mul];exact Nat.mul_le_mul_right _ hr
 have h24:=size_le hG
 obtain⟨i0,hi,hz0,hz1,hz2⟩:=info_parts DN
 obtain⟨d,hd⟩: ∃d,G.AB-c=d:=⟨_,rfl⟩
 obtain⟨k,hk,hkm,hkd⟩: ∃k:Nat,((m<=(G.AB:Int)-c/\m=k)\/((G.AB:Int)-c<m/\k=G.AB-c))/\((0<=m/\m<=d/\(k:Int)=m)\/(0<=(d:Int)/\(d:Int)<m/\(k:Int)=d))/\k<=G.AB-c:=⟨(min m ((G.AB:Int)-c)).toNat,by omega,by omega,by omega⟩
 have CL:=hide (fun w' (hb:Below w.heap.size w w')=>Ec G.rows G.AB (G.rows*G.AB) cp w.heap.size ad (PG.cells G) w' (hl.below hb) hb.size (by omega))
 have IP:=hide (fun (wx:World) g cap (he:EIn w G.rows G.AB (G.rows*G.AB) g cap p (PG.cells G) wx)=>CG hG (v:=gv G.rows G.AB (.slice (some ⟨g,0,none⟩) (G.rows*G.AB) cap)) (w:=wx) ⟨_,rfl,own_base' he.2.2.2.1 (Nat.zero_le _)⟩ r c true (.inl ⟨rfl,by omega,by omega,by omega,by omega⟩))
 have RW:=hide (fun (wx:World) g cap (h1:G.rows*G.AB<=cap) (h2:cap<=maxLen)=>(show Calls Tryz.prog 181 #[gv G.rows G.AB (.slice (some ⟨g,0,none⟩) (G.rows*G.AB) cap),.int .i64 r,.int .i64 ((r:Int)+1)] wx fun e w'=>e=.returned (.slice (some ⟨g,r*G.AB*5,none⟩) G.AB (cap-r*G.AB))/\Below wx.heap.size wx w' by
  have h:=KQ G.rows G.AB (G.rows*G.AB) cap g r (r+1) (r*G.AB) G.AB wx rfl (by rw [<- Nat.succ_mul]) rfl (by omega) hR hK h1 h2
  rw [Iq (n:=G.rows*G.AB) hle h1 (by omega)] at h
  exact h))
 have PT:=hide (fun (wx:World) g cap cp (ho:wx.ownsRow w.heap.size 66 5 (.slice (some ⟨g,0,none⟩) (G.rows*G.AB) cap) (G.rows*G.AB) (Ag (PG.cells G)))=>Uu hG (cp:=cp) hr hc rfl ho)
 have MV:=hide (fun g cap cp (h1:G.AB-c<=cp) (h2:cp<=maxLen) (wx:World) (ho:wx.ownsRow w.heap.size 66 5 (.slice (some ⟨g,0,none⟩) (G.rows*G.AB) cap) (G.rows*G.AB) (Ag (PG.cells (PG.Dz G r (PG.parted (G.f r) c)))))=>iH hG hr hc rfl m k hkd hk p h1 h2 ho)
 have WI:=hide (fun wx=>Ju m d k wx hkm)
 have MW:=hide (PG.Qg (g:=G) (r:=r) (c:=c) (n:=m) (p:=p) hr hc)
 have HS:=hide (PG.Hf G r c m p)
 have HLG:=hide (PG.Aw G)
 have HL2:=hide (show(PG.cells (PG.Dz G r (PG.shifted (G.f r) G.AB c m p))).length=G.rows*G.AB from PG.Aw _)
 generalize PG.cells (PG.Dz G r (PG.parted (G.f r) c))=l1 at*
 generalize PG.cells (PG.Dz G r (PG.shifted (G.f r) G.AB c m p))=l2 at*
 have q0:(G.AB:Int)-(c:Int)=(d:Int):=by omega
 have hdc:d+c=G.AB:=by omega
 have hcI:(c:Int)<(G.AB:Int):=by omega
 have hrI:(r:Int)+1<=40:=by omega
 rw [hd] at MV
 generalize r*G.AB=z at*
 generalize G.rows*G.AB=n at*
 unfold Jh at CL
 have GOT: ∀(g cap:Nat) (l3:List PG.Cl) (w3:World),l3=PG.cells (PG.CK G r c m p)->w3.ownsRow w.heap.size 66 5 (.slice (some ⟨g,0,none⟩) n cap) n (Ag l3)->Below w.heap.size w w3->Dk w (PG.CK G r c m p) (.returned (gv G.rows G.AB (.slice (some ⟨g,0,none⟩) n cap))) w3:=fun g cap l3 w3 e ho hb=>by
  subst e
  have hn:=ho.1
  rw [En,PG.Aw,HS.out.1,HS.out.2] at hn
  have hn:n=(PG.CK G r c m p).rows*(PG.CK G r c m p).AB:=by rw [HS.out.1,HS.out.2];omega
  refine⟨_,rfl,⟨.slice (some ⟨g,0,none⟩) n cap,by rw [HS.out.1,HS.out.2],?_⟩,hb⟩
  rw [<- hn]
  exact own_base' ho (Nat.zero_le _)
 have GOT:=hide GOT
 clear h hl h2
 unfold gv pv at*
 go_enter Tryz.func209,Tryz.ntmps209
 go_upto_region 4 with (first
  | (go_at_call 179
     obtain⟨x0,x1,x2,bw⟩:=Ce (w:=w) (t0:=37) (t1:=38) (t2:=37) (cs:= #[.int .i64 G.rows,.int .i64 G.AB,.slice (some ad) n cp]) (ds:= #[.int .i64 p.1,.int .i64 p.2.1,.int .i64 p.2.2]) (es:= #[.int .i64 0,.int .i64 0,.slice none 0 0])
     go_must (refine(CL.out _ bw).mono ?_)
     rintro e w1 ⟨v1,rfl,o1,b1⟩
     rw [HLG.out] at o1
     obtain⟨g,cap,rfl,hgb,hnc,hcm⟩:=Fe o1 (by omega)
     have y0:=x0.below b1 x0.lt
     have y1:=x1.below b1 x1.lt
     have y2:=x2.below b1 x2.lt
     have bb:=bw.trans (b1.mono bw.size)
     have o1:=own_base' o1 bw.size
     obtain⟨a0,a1,a2,a3,a4,a5⟩:=y0.three
     have n0:=Aa o1 y0 (by decide)
     have X0:=(y0.Cu (.int .i64 G.rows) (.int .i64 G.AB) (.slice (some ⟨g,0,none⟩) n cap))
     have X1:=(y1.E9 (g':=w.heap.size) (by omega) (.int .i64 G.rows) (.int .i64 G.AB) (.slice (some ⟨g,0,none⟩) n cap))
     have X2:=(y2.E9 (g':=w.heap.size) (by omega) (.int .i64 G.rows) (.int .i64 G.AB) (.slice (some ⟨g,0,none⟩) n cap))
     have O:=(ownsRow_setCell_other (ownsRow_setCell_other (ownsRow_setCell_other o1 (a:=⟨w.heap.size,0,none⟩) n0 (.int .i64 G.rows)) (a:=⟨w.heap.size,1,none⟩) n0 (.int .i64 G.AB)) (a:=⟨w.heap.size,2,none⟩) n0 (.slice (some ⟨g,0,none⟩) n cap))
     have bs:=(BN bb (Nat.le_refl _) (.int .i64 G.rows) (.int .i64 G.AB) (.slice (some ⟨g,0,none⟩) n cap))
     have H:=hide (show EIn w G.rows G.AB n g cap p (PG.cells G) _ from⟨X0,X1,X2,O,bs⟩)
     clear x0 x1 x2 bw b1 y0 y1 y2 CL o1 n0 bb X0 X1 X2 O bs)
  | (go_at_call 180
     go_must (refine(IP.out _ g cap H.out).mono ?_)
     rintro e w2 ⟨rfl,b2⟩
     have H:=hide (H.out.call b2)
     obtain⟨a0,a1,a2,a3,a4,a5⟩:=H.out.1.three
     clear b2))
 go_upto_region 6 with (first
  | (go_at_call 181
     go_must (refine(RW.out _ g cap hnc hcm).mono ?_)
     rintro e w3 ⟨rfl,b3⟩
     have H:=hide (H.out.call b3)
     clear b3)
  | (go_at_call 215
     go_must (refine(PT.out _ g cap (cap-z) H.out.2.2.2.1).mono ?_)
     rintro e w4 ⟨rfl,o4,k4⟩
     have H:=hide (H.out.wrote o4 k4)
     clear o4 k4))
 have MV:=hide (fun wx=>(show _->Calls Tryz.prog 208 #[.slice (some ⟨g,z*5+c*5,none⟩) (G.AB-c) (cap-z-c),.int .i64 k,.agg #[.int .i64 p.1,.int .i64 p.2.1,.int .i64 p.2.2]] wx _ by have h:=MV.out g cap (cap-z-c) (by omega) (by simp only [maxLen] at hcm⊢;omega) wx;rw [Nat.add_mul, <- hd] at h;exact h))
 have WI:=hide (fun wx=>(WI.out wx).mono (fun e w' h=>(show e=.returned (.int .i64 k)/\Below wx.heap.size wx w' from⟨h.1,h.2▸Below.refl _ _⟩)))
 have ST:=hide (show∀(b:Bool) (x y:World),EIn w G.rows G.AB n g cap p (if b=true then l2 else l1) x->Below x.heap.size x y->EIn w G.rows G.AB n g cap p (if b=true then l2 else l1) y from fun b x y h hb=>h.call hb)
 have FIN:=hide (show∀(x y:World),EIn w G.rows G.AB n g cap p (if false=true then l2 else l1) x->(y.ownsRow w.heap.size 66 5 (.slice (some ⟨g,0,none⟩) n cap) n (Ag l2)/\Kept [some g] x y)->EIn w G.rows G.AB n g cap p (if true=true then l2 else l1) y from fun x y h h2=>EIn.wrote h h2.1 h2.2)
 have hcN:c<=G.AB:=by omega
 have hcz: ¬(cap-z=c):=by omega
 have qw:IntKind.i64.wrap (d:Int)=(d:Int):=IntWalk.i64_in _ (by omega)
 go_cut [] (fun wx=>EIn w G.rows G.AB n g cap p l2 wx)
 case first=>
  have H0:=hide (show EIn w G.rows G.AB n g cap p (if false=true then l2 else l1) _ from H.out.drew)
  refine DF (n:=47) (TJ 11 (fun b wx=>EIn w G.rows G.AB n g cap p (if b=true then l2 else l1) wx) (fun j=> [(.func (.func 208) #[] #[]),(.slice (some ⟨g,z*5,none⟩) G.AB (cap-z)),(.int .i64 c),(.slice (some ⟨g,z*5+c*5,none⟩) (G.AB-c) (cap-z-c)),(.int .i64 m),(.slice (some ⟨g,z*5,none⟩) G.AB (cap-z)),(.int .i64 G.AB),(.int .i64 c),(.int .i64 d),(.int .i64 k),(.agg #[.int .i64 p.1,.int .i64 p.2.1,.int .i64 p.2.2])].getD j undef)) (by kernel_rfl) (by kernel_rfl) (by kernel_rfl) rfl (fun L u u' wx he hj=>hj.same he) (GL ⟨?_,?_,?_,?_,?_,?_,?_,?_,?_,?_,?_,?_⟩) ?_ ⟨H0.out,fun j _ h=>by cases h⟩
  ·exact T14_25
  ·exact T14_23
  ·exact T14_27
  ·exact T14_9
  ·exact T14_28
  ·exact T14_23
  ·exact T14_22
  ·exact T14_27
  ·exact T14_12
  ·exact T14_8
  ·exact T14_20
  ·intro L a w' hL hsame hsz hJ AJ hcl
   have e0:a.eval (.tmp 30)=(.func (.func 208) #[] #[]):=AU (j:=0) (by kernel_rfl) (hJ.all 0 (by decide) (AZ AJ 0 (by kernel_rfl)))
   have e1:a.eval (.tmp 33)=(.slice (some ⟨g,z*5+c*5,none⟩) (G.AB-c) (cap-z-c)):=AU (j:=3) (by kernel_rfl) (hJ.all 3 (by decide) (AZ AJ 3 (by kernel_rfl)))
   have e2:a.eval (.tmp 39)=(.int .i64 k):=AU (j:=9) (by kernel_rfl) (hJ.all 9 (by decide) (AZ AJ 9 (by kernel_rfl)))
   have e3:a.eval (.tmp 40)=(.agg #[.int .i64 p.1,.int .i64 p.2.1,.int .i64 p.2.2]):=AU (j:=10) (by kernel_rfl) (hJ.all 10 (by decide) (AZ AJ 10 (by kernel_rfl)))
   refine Step.call _ rfl rfl (AV rfl) 208 #[.slice (some ⟨g,z*5+c*5,none⟩) (G.AB-c) (cap-z-c),.int .i64 k,.agg #[.int .i64 p.1,.int .i64 p.2.1,.int .i64 p.2.2]] (fun ρ hρ=>?_) ?_
   ·skip
    rw [hρ] at e0 e1 e2 e3
    clear hJ hsame AJ hcl hρ hsz
    go_simp
   ·have hL0:L 11=false:=hL
    have hp:=hJ.put
    rw [hL0] at hp
    refine(MV.out w' hp.2.2.2.1).mono ?_
    rintro e w2 ⟨rfl,h2⟩
    exact⟨_,rfl,hJ.fin _ (FIN.out _ _ hp h2)⟩
  ·intro L a w' hsame hsz hJ hall
   obtain⟨u,hu,ha⟩:=EY hsame
   have h:=hJ.put
   rw [hall 11 (by decide)] at h
   have h:=hide h
   clear hJ hall hsz hu hsame
   subst ha
   change Exit.then _ _ Exit.normal (Act.put (Act.put (Act.put (Act.put (Act.put (Act.put (Act.put (Act.put (Act.put (Act.put (Act.put (Act.put (Az _ u 0 _) (some 30) (u 0)) (some 31) (u 1)) (some 32) (u 2)) (some 33) (u 3)) (some 34) (u 4)) (some 35) (u 5)) (some 36) (u 6)) (some 37) (u 7)) (some 38) (u 8)) (some 39) (u 9)) (some 40) (u 10)) (some 41) (u 11)) _
   simp only [Az]
   generalize u 0=v0
   generalize u 1=v1
   generalize u 2=v2
   generalize u 3=v3
   generalize u 4=v4
   generalize u 5=v5
   generalize u 6=v6
   generalize u 7=v7
   generalize u 8=v8
   generalize u 9=v9
   generalize u 10=v10
   generalize u 11=v11
   go_simp
   go_step
   go_meet
   exact h.out
 case rest=>
  exact T14_1
theorem T14_26 {P:Prop} (h:P:=by
 intro L a w' hL hsame hsz hJ AJ hcl
 have e0:a.eval (.tmp 0)=(.func (.func 146) #[] #[]):=AY hsame (by kernel_rfl)
 refine Step.val _ rfl rfl (AV rfl) (.func (.func 146) #[] #[]) w' (fun ρ hρ=>?_) (hJ.val ST.out (by decide) (Below.refl _ _) _ rfl)
 rw [hρ] at e0
 clear hJ hsame AJ hcl hρ hsz
 go_simp):P:=h
theorem TU {G:PG.Gr} {v:Value} {w:World} (hG:PG.BL G) (h:IsG w G v) (r c:Nat) (m:Int) (p:PG.Pn) (hr:r<G.rows) (hc:c<G.AB) (hm0:0<=m) (hm1:m<=65535):
  Calls Tryz.prog 209 #[.func (.func 146) #[] #[],v,.int .i64 r,.int .i64 c,.int .i64 m,pv p] w (Dk w (PG.CK G r c (-m) p)):=by
 obtain⟨A,cp,rfl,hl,h1,h2⟩:=h.open_
 have hR:=hG.2.1
 have hK:=hG.2.2.2.1
 have hK0:=hG.2.2.1
 have hnn:0*G.AB+0<G.rows*G.AB:=PG.Bt hG.1 hG.2.2.1
 obtain⟨c0,hc0'⟩: ∃c0,(PG.cells G)[0]? =some c0:=⟨_,List.getElem?_eq_getElem (by rw [PG.Aw];omega)⟩
 obtain⟨ad,rfl,_⟩:=hl.at_ hc0'
 clear hc0'
 have hle:r*G.AB+G.AB<=G.rows*G.AB:=by rw [<- Nat.succ_mul];exact Nat.mul_le_mul_right _ hr
 have h24:=size_le hG
 obtain⟨i0,hi,hz0,hz1,hz2⟩:=info_parts DN
 obtain⟨d,hd⟩: ∃d,G.AB-c=d:=⟨_,rfl⟩
 obtain⟨k,hk,hkm,hkd⟩: ∃k:Nat,((m<=(G.AB:Int)-c/\m=k)\/((G.AB:Int)-c<m/\k=G.AB-c))/\((0<=m/\m<=d/\(k:Int)=m)\/(0<=(d:Int)/\(d:Int)<m/\(k:Int)=d))/\k<=G.AB-c:=⟨(min m ((G.AB:Int)-c)).toNat,by omega,by omega,by omega⟩
 have CL:=hide (fun w' (hb:Below w.heap.size w w')=>Ec G.rows G.AB (G.rows*G.AB) cp w.heap.size ad (PG.cells G) w' (hl.below hb) hb.size (by omega))
 have IP:=hide (fun (wx:World) g cap (he:EIn w G.rows G.AB (G.rows*G.AB) g cap p (PG.cells G) wx)=>CG hG (v:=gv G.rows G.AB (.slice (some ⟨g,0,none⟩) (G.rows*G.AB) cap)) (w:=wx) ⟨_,rfl,own_base' he.2.2.2.1 (Nat.zero_le _)⟩ r c true (.inl ⟨rfl,by omega,by omega,by omega,by omega⟩))
 have RW:=hide (fun (wx:World) g cap (h1:G.rows*G.AB<=cap) (h2:cap<=maxLen)=>(show Calls Tryz.prog 181 #[gv G.rows G.AB (.slice (some ⟨g,0,none⟩) (G.rows*G.AB) cap),.int .i64 r,.int .i64 ((r:Int)+1)] wx fun e w'=>e=.returned (.slice (some ⟨g,r*G.AB*5,none⟩) G.AB (cap-r*G.AB))/\Below wx.heap.size wx w' by
  have h:=KQ G.rows G.AB (G.rows*G.AB) cap g r (r+1) (r*G.AB) G.AB wx rfl (by rw [<- Nat.succ_mul]) rfl (by omega) hR hK h1 h2
  rw [Iq (n:=G.rows*G.AB) hle h1 (by omega)] at h
  exact h))
 have PT:=hide (fun (wx:World) g cap cp (ho:wx.ownsRow w.heap.size 66 5 (.slice (some ⟨g,0,none⟩) (G.rows*G.AB) cap) (G.rows*G.AB) (Ag (PG.cells G)))=>Uu hG (cp:=cp) hr hc rfl ho)
 have MV:=hide (fun g cap cp (h1:G.AB-c<=cp) (h2:cp<=maxLen) (wx:World) (ho:wx.ownsRow w.heap.size 66 5 (.slice (some ⟨g,0,none⟩) (G.rows*G.AB) cap) (G.rows*G.AB) (Ag (PG.cells (PG.Dz G r (PG.parted (G.f r) c)))))=>iI hG hr hc rfl m k hkd hk p h1 h2 ho)
 have WI:=hide (fun wx=>Ju m d k wx hkm)
 have MW:=hide (PG.Qg (g:=G) (r:=r) (c:=c) (n:=(-m)) (p:=p) hr hc)
 have HS:=hide (PG.Hf G r c (-m) p)
 have HLG:=hide (PG.Aw G)
 have HL2:=hide (show(PG.cells (PG.Dz G r (PG.shifted (G.f r) G.AB c (-m) p))).length=G.rows*G.AB from PG.Aw _)
 generalize PG.cells (PG.Dz G r (PG.parted (G.f r) c))=l1 at*
 generalize PG.cells (PG.Dz G r (PG.shifted (G.f r) G.AB c (-m) p))=l2 at*
 have q0:(G.AB:Int)-(c:Int)=(d:Int):=by omega
 have hdc:d+c=G.AB:=by omega
 have hcI:(c:Int)<(G.AB:Int):=by omega
 have hrI:(r:Int)+1<=40:=by omega
 rw [hd] at MV
 generalize r*G.AB=z at*
 generalize G.rows*G.AB=n at*
 unfold Jh at CL
 have GOT: ∀(g cap:Nat) (l3:List PG.Cl) (w3:World),l3=PG.cells (PG.CK G r c (-m) p)->w3.ownsRow w.heap.size 66 5 (.slice (some ⟨g,0,none⟩) n cap) n (Ag l3)->Below w.heap.size w w3->Dk w (PG.CK G r c (-m) p) (.returned (gv G.rows G.AB (.slice (some ⟨g,0,none⟩) n cap))) w3:=fun g cap l3 w3 e ho hb=>by
  subst e
  have hn:=ho.1
  rw [En,PG.Aw,HS.out.1,HS.out.2] at hn
  have hn:n=(PG.CK G r c (-m) p).rows*(PG.CK G r c (-m) p).AB:=by rw [HS.out.1,HS.out.2];omega
  refine⟨_,rfl,⟨.slice (some ⟨g,0,none⟩) n cap,by rw [HS.out.1,HS.out.2],?_⟩,hb⟩
  rw [<- hn]
  exact own_base' ho (Nat.zero_le _)
 have GOT:=hide GOT
 clear h hl h2
 unfold gv pv at*
 go_enter Tryz.func209,Tryz.ntmps209
 go_upto_region 4 with (first
  | (go_at_call 179
     obtain⟨x0,x1,x2,bw⟩:=Ce (w:=w) (t0:=37) (t1:=38) (t2:=37) (cs:= #[.int .i64 G.rows,.int .i64 G.AB,.slice (some ad) n cp]) (ds:= #[.int .i64 p.1,.int .i64 p.2.1,.int .i64 p.2.2]) (es:= #[.int .i64 0,.int .i64 0,.slice none 0 0])
     go_must (refine(CL.out _ bw).mono ?_)
     rintro e w1 ⟨v1,rfl,o1,b1⟩
     rw [HLG.out] at o1
     obtain⟨g,cap,rfl,hgb,hnc,hcm⟩:=Fe o1 (by omega)
     have y0:=x0.below b1 x0.lt
     have y1:=x1.below b1 x1.lt
     have y2:=x2.below b1 x2.lt
     have bb:=bw.trans (b1.mono bw.size)
     have o1:=own_base' o1 bw.size
     obtain⟨a0,a1,a2,a3,a4,a5⟩:=y0.three
     have n0:=Aa o1 y0 (by decide)
     have X0:=(y0.Cu (.int .i64 G.rows) (.int .i64 G.AB) (.slice (some ⟨g,0,none⟩) n cap))
     have X1:=(y1.E9 (g':=w.heap.size) (by omega) (.int .i64 G.rows) (.int .i64 G.AB) (.slice (some ⟨g,0,none⟩) n cap))
     have X2:=(y2.E9 (g':=w.heap.size) (by omega) (.int .i64 G.rows) (.int .i64 G.AB) (.slice (some ⟨g,0,none⟩) n cap))
     have O:=(ownsRow_setCell_other (ownsRow_setCell_other (ownsRow_setCell_other o1 (a:=⟨w.heap.size,0,none⟩) n0 (.int .i64 G.rows)) (a:=⟨w.heap.size,1,none⟩) n0 (.int .i64 G.AB)) (a:=⟨w.heap.size,2,none⟩) n0 (.slice (some ⟨g,0,none⟩) n cap))
     have bs:=(BN bb (Nat.le_refl _) (.int .i64 G.rows) (.int .i64 G.AB) (.slice (some ⟨g,0,none⟩) n cap))
     have H:=hide (show EIn w G.rows G.AB n g cap p (PG.cells G) _ from⟨X0,X1,X2,O,bs⟩)
     clear x0 x1 x2 bw b1 y0 y1 y2 CL o1 n0 bb X0 X1 X2 O bs)
  | (go_at_call 180
     go_must (refine(IP.out _ g cap H.out).mono ?_)
     rintro e w2 ⟨rfl,b2⟩
     have H:=hide (H.out.call b2)
     obtain⟨a0,a1,a2,a3,a4,a5⟩:=H.out.1.three
     clear b2))
 go_upto_region 6 with (first
  | (go_at_call 181
     go_must (refine(RW.out _ g cap hnc hcm).mono ?_)
     rintro e w3 ⟨rfl,b3⟩
     have H:=hide (H.out.call b3)
     clear b3)
  | (go_at_call 215
     go_must (refine(PT.out _ g cap (cap-z) H.out.2.2.2.1).mono ?_)
     rintro e w4 ⟨rfl,o4,k4⟩
     have H:=hide (H.out.wrote o4 k4)
     clear o4 k4))
 have MV:=hide (fun wx=>(show _->Calls Tryz.prog 146 #[.slice (some ⟨g,z*5+c*5,none⟩) (G.AB-c) (cap-z-c),.int .i64 k,.agg #[.int .i64 p.1,.int .i64 p.2.1,.int .i64 p.2.2]] wx _ by have h:=MV.out g cap (cap-z-c) (by omega) (by simp only [maxLen] at hcm⊢;omega) wx;rw [Nat.add_mul, <- hd] at h;exact h))
 have WI:=hide (fun wx=>(WI.out wx).mono (fun e w' h=>(show e=.returned (.int .i64 k)/\Below wx.heap.size wx w' from⟨h.1,h.2▸Below.refl _ _⟩)))
 have ST:=hide (show∀(b:Bool) (x y:World),EIn w G.rows G.AB n g cap p (if b=true then l2 else l1) x->Below x.heap.size x y->EIn w G.rows G.AB n g cap p (if b=true then l2 else l1) y from fun b x y h hb=>h.call hb)
 have FIN:=hide (show∀(x y:World),EIn w G.rows G.AB n g cap p (if false=true then l2 else l1) x->(y.ownsRow w.heap.size 66 5 (.slice (some ⟨g,0,none⟩) n cap) n (Ag l2)/\Kept [some g] x y)->EIn w G.rows G.AB n g cap p (if true=true then l2 else l1) y from fun x y h h2=>EIn.wrote h h2.1 h2.2)
 have hcN:c<=G.AB:=by omega
 have hcz: ¬(cap-z=c):=by omega
 have qw:IntKind.i64.wrap (d:Int)=(d:Int):=IntWalk.i64_in _ (by omega)
 go_cut [] (fun wx=>EIn w G.rows G.AB n g cap p l2 wx)
 case first=>
  have H0:=hide (show EIn w G.rows G.AB n g cap p (if false=true then l2 else l1) _ from H.out.drew)
  refine DF (n:=47) (TJ 11 (fun b wx=>EIn w G.rows G.AB n g cap p (if b=true then l2 else l1) wx) (fun j=> [(.func (.func 146) #[] #[]),(.slice (some ⟨g,z*5,none⟩) G.AB (cap-z)),(.int .i64 c),(.slice (some ⟨g,z*5+c*5,none⟩) (G.AB-c) (cap-z-c)),(.int .i64 m),(.slice (some ⟨g,z*5,none⟩) G.AB (cap-z)),(.int .i64 G.AB),(.int .i64 c),(.int .i64 d),(.int .i64 k),(.agg #[.int .i64 p.1,.int .i64 p.2.1,.int .i64 p.2.2])].getD j undef)) (by kernel_rfl) (by kernel_rfl) (by kernel_rfl) rfl (fun L u u' wx he hj=>hj.same he) (GL ⟨?_,?_,?_,?_,?_,?_,?_,?_,?_,?_,?_,?_⟩) ?_ ⟨H0.out,fun j _ h=>by cases h⟩
  ·exact T14_26
  ·exact T14_23
  ·exact T14_27
  ·exact T14_9
  ·exact T14_28
  ·exact T14_23
  ·exact T14_22
  ·exact T14_27
  ·exact T14_12
  ·exact T14_8
  ·exact T14_20
  ·intro L a w' hL hsame hsz hJ AJ hcl
   have e0:a.eval (.tmp 30)=(.func (.func 146) #[] #[]):=AU (j:=0) (by kernel_rfl) (hJ.all 0 (by decide) (AZ AJ 0 (by kernel_rfl)))
   have e1:a.eval (.tmp 33)=(.slice (some ⟨g,z*5+c*5,none⟩) (G.AB-c) (cap-z-c)):=AU (j:=3) (by kernel_rfl) (hJ.all 3 (by decide) (AZ AJ 3 (by kernel_rfl)))
   have e2:a.eval (.tmp 39)=(.int .i64 k):=AU (j:=9) (by kernel_rfl) (hJ.all 9 (by decide) (AZ AJ 9 (by kernel_rfl)))
   have e3:a.eval (.tmp 40)=(.agg #[.int .i64 p.1,.int .i64 p.2.1,.int .i64 p.2.2]):=AU (j:=10) (by kernel_rfl) (hJ.all 10 (by decide) (AZ AJ 10 (by kernel_rfl)))
   refine Step.call _ rfl rfl (AV rfl) 146 #[.slice (some ⟨g,z*5+c*5,none⟩) (G.AB-c) (cap-z-c),.int .i64 k,.agg #[.int .i64 p.1,.int .i64 p.2.1,.int .i64 p.2.2]] (fun ρ hρ=>?_) ?_
   ·skip
    rw [hρ] at e0 e1 e2 e3
    clear hJ hsame AJ hcl hρ hsz
    go_simp
   ·have hL0:L 11=false:=hL
    have hp:=hJ.put
    rw [hL0] at hp
    refine(MV.out w' hp.2.2.2.1).mono ?_
    rintro e w2 ⟨rfl,h2⟩
    exact⟨_,rfl,hJ.fin _ (FIN.out _ _ hp h2)⟩
  ·intro L a w' hsame hsz hJ hall
   obtain⟨u,hu,ha⟩:=EY hsame
   have h:=hJ.put
   rw [hall 11 (by decide)] at h
   have h:=hide h
   clear hJ hall hsz hu hsame
   subst ha
   change Exit.then _ _ Exit.normal (Act.put (Act.put (Act.put (Act.put (Act.put (Act.put (Act.put (Act.put (Act.put (Act.put (Act.put (Act.put (Az _ u 0 _) (some 30) (u 0)) (some 31) (u 1)) (some 32) (u 2)) (some 33) (u 3)) (some 34) (u 4)) (some 35) (u 5)) (some 36) (u 6)) (some 37) (u 7)) (some 38) (u 8)) (some 39) (u 9)) (some 40) (u 10)) (some 41) (u 11)) _
   simp only [Az]
   generalize u 0=v0
   generalize u 1=v1
   generalize u 2=v2
   generalize u 3=v3
   generalize u 4=v4
   generalize u 5=v5
   generalize u 6=v6
   generalize u 7=v7
   generalize u 8=v8
   generalize u 9=v9
   generalize u 10=v10
   generalize u 11=v11
   go_simp
   go_step
   go_meet
   exact h.out
 case rest=>
  exact T14_1
end Go.Proofs.YtoaabebgmdbjeaaGreatDoor
namespace Go.Proofs.YtoaabebgmdbjeaaGreatDoor
open Go.RowKit
theorem T14_4 {P:Prop} (h:P:=by
 have H:=hide hcut
 clear hcut
 obtain⟨a0,a1,a2,a3,a4,a5⟩:=H.out.1.three
 obtain⟨j0,j1,j2,f0,f1,f2⟩:=H.out.2.2.1.three
 have X2:=H.out.2.2.1.Cu (.int .i64 G.rows) (.int .i64 G.AB) (.slice (some ⟨g,0,none⟩) n cap)
 have n2:=Aa H.out.2.2.2.1 H.out.2.2.1 (by decide)
 have O2:=ownsRow_setCell_other (ownsRow_setCell_other (ownsRow_setCell_other H.out.2.2.2.1 (a:=⟨w.heap.size+1+1,0,none⟩) n2 (.int .i64 G.rows)) (a:=⟨w.heap.size+1+1,1,none⟩) n2 (.int .i64 G.AB)) (a:=⟨w.heap.size+1+1,2,none⟩) n2 (.slice (some ⟨g,0,none⟩) n cap)
 have B2:=BN H.out.2.2.2.2 (show w.heap.size<=w.heap.size+1+1 by omega) (.int .i64 G.rows) (.int .i64 G.AB) (.slice (some ⟨g,0,none⟩) n cap)
 obtain⟨i0',i1',i2',_⟩:=X2.three
 have O2:=hide O2
 have B2:=hide B2
 go_wp2_with fail
 refine bodyPost_ret (v:=.agg #[.int .i64 G.rows,.int .i64 G.AB,.slice (some ⟨g,0,none⟩) n cap]) (by simp [results,Tryz.results145,go_sem,i0',i1',i2']) rfl (GOT.out g cap _ O2.out B2.out)):P:=h
theorem T14_5 {P:Prop} (h:P:=by
 intro L a w' hL hsame hsz hJ AJ hcl
 have e0:a.eval (.tmp 32)=(.agg #[.int .i64 G.rows,.int .i64 G.AB,.slice (some ⟨g,0,none⟩) n cap]):=AU (j:=1) (by kernel_rfl) (hJ.all 1 (by decide) (AZ AJ 1 (by kernel_rfl)))
 have e1:a.eval (.tmp 33)=(.int .i64 t):=AU (j:=2) (by kernel_rfl) (hJ.all 2 (by decide) (AZ AJ 2 (by kernel_rfl)))
 have e2:a.eval (.tmp 35)=(.int .i64 ((b:Int)+1)):=AU (j:=4) (by kernel_rfl) (hJ.all 4 (by decide) (AZ AJ 4 (by kernel_rfl)))
 refine Step.call _ rfl rfl (AV rfl) 181 #[.agg #[.int .i64 G.rows,.int .i64 G.AB,.slice (some ⟨g,0,none⟩) n cap],.int .i64 t,.int .i64 ((b:Int)+1)] (fun ρ hρ=>?_) ?_
 ·skip
  rw [hρ] at e0 e1 e2
  have ef:ρ (.func 181)=.func (.func 181) #[] #[] :=(hρ _).symm
  clear hJ hsame AJ hcl hρ hsz
  go_simp
 ·refine(RW.out w').mono ?_
  rintro e w2 ⟨rfl,bb⟩
  exact⟨_,rfl,hJ.val ST.out (by decide) bb _ rfl⟩):P:=h
theorem T14_7 {P:Prop} (h:P:=by
 intro L a w' hL hsame hsz hJ AJ hcl
 have e0:a.eval (.tmp 37)=(.int .i64 m):=AU (j:=6) (by kernel_rfl) (hJ.all 6 (by decide) (AZ AJ 6 (by kernel_rfl)))
 have e1:a.eval (.tmp 41)=(.int .i64 D):=AU (j:=10) (by kernel_rfl) (hJ.all 10 (by decide) (AZ AJ 10 (by kernel_rfl)))
 refine Step.call _ rfl rfl (AV rfl) 182 #[.int .i64 m,.int .i64 D] (fun ρ hρ=>?_) ?_
 ·skip
  rw [hρ] at e0 e1
  have ef:ρ (.func 182)=.func (.func 182) #[] #[] :=(hρ _).symm
  clear hJ hsame AJ hcl hρ hsz
  go_simp
 ·refine(WI.out w').mono ?_
  rintro e w2 ⟨rfl,bb⟩
  exact⟨_,rfl,hJ.val ST.out (by decide) bb _ rfl⟩):P:=h
theorem T14_10 {P:Prop} (h:P:=by
 intro L a w' hL hsame hsz hJ AJ hcl
 have e0:a.eval (.tmp 39)=(.int .i64 ((b:Int)+1)):=AU (j:=8) (by kernel_rfl) (hJ.all 8 (by decide) (AZ AJ 8 (by kernel_rfl)))
 have e1:a.eval (.tmp 40)=(.int .i64 t):=AU (j:=9) (by kernel_rfl) (hJ.all 9 (by decide) (AZ AJ 9 (by kernel_rfl)))
 refine Step.val _ rfl rfl (AV rfl) (.int .i64 D) w' (fun ρ hρ=>?_) (hJ.val ST.out (by decide) (Below.refl _ _) _ rfl)
 rw [hρ] at e0 e1
 clear hJ hsame AJ hcl hρ hsz
 go_simp):P:=h
theorem T14_11 {P:Prop} (h:P:=by
 intro L a w' hL hsame hsz hJ AJ hcl
 have e0:a.eval (.tmp 42)=(.int .i64 q):=AU (j:=11) (by kernel_rfl) (hJ.all 11 (by decide) (AZ AJ 11 (by kernel_rfl)))
 have e1:a.eval (.tmp 44)=(.int .i64 G.AB):=AU (j:=13) (by kernel_rfl) (hJ.all 13 (by decide) (AZ AJ 13 (by kernel_rfl)))
 refine Step.val _ rfl rfl (AV rfl) (.int .i64 Q) w' (fun ρ hρ=>?_) (hJ.val ST.out (by decide) (Below.refl _ _) _ rfl)
 rw [hρ] at e0 e1
 clear hJ hsame AJ hcl hρ hsz
 go_simp):P:=h
theorem T14_14 {P:Prop} (h:P:=by
 intro L a w' hL hsame hsz hJ AJ hcl
 have e0:a.eval (.tmp 34)=(.int .i64 b):=AU (j:=3) (by kernel_rfl) (hJ.all 3 (by decide) (AZ AJ 3 (by kernel_rfl)))
 refine Step.val _ rfl rfl (AV rfl) (.int .i64 ((b:Int)+1)) w' (fun ρ hρ=>?_) (hJ.val ST.out (by decide) (Below.refl _ _) _ rfl)
 rw [hρ] at e0
 have ec1:ρ (.const (.int .i64 1))=(.int .i64 1):=(hρ _).symm
 clear hJ hsame AJ hcl hρ hsz
 go_simp):P:=h
theorem T14_15 {P:Prop} (h:P:=by
 intro L a w' hL hsame hsz hJ AJ hcl
 have e0:a.eval (.tmp 38)=(.int .i64 b):=AU (j:=7) (by kernel_rfl) (hJ.all 7 (by decide) (AZ AJ 7 (by kernel_rfl)))
 refine Step.val _ rfl rfl (AV rfl) (.int .i64 ((b:Int)+1)) w' (fun ρ hρ=>?_) (hJ.val ST.out (by decide) (Below.refl _ _) _ rfl)
 rw [hρ] at e0
 have ec1:ρ (.const (.int .i64 1))=(.int .i64 1):=(hρ _).symm
 clear hJ hsame AJ hcl hρ hsz
 go_simp):P:=h
theorem T14_16 {P:Prop} (h:P:=by
 intro L a w' hL hsame hsz hJ AJ hcl
 have e0:a.eval (.tmp 7)=(.pointer (some ⟨w.heap.size,0,none⟩)):=AY hsame (by kernel_rfl)
 obtain⟨q0,q1,q2,_⟩:=hJ.put.1.three
 refine Step.val _ rfl rfl (AV rfl) (.agg #[.int .i64 G.rows,.int .i64 G.AB,.slice (some ⟨g,0,none⟩) n cap]) w' (fun ρ hρ=>?_) (hJ.val ST.out (by decide) (Below.refl _ _) _ rfl)
 rw [hρ] at e0
 clear hJ hsame AJ hcl hρ hsz
 go_simp):P:=h
theorem T14_17 {P:Prop} (h:P:=by
 intro L a w' hL hsame hsz hJ AJ hcl
 have e0:a.eval (.tmp 43)=(.pointer (some ⟨w.heap.size,1,none⟩)):=AU (j:=12) (by kernel_rfl) (hJ.all 12 (by decide) (AZ AJ 12 (by kernel_rfl)))
 obtain⟨q0,q1,q2,_⟩:=hJ.put.1.three
 refine Step.val _ rfl rfl (AV rfl) (.int .i64 G.AB) w' (fun ρ hρ=>?_) (hJ.val ST.out (by decide) (Below.refl _ _) _ rfl)
 rw [hρ] at e0
 clear hJ hsame AJ hcl hρ hsz
 go_simp):P:=h
theorem T14_24 {P:Prop} (h:P:=by
 intro L a w' hL hsame hsz hJ AJ hcl
 have e0:a.eval (.tmp 7)=(.pointer (some ⟨w.heap.size,0,none⟩)):=AY hsame (by kernel_rfl)
 refine Step.val _ rfl rfl (AV rfl) (.pointer (some ⟨w.heap.size,1,none⟩)) w' (fun ρ hρ=>?_) (hJ.val ST.out (by decide) (Below.refl _ _) _ rfl)
 rw [hρ] at e0
 clear hJ hsame AJ hcl hρ hsz
 go_simp):P:=h
theorem T14_29 {P:Prop} (h:P:=by
 intro L a w' hL hsame hsz hJ AJ hcl
 have e0:a.eval (.tmp 2)=(.int .i64 t):=AY hsame (by kernel_rfl)
 refine Step.val _ rfl rfl (AV rfl) (.int .i64 t) w' (fun ρ hρ=>?_) (hJ.val ST.out (by decide) (Below.refl _ _) _ rfl)
 rw [hρ] at e0
 clear hJ hsame AJ hcl hρ hsz
 go_simp):P:=h
theorem T14_30 {P:Prop} (h:P:=by
 intro L a w' hL hsame hsz hJ AJ hcl
 have e0:a.eval (.tmp 3)=(.int .i64 b):=AY hsame (by kernel_rfl)
 refine Step.val _ rfl rfl (AV rfl) (.int .i64 b) w' (fun ρ hρ=>?_) (hJ.val ST.out (by decide) (Below.refl _ _) _ rfl)
 rw [hρ] at e0
 clear hJ hsame AJ hcl hρ hsz
 go_simp):P:=h
theorem TV {G:PG.Gr} {v:Value} {w:World} (hG:PG.BL G) (h:IsG w G v) (t b:Nat) (m:Int) (p:PG.Pn) (ht:t<=b) (hb:b<G.rows) (hm0:0<=m) (hm1:m<=65535):
  Calls Tryz.prog 145 #[.func (.func 208) #[] #[],v,.int .i64 t,.int .i64 b,.int .i64 m,pv p] w (Dk w (PG.Am G t b (-m) p)):=by
 obtain⟨A,cp,rfl,hl,h1,h2⟩:=h.open_
 have hR:=hG.2.1
 have hK:=hG.2.2.2.1
 have hK0:=hG.2.2.1
 have hnn:0*G.AB+0<G.rows*G.AB:=PG.Bt hG.1 hG.2.2.1
 obtain⟨c0,hc0'⟩: ∃c0,(PG.cells G)[0]? =some c0:=⟨_,List.getElem?_eq_getElem (by rw [PG.Aw];omega)⟩
 obtain⟨ad,rfl,_⟩:=hl.at_ hc0'
 clear hc0'
 have e1:t*G.AB+(b+1-t)*G.AB=(b+1)*G.AB:=by rw [<- Nat.add_mul];congr 1;omega
 have hle:(b+1)*G.AB<=G.rows*G.AB:=Nat.mul_le_mul_right _ hb
 have h24:=size_le hG
 have hMp:0<(b+1-t)*G.AB:=Nat.mul_pos (by omega) hK0
 obtain⟨D,hD⟩: ∃D,b+1-t=D:=⟨_,rfl⟩
 obtain⟨q,hk,hkm,hkd⟩: ∃q:Nat,((m<=(b:Int)+1-t/\m=q)\/((b:Int)+1-t<m/\q=b+1-t))/\((0<=m/\m<=D/\(q:Int)=m)\/(0<=(D:Int)/\(D:Int)<m/\(q:Int)=D))/\q<=D:=⟨(min m ((b:Int)+1-t)).toNat,by omega,by omega,by omega⟩
 have hQm:q*G.AB<=D*G.AB:=Nat.mul_le_mul_right _ hkd
 have hQe:(q:Int)*(G.AB:Int)=((q*G.AB:Nat):Int):=by simp
 have CL:=hide (fun w' (hb:Below w.heap.size w w')=>Ec G.rows G.AB (G.rows*G.AB) cp w.heap.size ad (PG.cells G) w' (hl.below hb) hb.size (by omega))
 have IP:=hide (fun (wx:World) g cap (x:Int) (he:EIn w G.rows G.AB (G.rows*G.AB) g cap p (PG.cells G) wx) (hx:x=t\/x=b)=>CG hG (v:=gv G.rows G.AB (.slice (some ⟨g,0,none⟩) (G.rows*G.AB) cap)) (w:=wx) ⟨_,rfl,own_base' he.2.2.2.1 (Nat.zero_le _)⟩ x 0 true (.inl ⟨rfl,by omega,by omega,by omega,by omega⟩))
 have RW:=hide (fun g cap (h1:G.rows*G.AB<=cap) (h2:cap<=maxLen) (wx:World)=>(show Calls Tryz.prog 181 #[gv G.rows G.AB (.slice (some ⟨g,0,none⟩) (G.rows*G.AB) cap),.int .i64 t,.int .i64 ((b:Int)+1)] wx fun e w'=>e=.returned (.slice (some ⟨g,t*G.AB*5,none⟩) ((b+1-t)*G.AB) (cap-t*G.AB))/\Below wx.heap.size wx w' by
  have h:=KQ G.rows G.AB (G.rows*G.AB) cap g t (b+1) (t*G.AB) ((b+1-t)*G.AB) wx rfl e1 rfl (by omega) hR hK h1 h2
  rw [Iq (n:=G.rows*G.AB) (by omega) h1 (by omega)] at h
  exact h))
 have MV:=hide (fun g cap cp (h1:(b+1-t)*G.AB<=cp) (h2:cp<=maxLen) (wx:World) (ho:wx.ownsRow w.heap.size 66 5 (.slice (some ⟨g,0,none⟩) (G.rows*G.AB) cap) (G.rows*G.AB) (Ag (PG.cells G)))=>TP hG ht hb rfl m hm0 q hk p h1 h2 ho)
 have WI:=hide (fun wx=>Ju m D q wx hkm)
 have HS:=hide (PG.Dq G t b (-m) p)
 have HLG:=hide (PG.Aw G)
 have HL2:=hide (show(PG.cells (PG.Am G t b (-m) p)).length=G.rows*G.AB by rw [PG.Aw,HS.out.1,HS.out.2])
 have HCL:=hide (rfl:PG.cells (PG.Am G t b (-m) p)=PG.cells (PG.Am G t b (-m) p))
 have GOT: ∀(g cap:Nat) (w3:World),w3.ownsRow w.heap.size 66 5 (.slice (some ⟨g,0,none⟩) (G.rows*G.AB) cap) (G.rows*G.AB) (Ag (PG.cells (PG.Am G t b (-m) p)))->Below w.heap.size w w3->Dk w (PG.Am G t b (-m) p) (.returned (gv G.rows G.AB (.slice (some ⟨g,0,none⟩) (G.rows*G.AB) cap))) w3:=fun g cap w3 ho hb=>by
  refine⟨_,rfl,⟨.slice (some ⟨g,0,none⟩) (G.rows*G.AB) cap,by rw [HS.out.1,HS.out.2],?_⟩,hb⟩
  rw [HS.out.1,HS.out.2]
  exact own_base' ho (Nat.zero_le _)
 have GOT:=hide GOT
 generalize PG.cells (PG.Am G t b (-m) p)=l2 at*
 generalize PG.cells G=l1 at*
 rw [hD] at MV RW e1 hMp
 have q0:(b:Int)+1-(t:Int)=(D:Int):=by omega
 have htb:(t:Int)<=(b:Int):=by omega
 have hrI:(b:Int)+1<=40:=by omega
 have hDb:D<=40:=by omega
 have hq4:q<=40:=by omega
 generalize q*G.AB=Q at*
 generalize D*G.AB=M at*
 generalize t*G.AB=z at*
 generalize (b+1)*G.AB=z2 at*
 generalize G.rows*G.AB=n at*
 unfold Jh at CL
 clear h hl h2
 unfold gv pv at*
 go_enter Tryz.func145,Tryz.ntmps145
 go_upto_region 2 with (
      go_at_call 179
      obtain⟨x0,x1,x2,bw⟩:=Ce (w:=w) (t0:=37) (t1:=38) (t2:=37) (cs:= #[.int .i64 G.rows,.int .i64 G.AB,.slice (some ad) n cp]) (ds:= #[.int .i64 p.1,.int .i64 p.2.1,.int .i64 p.2.2]) (es:= #[.int .i64 0,.int .i64 0,.slice none 0 0])
      go_must (refine(CL.out _ bw).mono ?_)
      rintro e w1 ⟨v1,rfl,o1,b1⟩
      rw [HLG.out] at o1
      obtain⟨g,cap,rfl,hgb,hnc,hcm⟩:=Fe o1 (by omega)
      have y0:=x0.below b1 x0.lt
      have y1:=x1.below b1 x1.lt
      have y2:=x2.below b1 x2.lt
      have bb:=bw.trans (b1.mono bw.size)
      have o1:=own_base' o1 bw.size
      obtain⟨a0,a1,a2,a3,a4,a5⟩:=y0.three
      have n0:=Aa o1 y0 (by decide)
      have X0:=(y0.Cu (.int .i64 G.rows) (.int .i64 G.AB) (.slice (some ⟨g,0,none⟩) n cap))
      have X1:=(y1.E9 (g':=w.heap.size) (by omega) (.int .i64 G.rows) (.int .i64 G.AB) (.slice (some ⟨g,0,none⟩) n cap))
      have X2:=(y2.E9 (g':=w.heap.size) (by omega) (.int .i64 G.rows) (.int .i64 G.AB) (.slice (some ⟨g,0,none⟩) n cap))
      have O:=(ownsRow_setCell_other (ownsRow_setCell_other (ownsRow_setCell_other o1 (a:=⟨w.heap.size,0,none⟩) n0 (.int .i64 G.rows)) (a:=⟨w.heap.size,1,none⟩) n0 (.int .i64 G.AB)) (a:=⟨w.heap.size,2,none⟩) n0 (.slice (some ⟨g,0,none⟩) n cap))
      have bs:=(BN bb (Nat.le_refl _) (.int .i64 G.rows) (.int .i64 G.AB) (.slice (some ⟨g,0,none⟩) n cap))
      have H:=hide (show EIn w G.rows G.AB n g cap p l1 _ from⟨X0,X1,X2,O,bs⟩)
      clear x0 x1 x2 bw b1 y0 y1 y2 CL o1 n0 bb X0 X1 X2 O bs)
 go_cut [29] (fun u wx=>u=.bool false/\EIn w G.rows G.AB n g cap p l1 wx)
 case first=>
  generalize (((w1.setCell ⟨w.heap.size,0,none⟩ (.int .i64 G.rows)).setCell ⟨w.heap.size,1,none⟩ (.int .i64 G.AB)).setCell ⟨w.heap.size,2,none⟩ (.slice (some ⟨g,0,none⟩) n cap))=w0 at*
  obtain⟨s0,s1,s2,_⟩:=H.out.1.three
  clear a0 a1 a2 a3 a4 a5
  have hdb:decide (b<t)=false:=by simp;omega
  go_wp2_with (
   go_at_call 180
   go_must (refine(IP.out _ g cap _ H.out (by first | exact Or.inl rfl | exact Or.inr rfl)).mono ?_)
   rintro e w2 ⟨rfl,b2⟩
   have H:=hide (H.out.call b2)
   clear b2
   obtain⟨r0,r1,r2,_⟩:=H.out.1.three)
  go_meet
  exact⟨rfl,H.out⟩
 case rest=>
 obtain⟨rfl,H⟩:=hcut
 have H:=hide H
 go_upto_region 4 with fail
 have MV:=hide (MV.out g cap (cap-z) (by omega) (by simp only [maxLen] at hcm⊢;omega))
 have RW:=hide (RW.out g cap hnc hcm)
 have WI:=hide (fun wx=>(WI.out wx).mono (fun e w' h=>(show e=.returned (.int .i64 q)/\Below wx.heap.size wx w' from⟨h.1,h.2▸Below.refl _ _⟩)))
 have ST:=hide (show∀(b:Bool) (x y:World),EIn w G.rows G.AB n g cap p (if b=true then l2 else l1) x->Below x.heap.size x y->EIn w G.rows G.AB n g cap p (if b=true then l2 else l1) y from fun b x y h hb=>h.call hb)
 have FIN:=hide (show∀(x y:World),EIn w G.rows G.AB n g cap p (if false=true then l2 else l1) x->(y.ownsRow w.heap.size 66 5 (.slice (some ⟨g,0,none⟩) n cap) n (Ag l2)/\Kept [some g] x y)->EIn w G.rows G.AB n g cap p (if true=true then l2 else l1) y from fun x y h h2=>EIn.wrote h h2.1 h2.2)
 have qb:IntKind.i64.wrap ((b:Int)+1)=(b:Int)+1:=IntWalk.i64_in _ (by omega)
 have qw:IntKind.i64.wrap (D:Int)=(D:Int):=IntWalk.i64_in _ (by omega)
 have qQ:IntKind.i64.wrap (Q:Int)=(Q:Int):=IntWalk.i64_in _ (by omega)
 go_cut [] (fun wx=>EIn w G.rows G.AB n g cap p l2 wx)
 case first=>
  have H0:=hide (show EIn w G.rows G.AB n g cap p (if false=true then l2 else l1) _ from H.out.drew)
  refine DF (n:=49) (TJ 16 (fun b wx=>EIn w G.rows G.AB n g cap p (if b=true then l2 else l1) wx) (fun j=> [(.func (.func 208) #[] #[]),(.agg #[.int .i64 G.rows,.int .i64 G.AB,.slice (some ⟨g,0,none⟩) n cap]),(.int .i64 t),(.int .i64 b),(.int .i64 ((b:Int)+1)),(.slice (some ⟨g,z*5,none⟩) M (cap-z)),(.int .i64 m),(.int .i64 b),(.int .i64 ((b:Int)+1)),(.int .i64 t),(.int .i64 D),(.int .i64 q),(.pointer (some ⟨w.heap.size,1,none⟩)),(.int .i64 G.AB),(.int .i64 Q),(.agg #[.int .i64 p.1,.int .i64 p.2.1,.int .i64 p.2.2])].getD j undef)) (by kernel_rfl) (by kernel_rfl) (by kernel_rfl) rfl (fun L u u' wx he hj=>hj.same he) (Oa ⟨?_,?_,?_,?_,?_,?_,?_,?_,?_,?_,?_,?_,?_,?_,?_,?_,?_⟩) ?_ ⟨H0.out,fun j _ h=>by cases h⟩
  ·exact T14_25
  ·exact T14_16
  ·exact T14_29
  ·exact T14_30
  ·exact T14_14
  ·exact T14_5
  ·exact T14_28
  ·exact T14_30
  ·exact T14_15
  ·exact T14_29
  ·exact T14_10
  ·exact T14_7
  ·exact T14_24
  ·exact T14_17
  ·exact T14_11
  ·exact T14_20
  ·intro L a w' hL hsame hsz hJ AJ hcl
   have e0:a.eval (.tmp 31)=(.func (.func 208) #[] #[]):=AU (j:=0) (by kernel_rfl) (hJ.all 0 (by decide) (AZ AJ 0 (by kernel_rfl)))
   have e1:a.eval (.tmp 36)=(.slice (some ⟨g,z*5,none⟩) M (cap-z)):=AU (j:=5) (by kernel_rfl) (hJ.all 5 (by decide) (AZ AJ 5 (by kernel_rfl)))
   have e2:a.eval (.tmp 45)=(.int .i64 Q):=AU (j:=14) (by kernel_rfl) (hJ.all 14 (by decide) (AZ AJ 14 (by kernel_rfl)))
   have e3:a.eval (.tmp 46)=(.agg #[.int .i64 p.1,.int .i64 p.2.1,.int .i64 p.2.2]):=AU (j:=15) (by kernel_rfl) (hJ.all 15 (by decide) (AZ AJ 15 (by kernel_rfl)))
   refine Step.call _ rfl rfl (AV rfl) 208 #[.slice (some ⟨g,z*5,none⟩) M (cap-z),.int .i64 Q,.agg #[.int .i64 p.1,.int .i64 p.2.1,.int .i64 p.2.2]] (fun ρ hρ=>?_) ?_
   ·skip
    rw [hρ] at e0 e1 e2 e3
    clear hJ hsame AJ hcl hρ hsz
    go_simp
   ·have hL0:L 16=false:=hL
    have hp:=hJ.put
    rw [hL0] at hp
    refine(MV.out w' hp.2.2.2.1).mono ?_
    rintro e w2 ⟨rfl,h2⟩
    exact⟨_,rfl,hJ.fin _ (FIN.out _ _ hp h2)⟩
  ·intro L a w' hsame hsz hJ hall
   obtain⟨u,hu,ha⟩:=EY hsame
   have h:=hJ.put
   rw [hall 16 (by decide)] at h
   have h:=hide h
   clear hJ hall hsz hu hsame
   subst ha
   change Exit.then _ _ Exit.normal (Act.put (Act.put (Act.put (Act.put (Act.put (Act.put (Act.put (Act.put (Act.put (Act.put (Act.put (Act.put (Act.put (Act.put (Act.put (Act.put (Act.put (Az _ u 0 _) (some 31) (u 0)) (some 32) (u 1)) (some 33) (u 2)) (some 34) (u 3)) (some 35) (u 4)) (some 36) (u 5)) (some 37) (u 6)) (some 38) (u 7)) (some 39) (u 8)) (some 40) (u 9)) (some 41) (u 10)) (some 42) (u 11)) (some 43) (u 12)) (some 44) (u 13)) (some 45) (u 14)) (some 46) (u 15)) (some 47) (u 16)) _
   simp only [Az]
   generalize u 0=v0
   generalize u 1=v1
   generalize u 2=v2
   generalize u 3=v3
   generalize u 4=v4
   generalize u 5=v5
   generalize u 6=v6
   generalize u 7=v7
   generalize u 8=v8
   generalize u 9=v9
   generalize u 10=v10
   generalize u 11=v11
   generalize u 12=v12
   generalize u 13=v13
   generalize u 14=v14
   generalize u 15=v15
   generalize u 16=v16
   go_simp
   go_step
   go_meet
   exact h.out
 case rest=>
  exact T14_4
theorem TW {G:PG.Gr} {v:Value} {w:World} (hG:PG.BL G) (h:IsG w G v) (t b:Nat) (m:Int) (p:PG.Pn) (ht:t<=b) (hb:b<G.rows) (hm0:0<=m) (hm1:m<=65535):
  Calls Tryz.prog 145 #[.func (.func 146) #[] #[],v,.int .i64 t,.int .i64 b,.int .i64 m,pv p] w (Dk w (PG.Am G t b m p)):=by
 obtain⟨A,cp,rfl,hl,h1,h2⟩:=h.open_
 have hR:=hG.2.1
 have hK:=hG.2.2.2.1
 have hK0:=hG.2.2.1
 have hnn:0*G.AB+0<G.rows*G.AB:=PG.Bt hG.1 hG.2.2.1
 obtain⟨c0,hc0'⟩: ∃c0,(PG.cells G)[0]? =some c0:=⟨_,List.getElem?_eq_getElem (by rw [PG.Aw];omega)⟩
 obtain⟨ad,rfl,_⟩:=hl.at_ hc0'
 clear hc0'
 have e1:t*G.AB+(b+1-t)*G.AB=(b+1)*G.AB:=by rw [<- Nat.add_mul];congr 1;omega
 have hle:(b+1)*G.AB<=G.rows*G.AB:=Nat.mul_le_mul_right _ hb
 have h24:=size_le hG
 have hMp:0<(b+1-t)*G.AB:=Nat.mul_pos (by omega) hK0
 obtain⟨D,hD⟩: ∃D,b+1-t=D:=⟨_,rfl⟩
 obtain⟨q,hk,hkm,hkd⟩: ∃q:Nat,((m<=(b:Int)+1-t/\m=q)\/((b:Int)+1-t<m/\q=b+1-t))/\((0<=m/\m<=D/\(q:Int)=m)\/(0<=(D:Int)/\(D:Int)<m/\(q:Int)=D))/\q<=D:=⟨(min m ((b:Int)+1-t)).toNat,by omega,by omega,by omega⟩
 have hQm:q*G.AB<=D*G.AB:=Nat.mul_le_mul_right _ hkd
 have hQe:(q:Int)*(G.AB:Int)=((q*G.AB:Nat):Int):=by simp
 have CL:=hide (fun w' (hb:Below w.heap.size w w')=>Ec G.rows G.AB (G.rows*G.AB) cp w.heap.size ad (PG.cells G) w' (hl.below hb) hb.size (by omega))
 have IP:=hide (fun (wx:World) g cap (x:Int) (he:EIn w G.rows G.AB (G.rows*G.AB) g cap p (PG.cells G) wx) (hx:x=t\/x=b)=>CG hG (v:=gv G.rows G.AB (.slice (some ⟨g,0,none⟩) (G.rows*G.AB) cap)) (w:=wx) ⟨_,rfl,own_base' he.2.2.2.1 (Nat.zero_le _)⟩ x 0 true (.inl ⟨rfl,by omega,by omega,by omega,by omega⟩))
 have RW:=hide (fun g cap (h1:G.rows*G.AB<=cap) (h2:cap<=maxLen) (wx:World)=>(show Calls Tryz.prog 181 #[gv G.rows G.AB (.slice (some ⟨g,0,none⟩) (G.rows*G.AB) cap),.int .i64 t,.int .i64 ((b:Int)+1)] wx fun e w'=>e=.returned (.slice (some ⟨g,t*G.AB*5,none⟩) ((b+1-t)*G.AB) (cap-t*G.AB))/\Below wx.heap.size wx w' by
  have h:=KQ G.rows G.AB (G.rows*G.AB) cap g t (b+1) (t*G.AB) ((b+1-t)*G.AB) wx rfl e1 rfl (by omega) hR hK h1 h2
  rw [Iq (n:=G.rows*G.AB) (by omega) h1 (by omega)] at h
  exact h))
 have MV:=hide (fun g cap cp (h1:(b+1-t)*G.AB<=cp) (h2:cp<=maxLen) (wx:World) (ho:wx.ownsRow w.heap.size 66 5 (.slice (some ⟨g,0,none⟩) (G.rows*G.AB) cap) (G.rows*G.AB) (Ag (PG.cells G)))=>TR hG ht hb rfl m hm0 q hk p h1 h2 ho)
 have WI:=hide (fun wx=>Ju m D q wx hkm)
 have HS:=hide (PG.Dq G t b m p)
 have HLG:=hide (PG.Aw G)
 have HL2:=hide (show(PG.cells (PG.Am G t b m p)).length=G.rows*G.AB by rw [PG.Aw,HS.out.1,HS.out.2])
 have HCL:=hide (rfl:PG.cells (PG.Am G t b m p)=PG.cells (PG.Am G t b m p))
 have GOT: ∀(g cap:Nat) (w3:World),w3.ownsRow w.heap.size 66 5 (.slice (some ⟨g,0,none⟩) (G.rows*G.AB) cap) (G.rows*G.AB) (Ag (PG.cells (PG.Am G t b m p)))->Below w.heap.size w w3->Dk w (PG.Am G t b m p) (.returned (gv G.rows G.AB (.slice (some ⟨g,0,none⟩) (G.rows*G.AB) cap))) w3:=fun g cap w3 ho hb=>by
  refine⟨_,rfl,⟨.slice (some ⟨g,0,none⟩) (G.rows*G.AB) cap,by rw [HS.out.1,HS.out.2],?_⟩,hb⟩
  rw [HS.out.1,HS.out.2]
  exact own_base' ho (Nat.zero_le _)
 have GOT:=hide GOT
 generalize PG.cells (PG.Am G t b m p)=l2 at*
 generalize PG.cells G=l1 at*
 rw [hD] at MV RW e1 hMp
 have q0:(b:Int)+1-(t:Int)=(D:Int):=by omega
 have htb:(t:Int)<=(b:Int):=by omega
 have hrI:(b:Int)+1<=40:=by omega
 have hDb:D<=40:=by omega
 have hq4:q<=40:=by omega
 generalize q*G.AB=Q at*
 generalize D*G.AB=M at*
 generalize t*G.AB=z at*
 generalize (b+1)*G.AB=z2 at*
 generalize G.rows*G.AB=n at*
 unfold Jh at CL
 clear h hl h2
 unfold gv pv at*
 go_enter Tryz.func145,Tryz.ntmps145
 go_upto_region 2 with (
      go_at_call 179
      obtain⟨x0,x1,x2,bw⟩:=Ce (w:=w) (t0:=37) (t1:=38) (t2:=37) (cs:= #[.int .i64 G.rows,.int .i64 G.AB,.slice (some ad) n cp]) (ds:= #[.int .i64 p.1,.int .i64 p.2.1,.int .i64 p.2.2]) (es:= #[.int .i64 0,.int .i64 0,.slice none 0 0])
      go_must (refine(CL.out _ bw).mono ?_)
      rintro e w1 ⟨v1,rfl,o1,b1⟩
      rw [HLG.out] at o1
      obtain⟨g,cap,rfl,hgb,hnc,hcm⟩:=Fe o1 (by omega)
      have y0:=x0.below b1 x0.lt
      have y1:=x1.below b1 x1.lt
      have y2:=x2.below b1 x2.lt
      have bb:=bw.trans (b1.mono bw.size)
      have o1:=own_base' o1 bw.size
      obtain⟨a0,a1,a2,a3,a4,a5⟩:=y0.three
      have n0:=Aa o1 y0 (by decide)
      have X0:=(y0.Cu (.int .i64 G.rows) (.int .i64 G.AB) (.slice (some ⟨g,0,none⟩) n cap))
      have X1:=(y1.E9 (g':=w.heap.size) (by omega) (.int .i64 G.rows) (.int .i64 G.AB) (.slice (some ⟨g,0,none⟩) n cap))
      have X2:=(y2.E9 (g':=w.heap.size) (by omega) (.int .i64 G.rows) (.int .i64 G.AB) (.slice (some ⟨g,0,none⟩) n cap))
      have O:=(ownsRow_setCell_other (ownsRow_setCell_other (ownsRow_setCell_other o1 (a:=⟨w.heap.size,0,none⟩) n0 (.int .i64 G.rows)) (a:=⟨w.heap.size,1,none⟩) n0 (.int .i64 G.AB)) (a:=⟨w.heap.size,2,none⟩) n0 (.slice (some ⟨g,0,none⟩) n cap))
      have bs:=(BN bb (Nat.le_refl _) (.int .i64 G.rows) (.int .i64 G.AB) (.slice (some ⟨g,0,none⟩) n cap))
      have H:=hide (show EIn w G.rows G.AB n g cap p l1 _ from⟨X0,X1,X2,O,bs⟩)
      clear x0 x1 x2 bw b1 y0 y1 y2 CL o1 n0 bb X0 X1 X2 O bs)
 go_cut [29] (fun u wx=>u=.bool false/\EIn w G.rows G.AB n g cap p l1 wx)
 case first=>
  generalize (((w1.setCell ⟨w.heap.size,0,none⟩ (.int .i64 G.rows)).setCell ⟨w.heap.size,1,none⟩ (.int .i64 G.AB)).setCell ⟨w.heap.size,2,none⟩ (.slice (some ⟨g,0,none⟩) n cap))=w0 at*
  obtain⟨s0,s1,s2,_⟩:=H.out.1.three
  clear a0 a1 a2 a3 a4 a5
  have hdb:decide (b<t)=false:=by simp;omega
  go_wp2_with (
   go_at_call 180
   go_must (refine(IP.out _ g cap _ H.out (by first | exact Or.inl rfl | exact Or.inr rfl)).mono ?_)
   rintro e w2 ⟨rfl,b2⟩
   have H:=hide (H.out.call b2)
   clear b2
   obtain⟨r0,r1,r2,_⟩:=H.out.1.three)
  go_meet
  exact⟨rfl,H.out⟩
 case rest=>
 obtain⟨rfl,H⟩:=hcut
 have H:=hide H
 go_upto_region 4 with fail
 have MV:=hide (MV.out g cap (cap-z) (by omega) (by simp only [maxLen] at hcm⊢;omega))
 have RW:=hide (RW.out g cap hnc hcm)
 have WI:=hide (fun wx=>(WI.out wx).mono (fun e w' h=>(show e=.returned (.int .i64 q)/\Below wx.heap.size wx w' from⟨h.1,h.2▸Below.refl _ _⟩)))
 have ST:=hide (show∀(b:Bool) (x y:World),EIn w G.rows G.AB n g cap p (if b=true then l2 else l1) x->Below x.heap.size x y->EIn w G.rows G.AB n g cap p (if b=true then l2 else l1) y from fun b x y h hb=>h.call hb)
 have FIN:=hide (show∀(x y:World),EIn w G.rows G.AB n g cap p (if false=true then l2 else l1) x->(y.ownsRow w.heap.size 66 5 (.slice (some ⟨g,0,none⟩) n cap) n (Ag l2)/\Kept [some g] x y)->EIn w G.rows G.AB n g cap p (if true=true then l2 else l1) y from fun x y h h2=>EIn.wrote h h2.1 h2.2)
 have qb:IntKind.i64.wrap ((b:Int)+1)=(b:Int)+1:=IntWalk.i64_in _ (by omega)
 have qw:IntKind.i64.wrap (D:Int)=(D:Int):=IntWalk.i64_in _ (by omega)
 have qQ:IntKind.i64.wrap (Q:Int)=(Q:Int):=IntWalk.i64_in _ (by omega)
 go_cut [] (fun wx=>EIn w G.rows G.AB n g cap p l2 wx)
 case first=>
  have H0:=hide (show EIn w G.rows G.AB n g cap p (if false=true then l2 else l1) _ from H.out.drew)
  refine DF (n:=49) (TJ 16 (fun b wx=>EIn w G.rows G.AB n g cap p (if b=true then l2 else l1) wx) (fun j=> [(.func (.func 146) #[] #[]),(.agg #[.int .i64 G.rows,.int .i64 G.AB,.slice (some ⟨g,0,none⟩) n cap]),(.int .i64 t),(.int .i64 b),(.int .i64 ((b:Int)+1)),(.slice (some ⟨g,z*5,none⟩) M (cap-z)),(.int .i64 m),(.int .i64 b),(.int .i64 ((b:Int)+1)),(.int .i64 t),(.int .i64 D),(.int .i64 q),(.pointer (some ⟨w.heap.size,1,none⟩)),(.int .i64 G.AB),(.int .i64 Q),(.agg #[.int .i64 p.1,.int .i64 p.2.1,.int .i64 p.2.2])].getD j undef)) (by kernel_rfl) (by kernel_rfl) (by kernel_rfl) rfl (fun L u u' wx he hj=>hj.same he) (Oa ⟨?_,?_,?_,?_,?_,?_,?_,?_,?_,?_,?_,?_,?_,?_,?_,?_,?_⟩) ?_ ⟨H0.out,fun j _ h=>by cases h⟩
  ·exact T14_26
  ·exact T14_16
  ·exact T14_29
  ·exact T14_30
  ·exact T14_14
  ·exact T14_5
  ·exact T14_28
  ·exact T14_30
  ·exact T14_15
  ·exact T14_29
  ·exact T14_10
  ·exact T14_7
  ·exact T14_24
  ·exact T14_17
  ·exact T14_11
  ·exact T14_20
  ·intro L a w' hL hsame hsz hJ AJ hcl
   have e0:a.eval (.tmp 31)=(.func (.func 146) #[] #[]):=AU (j:=0) (by kernel_rfl) (hJ.all 0 (by decide) (AZ AJ 0 (by kernel_rfl)))
   have e1:a.eval (.tmp 36)=(.slice (some ⟨g,z*5,none⟩) M (cap-z)):=AU (j:=5) (by kernel_rfl) (hJ.all 5 (by decide) (AZ AJ 5 (by kernel_rfl)))
   have e2:a.eval (.tmp 45)=(.int .i64 Q):=AU (j:=14) (by kernel_rfl) (hJ.all 14 (by decide) (AZ AJ 14 (by kernel_rfl)))
   have e3:a.eval (.tmp 46)=(.agg #[.int .i64 p.1,.int .i64 p.2.1,.int .i64 p.2.2]):=AU (j:=15) (by kernel_rfl) (hJ.all 15 (by decide) (AZ AJ 15 (by kernel_rfl)))
   refine Step.call _ rfl rfl (AV rfl) 146 #[.slice (some ⟨g,z*5,none⟩) M (cap-z),.int .i64 Q,.agg #[.int .i64 p.1,.int .i64 p.2.1,.int .i64 p.2.2]] (fun ρ hρ=>?_) ?_
   ·skip
    rw [hρ] at e0 e1 e2 e3
    clear hJ hsame AJ hcl hρ hsz
    go_simp
   ·have hL0:L 16=false:=hL
    have hp:=hJ.put
    rw [hL0] at hp
    refine(MV.out w' hp.2.2.2.1).mono ?_
    rintro e w2 ⟨rfl,h2⟩
    exact⟨_,rfl,hJ.fin _ (FIN.out _ _ hp h2)⟩
  ·intro L a w' hsame hsz hJ hall
   obtain⟨u,hu,ha⟩:=EY hsame
   have h:=hJ.put
   rw [hall 16 (by decide)] at h
   have h:=hide h
   clear hJ hall hsz hu hsame
   subst ha
   change Exit.then _ _ Exit.normal (Act.put (Act.put (Act.put (Act.put (Act.put (Act.put (Act.put (Act.put (Act.put (Act.put (Act.put (Act.put (Act.put (Act.put (Act.put (Act.put (Act.put (Az _ u 0 _) (some 31) (u 0)) (some 32) (u 1)) (some 33) (u 2)) (some 34) (u 3)) (some 35) (u 4)) (some 36) (u 5)) (some 37) (u 6)) (some 38) (u 7)) (some 39) (u 8)) (some 40) (u 9)) (some 41) (u 10)) (some 42) (u 11)) (some 43) (u 12)) (some 44) (u 13)) (some 45) (u 14)) (some 46) (u 15)) (some 47) (u 16)) _
   simp only [Az]
   generalize u 0=v0
   generalize u 1=v1
   generalize u 2=v2
   generalize u 3=v3
   generalize u 4=v4
   generalize u 5=v5
   generalize u 6=v6
   generalize u 7=v7
   generalize u 8=v8
   generalize u 9=v9
   generalize u 10=v10
   generalize u 11=v11
   generalize u 12=v12
   generalize u 13=v13
   generalize u 14=v14
   generalize u 15=v15
   generalize u 16=v16
   go_simp
   go_step
   go_meet
   exact h.out
 case rest=>
  exact T14_4
end Go.Proofs.YtoaabebgmdbjeaaGreatDoor
namespace Go.Proofs.YtoaabebgmdbjeaaGreatDoor
open Go.RowKit
theorem T14_19 {P:Prop} (h:P:=by
 have n2:=Aa H.2.2.2.1 H.2.2.1 (by decide)
 exact⟨_,rfl,⟨_,rfl,own_base' (ownsRow_setCell_other (ownsRow_setCell_other (ownsRow_setCell_other H.2.2.2.1 (a:=⟨w.heap.size+1+1,0,none⟩) n2 (.int .i64 G.rows)) (a:=⟨w.heap.size+1+1,1,none⟩) n2 (.int .i64 G.AB)) (a:=⟨w.heap.size+1+1,2,none⟩) n2 (.slice (some ⟨g,0,none⟩) (G.rows*G.AB) cap)) (Nat.zero_le _)⟩,BN H.2.2.2.2 (by omega) _ _ _⟩):P:=h
theorem OB {G:PG.Gr} {v:Value} {w:World} (hG:PG.BL G) (h:IsG w G v) (fv:Value) (r c m:Int) (p:PG.Pn) (hp: ¬(0<=r/\r<G.rows/\0<=c/\c<G.AB)):
  Calls Tryz.prog 209 #[fv,v,.int .i64 r,.int .i64 c,.int .i64 m,pv p] w (Dk w G):=by
 obtain⟨A,cp,rfl,hl,h1,h2⟩:=h.open_
 have hnn:0*G.AB+0<G.rows*G.AB:=PG.Bt hG.1 hG.2.2.1
 obtain⟨c0,hc0'⟩: ∃c0,(PG.cells G)[0]? =some c0:=⟨_,List.getElem?_eq_getElem (by rw [PG.Aw];omega)⟩
 obtain⟨ad,rfl,_⟩:=hl.at_ hc0'
 clear hc0'
 have h24:=size_le hG
 have hR:=hG.2.1
 have CL:=hide (fun w' (hb:Below w.heap.size w w')=>Ec G.rows G.AB (G.rows*G.AB) cp w.heap.size ad (PG.cells G) w' (hl.below hb) hb.size (by omega))
 have HLG:=hide (PG.Aw G)
 have IP:=hide (fun (wx:World) g cap (x y:Int) (z:Bool) (he:EIn w G.rows G.AB (G.rows*G.AB) g cap p (PG.cells G) wx) hb=>CG hG (v:=gv G.rows G.AB (.slice (some ⟨g,0,none⟩) (G.rows*G.AB) cap)) (w:=wx) ⟨_,rfl,own_base' he.2.2.2.1 (Nat.zero_le _)⟩ x y z hb)
 have GOT: ∀(g cap:Nat) (w3:World),EIn w G.rows G.AB (G.rows*G.AB) g cap p (PG.cells G) w3->Dk w G (.returned (gv G.rows G.AB (.slice (some ⟨g,0,none⟩) (G.rows*G.AB) cap))) (((w3.setCell ⟨w.heap.size+1+1,0,none⟩ (.int .i64 G.rows)).setCell ⟨w.heap.size+1+1,1,none⟩ (.int .i64 G.AB)).setCell ⟨w.heap.size+1+1,2,none⟩ (.slice (some ⟨g,0,none⟩) (G.rows*G.AB) cap)):=fun g cap w3 H=>by
  exact T14_19
 have GOT:=hide GOT
 have hp:=hide hp
 clear h hl h2 hR
 generalize G.rows*G.AB=n at*
 unfold Jh at CL
 unfold gv pv at*
 go_enter Tryz.func209,Tryz.ntmps209
 go_wp2_with (first
  | (go_at_call 179
     obtain⟨x0,x1,x2,bw⟩:=Ce (w:=w) (t0:=37) (t1:=38) (t2:=37) (cs:= #[.int .i64 G.rows,.int .i64 G.AB,.slice (some ad) n cp]) (ds:= #[.int .i64 p.1,.int .i64 p.2.1,.int .i64 p.2.2]) (es:= #[.int .i64 0,.int .i64 0,.slice none 0 0])
     go_must (refine(CL.out _ bw).mono ?_)
     rintro e w1 ⟨v1,rfl,o1,b1⟩
     rw [HLG.out] at o1
     obtain⟨g,cap,rfl,hgb,hnc,hcm⟩:=Fe o1 (by omega)
     have y0:=x0.below b1 x0.lt
     have y1:=x1.below b1 x1.lt
     have y2:=x2.below b1 x2.lt
     have bb:=bw.trans (b1.mono bw.size)
     have o1:=own_base' o1 bw.size
     obtain⟨a0,a1,a2,a3,a4,a5⟩:=y0.three
     have n0:=Aa o1 y0 (by decide)
     have X0:=(y0.Cu (.int .i64 G.rows) (.int .i64 G.AB) (.slice (some ⟨g,0,none⟩) n cap))
     have X1:=(y1.E9 (g':=w.heap.size) (by omega) (.int .i64 G.rows) (.int .i64 G.AB) (.slice (some ⟨g,0,none⟩) n cap))
     have X2:=(y2.E9 (g':=w.heap.size) (by omega) (.int .i64 G.rows) (.int .i64 G.AB) (.slice (some ⟨g,0,none⟩) n cap))
     have O:=(ownsRow_setCell_other (ownsRow_setCell_other (ownsRow_setCell_other o1 (a:=⟨w.heap.size,0,none⟩) n0 (.int .i64 G.rows)) (a:=⟨w.heap.size,1,none⟩) n0 (.int .i64 G.AB)) (a:=⟨w.heap.size,2,none⟩) n0 (.slice (some ⟨g,0,none⟩) n cap))
     have bs:=(BN bb (Nat.le_refl _) (.int .i64 G.rows) (.int .i64 G.AB) (.slice (some ⟨g,0,none⟩) n cap))
     have H:=hide (show EIn w G.rows G.AB n g cap p (PG.cells G) _ from⟨X0,X1,X2,O,bs⟩)
     clear x0 x1 x2 bw b1 y0 y1 y2 CL o1 n0 bb X0 X1 X2 O bs)
  | (go_at_call 180
     go_must (refine(IP.out _ g cap r c false H.out (.inr ⟨rfl,hp.out⟩)).mono ?_)
     rintro e w2 ⟨rfl,b2⟩
     have H:=hide (H.out.call b2)
     obtain⟨a0,a1,a2,a3,a4,a5⟩:=H.out.1.three
     obtain⟨j0,j1,j2,f0,f1,f2⟩:=H.out.2.2.1.three
     clear b2))
 have X2:=H.out.2.2.1.Cu (.int .i64 G.rows) (.int .i64 G.AB) (.slice (some ⟨g,0,none⟩) n cap)
 obtain⟨i0',i1',i2',_⟩:=X2.three
 refine bodyPost_ret (v:=.agg #[.int .i64 G.rows,.int .i64 G.AB,.slice (some ⟨g,0,none⟩) n cap]) (by simp [results,Tryz.results209,go_sem,i0',i1',i2']) rfl (GOT.out g cap _ H.out)
theorem OC {G:PG.Gr} {v:Value} {w:World} (hG:PG.BL G) (h:IsG w G v) (fv:Value) (r c m:Int) (p:PG.Pn) (hp: ¬(0<=r/\r<=c/\c<G.rows)):
  Calls Tryz.prog 145 #[fv,v,.int .i64 r,.int .i64 c,.int .i64 m,pv p] w (Dk w G):=by
 obtain⟨A,cp,rfl,hl,h1,h2⟩:=h.open_
 have hnn:0*G.AB+0<G.rows*G.AB:=PG.Bt hG.1 hG.2.2.1
 obtain⟨c0,hc0'⟩: ∃c0,(PG.cells G)[0]? =some c0:=⟨_,List.getElem?_eq_getElem (by rw [PG.Aw];omega)⟩
 obtain⟨ad,rfl,_⟩:=hl.at_ hc0'
 clear hc0'
 have h24:=size_le hG
 have hR:=hG.2.1
 have CL:=hide (fun w' (hb:Below w.heap.size w w')=>Ec G.rows G.AB (G.rows*G.AB) cp w.heap.size ad (PG.cells G) w' (hl.below hb) hb.size (by omega))
 have HLG:=hide (PG.Aw G)
 have IP:=hide (fun (wx:World) g cap (x y:Int) (z:Bool) (he:EIn w G.rows G.AB (G.rows*G.AB) g cap p (PG.cells G) wx) hb=>CG hG (v:=gv G.rows G.AB (.slice (some ⟨g,0,none⟩) (G.rows*G.AB) cap)) (w:=wx) ⟨_,rfl,own_base' he.2.2.2.1 (Nat.zero_le _)⟩ x y z hb)
 have GOT: ∀(g cap:Nat) (w3:World),EIn w G.rows G.AB (G.rows*G.AB) g cap p (PG.cells G) w3->Dk w G (.returned (gv G.rows G.AB (.slice (some ⟨g,0,none⟩) (G.rows*G.AB) cap))) (((w3.setCell ⟨w.heap.size+1+1,0,none⟩ (.int .i64 G.rows)).setCell ⟨w.heap.size+1+1,1,none⟩ (.int .i64 G.AB)).setCell ⟨w.heap.size+1+1,2,none⟩ (.slice (some ⟨g,0,none⟩) (G.rows*G.AB) cap)):=fun g cap w3 H=>by
  exact T14_19
 have GOT:=hide GOT
 obtain⟨ans,iJ⟩: ∃ans:Int->Bool, ∀x,(ans x=true/\0<=x/\x<G.rows)\/(ans x=false/\ ¬(0<=x/\x<G.rows)):=⟨fun x=>decide (0<=x/\x<G.rows),fun x=>by
  by_cases h:0<=x/\x<(G.rows:Int)
  ·exact .inl ⟨by simpa using h,h⟩
  ·exact .inr ⟨by simpa using h,h⟩⟩
 have IP:=hide (fun (wx:World) g cap (x:Int) (he:EIn w G.rows G.AB (G.rows*G.AB) g cap p (PG.cells G) wx)=>CG hG (v:=gv G.rows G.AB (.slice (some ⟨g,0,none⟩) (G.rows*G.AB) cap)) (w:=wx) ⟨_,rfl,own_base' he.2.2.2.1 (Nat.zero_le _)⟩ x 0 (ans x) ((iJ x).imp (fun h=>⟨h.1,h.2.1,h.2.2,by omega,by have:=hG.2.2.1;omega⟩) (fun h=>⟨h.1,fun k=>h.2 ⟨k.1,k.2.1⟩⟩)))
 have hcase:c<r\/(r<=c/\ans r=false)\/(r<=c/\ans r=true/\ans c=false):=by
  rcases iJ r with ⟨x1,x2⟩ | ⟨x1,x2⟩<;>rcases iJ c with ⟨y1,y2⟩ | ⟨y1,y2⟩<;>rcases Int.lt_or_le c r with z | z
  all_goals first | exact .inl z | exact .inr (.inl ⟨z,x1⟩) | exact .inr (.inr ⟨z,x1,y1⟩) | exact absurd ⟨x2.1,z,y2.2⟩ hp
 clear iJ hp
 clear h hl h2 hR
 generalize G.rows*G.AB=n at*
 unfold Jh at CL
 unfold gv pv at*
 go_enter Tryz.func145,Tryz.ntmps145
 go_upto_region 2 with (
      go_at_call 179
      obtain⟨x0,x1,x2,bw⟩:=Ce (w:=w) (t0:=37) (t1:=38) (t2:=37) (cs:= #[.int .i64 G.rows,.int .i64 G.AB,.slice (some ad) n cp]) (ds:= #[.int .i64 p.1,.int .i64 p.2.1,.int .i64 p.2.2]) (es:= #[.int .i64 0,.int .i64 0,.slice none 0 0])
      go_must (refine(CL.out _ bw).mono ?_)
      rintro e w1 ⟨v1,rfl,o1,b1⟩
      rw [HLG.out] at o1
      obtain⟨g,cap,rfl,hgb,hnc,hcm⟩:=Fe o1 (by omega)
      have y0:=x0.below b1 x0.lt
      have y1:=x1.below b1 x1.lt
      have y2:=x2.below b1 x2.lt
      have bb:=bw.trans (b1.mono bw.size)
      have o1:=own_base' o1 bw.size
      obtain⟨a0,a1,a2,a3,a4,a5⟩:=y0.three
      have n0:=Aa o1 y0 (by decide)
      have X0:=(y0.Cu (.int .i64 G.rows) (.int .i64 G.AB) (.slice (some ⟨g,0,none⟩) n cap))
      have X1:=(y1.E9 (g':=w.heap.size) (by omega) (.int .i64 G.rows) (.int .i64 G.AB) (.slice (some ⟨g,0,none⟩) n cap))
      have X2:=(y2.E9 (g':=w.heap.size) (by omega) (.int .i64 G.rows) (.int .i64 G.AB) (.slice (some ⟨g,0,none⟩) n cap))
      have O:=(ownsRow_setCell_other (ownsRow_setCell_other (ownsRow_setCell_other o1 (a:=⟨w.heap.size,0,none⟩) n0 (.int .i64 G.rows)) (a:=⟨w.heap.size,1,none⟩) n0 (.int .i64 G.AB)) (a:=⟨w.heap.size,2,none⟩) n0 (.slice (some ⟨g,0,none⟩) n cap))
      have bs:=(BN bb (Nat.le_refl _) (.int .i64 G.rows) (.int .i64 G.AB) (.slice (some ⟨g,0,none⟩) n cap))
      have H:=hide (show EIn w G.rows G.AB n g cap p (PG.cells G) _ from⟨X0,X1,X2,O,bs⟩)
      clear x0 x1 x2 bw b1 y0 y1 y2 CL o1 n0 bb X0 X1 X2 O bs)
 go_cut [29] (fun u wx=>u=.bool true/\EIn w G.rows G.AB n g cap p (PG.cells G) wx)
 case first=>
  generalize (((w1.setCell ⟨w.heap.size,0,none⟩ (.int .i64 G.rows)).setCell ⟨w.heap.size,1,none⟩ (.int .i64 G.AB)).setCell ⟨w.heap.size,2,none⟩ (.slice (some ⟨g,0,none⟩) n cap))=w0 at*
  obtain⟨s0,s1,s2,_⟩:=H.out.1.three
  clear a0 a1 a2 a3 a4 a5
  rcases hcase with hdb | ⟨hdb,ha⟩ | ⟨hdb,ha,hb⟩
  all_goals
   go_wp2_with (
    go_at_call 180
    go_must (refine(IP.out _ g cap _ H.out).mono ?_)
    rintro e w2 ⟨rfl,b2⟩
    have H:=hide (H.out.call b2)
    clear b2
    obtain⟨r0,r1,r2,_⟩:=H.out.1.three)
   go_meet
   exact⟨rfl,H.out⟩
 case rest=>
 obtain⟨rfl,H⟩:=hcut
 have H:=hide H
 obtain⟨a0,a1,a2,a3,a4,a5⟩:=H.out.1.three
 obtain⟨j0,j1,j2,f0,f1,f2⟩:=H.out.2.2.1.three
 go_wp2_with fail
 have X2:=H.out.2.2.1.Cu (.int .i64 G.rows) (.int .i64 G.AB) (.slice (some ⟨g,0,none⟩) n cap)
 obtain⟨i0',i1',i2',_⟩:=X2.three
 refine bodyPost_ret (v:=.agg #[.int .i64 G.rows,.int .i64 G.AB,.slice (some ⟨g,0,none⟩) n cap]) (by simp [results,Tryz.results145,go_sem,i0',i1',i2']) rfl (GOT.out g cap _ H.out)
def F4 (w:World) (G:PG.Gr) (e:Ending) (w':World):Prop:= ∃s,e=.returned (gv G.rows G.AB s)/\w'.ownsRow w.heap.size 66 5 s (G.rows*G.AB) (Ag (PG.cells G))/\Below w.heap.size w w'
theorem F4.got {w w':World} {G:PG.Gr} {e:Ending} (h:F4 w G e w'):Dk w G e w':=by
 obtain⟨s,rfl,ho,hb⟩:=h
 exact⟨_,rfl,⟨_,rfl,own_base' ho (Nat.zero_le _)⟩,hb⟩
theorem Zf {w:World} {R K:Nat} {G:PG.Gr} {l:List PG.Cl} {e:Ending} {w':World} (h:GQ w R K (R*K) l e w') (hl:l=PG.cells G) (hR:G.rows=R) (hK:G.AB=K):F4 w G e w':=by
 subst hR hK hl
 obtain⟨g,rfl,ho,hb⟩:=h
 exact⟨_,rfl,ho,hb⟩
theorem Zg {w:World} {R K:Nat} {G:PG.Gr} {l:List PG.Cl} {e:Ending} {w':World} (h:Jh w R K l e w') (hl:l=PG.cells G) (hR:G.rows=R) (hK:G.AB=K):F4 w G e w':=by
 subst hR hK hl
 obtain⟨v,rfl,ho,hb⟩:=h
 rw [PG.Aw] at ho
 exact⟨_,rfl,ho,hb⟩
theorem Uv {G:PG.Gr} {v:Value} {w:World} (hG:PG.BL G) (h:IsG w G v):Calls Tryz.prog 179 #[v] w (F4 w G):=by
 obtain⟨A,cp,rfl,hl,h1,h2⟩:=h.open_
 have hnn:0*G.AB+0<G.rows*G.AB:=PG.Bt hG.1 hG.2.2.1
 obtain⟨c0,hc0'⟩: ∃c0,(PG.cells G)[0]? =some c0:=⟨_,List.getElem?_eq_getElem (by rw [PG.Aw];omega)⟩
 obtain⟨ad,rfl,_⟩:=hl.at_ hc0'
 have h24:=size_le hG
 exact(Ec G.rows G.AB (G.rows*G.AB) cp w.heap.size ad (PG.cells G) w hl (Nat.le_refl _) (by omega)).mono fun e w' h=>Zg h rfl rfl rfl
theorem TY {G:PG.Gr} {v:Value} {w:World} (hG:PG.BL G) (h:IsG w G v) (r a b:Int) (p:PG.Pn) (ha: -1000<=a/\a<=1000) (hb: -1000<=b/\b<=1000) (hi:0<=r/\r<G.rows):
  Calls Tryz.prog 199 #[v,.int .i64 r,.int .i64 a,.int .i64 b,pv p] w (F4 w (PG.Jk G r a b p)):=by
 obtain⟨A,cp,rfl,hl,h1,h2⟩:=h.open_
 have e1:(if a<0 then (0:Int) else a)=((max a 0).toNat:Int):=by split<;>omega
 obtain⟨q,rfl⟩:=Int.eq_ofNat_of_zero_le hi.1
 have e2:(if (G.AB:Int)<b then (G.AB:Int) else b)=min b G.AB:=by split<;>omega
 refine(Ye G.rows G.AB q _ cp w.heap.size _ a b _ p A _ w hl (Nat.le_refl _) rfl (by omega) hG.2.1 hG.2.2.1 hG.2.2.2.1 ha hb e1 e2).mono fun e w' hm=>?_
 have e3:PG.Jk G q a b p=PG.DW G q (max a 0).toNat (min b G.AB).toNat p:=by unfold PG.Jk;rw [if_pos (by omega)];rfl
 rw [e3]
 exact Zf hm (PG.Li (by omega) _ _ p) (PG.DL ..).1 (PG.DL ..).2
theorem Dc {w w3:World} {H:PG.Gr} {A:Option Addr} {n c gb B:Nat} {cs:Array Value} (ho:w3.ownsRow B 66 5 (.slice A n c) (H.rows*H.AB) (Ag (PG.cells H))) (hB:w.heap.size<=B) (x:Box w3 gb 37 cs) (hb:Below w.heap.size w w3) (hg:w.heap.size<=gb):
  F4 w H (.returned (.agg #[.int .i64 H.rows,.int .i64 H.AB,.slice A n c])) (((w3.setCell ⟨gb,0,none⟩ (.int .i64 H.rows)).setCell ⟨gb,1,none⟩ (.int .i64 H.AB)).setCell ⟨gb,2,none⟩ (.slice A n c)):=by
 have n2:=Aa ho x (by decide)
 exact⟨_,rfl,own_base' (ownsRow_setCell_other (ownsRow_setCell_other (ownsRow_setCell_other ho (a:=⟨gb,0,none⟩) n2 (.int .i64 H.rows)) (a:=⟨gb,1,none⟩) n2 (.int .i64 H.AB)) (a:=⟨gb,2,none⟩) n2 (.slice A n c)) hB,BN hb hg _ _ _⟩
theorem Ho {w w3:World} {H:PG.Gr} {A:Option Addr} {n c gb B:Nat} {cs:Array Value} (ho:w3.ownsRow B 66 5 (.slice A n c) (H.rows*H.AB) (Ag (PG.cells H))) (x:Box w3 gb 37 cs) (hb:Below w.heap.size w w3) (hg:w.heap.size<=gb):
  Dk w H (.returned (.agg #[.int .i64 H.rows,.int .i64 H.AB,.slice A n c])) (((w3.setCell ⟨gb,0,none⟩ (.int .i64 H.rows)).setCell ⟨gb,1,none⟩ (.int .i64 H.AB)).setCell ⟨gb,2,none⟩ (.slice A n c)):=by
 have n2:=Aa ho x (by decide)
 exact⟨_,rfl,⟨_,rfl,own_base' (ownsRow_setCell_other (ownsRow_setCell_other (ownsRow_setCell_other ho (a:=⟨gb,0,none⟩) n2 (.int .i64 H.rows)) (a:=⟨gb,1,none⟩) n2 (.int .i64 H.AB)) (a:=⟨gb,2,none⟩) n2 (.slice A n c)) (Nat.zero_le _)⟩,BN hb hg _ _ _⟩
theorem Zh {G:PG.Gr} {v:Value} {w:World} (hG:PG.BL G) (h:IsG w G v) (r c n:Int) (p:PG.Pn) (hn:0<=n/\n<=65535):Calls Tryz.prog 209 #[.func (.func 208) #[] #[],v,.int .i64 r,.int .i64 c,.int .i64 n,pv p] w (Dk w (PG.Ei G r c n p)):=by
 by_cases hi:0<=r/\r<G.rows/\0<=c/\c<G.AB
 ·obtain⟨r',rfl⟩:=Int.eq_ofNat_of_zero_le hi.1
  obtain⟨c',rfl⟩:=Int.eq_ofNat_of_zero_le (show 0<=c by omega)
  have e:PG.Ei G r' c' n p=PG.CK G r' c' n p:=by unfold PG.Ei;rw [if_pos (by omega)];rfl
  rw [e]
  exact TS hG h r' c' n p (by omega) (by omega) hn.1 hn.2
 ·rw [PG.Lv hi]
  exact OB hG h _ r c n p hi
theorem Zi {G:PG.Gr} {v:Value} {w:World} (hG:PG.BL G) (h:IsG w G v) (r c n:Int) (p:PG.Pn) (hp:PG.Cv p) (hr: -1000<=r/\r<=1000) (hc: -1000<=c/\c<=1000) (hn:0<=n/\n<=65535):Calls Tryz.prog 197 #[v,.int .i64 r,.int .i64 c,.int .i64 n,pv p] w (Dk w (PG.Ei G r c n p)):=by
 have C:=hide (fun w' (hb':Below w.heap.size w w')=>Zh hG (h.low hb') r c n p hn)
 obtain⟨A,cp,rfl,hl,h1,h2⟩:=h.open_
 clear hl h1 h2 h
 generalize G.rows*G.AB=n0 at*
 generalize PG.Ei G r c n p=GH at*
 unfold gv pv at*
 go_enter Tryz.func197,Tryz.ntmps197
 go_wp2_with (
  go_at_call 209
  obtain⟨x0,x1,x2,bw⟩:=Ce (w:=w) (t0:=37) (t1:=38) (t2:=37) (cs:= #[.int .i64 G.rows,.int .i64 G.AB,.slice A n0 cp]) (ds:= #[.int .i64 p.1,.int .i64 p.2.1,.int .i64 p.2.2]) (es:= #[.int .i64 0,.int .i64 0,.slice none 0 0])
  go_must (refine(C.out _ bw).mono ?_)
  rintro e w1 ⟨v1,rfl,⟨s,rfl,o1⟩,b1⟩
  obtain⟨A1,c1,rfl,_⟩:=Bb o1
  have x2:=x2.below b1 x2.lt
  have bb:=bw.trans (b1.mono bw.size)
  unfold gv
  obtain⟨j0,j1,j2,f0,f1,f2⟩:=x2.three
  have F:=hide (Ho o1 x2 bb (show w.heap.size<=w.heap.size+1+1 by omega))
  have X2:=x2.Cu (.int .i64 GH.rows) (.int .i64 GH.AB) (.slice A1 (GH.rows*GH.AB) c1)
  obtain⟨i0',i1',i2',_⟩:=X2.three
  clear x0 x1 bw b1 C o1 bb X2 x2)
 refine bodyPost_ret (v:=.agg #[.int .i64 GH.rows,.int .i64 GH.AB,.slice A1 (GH.rows*GH.AB) c1]) (by simp [results,Tryz.results197,go_sem,i0',i1',i2']) rfl F.out
theorem Zj {G:PG.Gr} {v:Value} {w:World} (hG:PG.BL G) (h:IsG w G v) (r c n:Int) (p:PG.Pn) (hn:0<=n/\n<=65535):Calls Tryz.prog 209 #[.func (.func 146) #[] #[],v,.int .i64 r,.int .i64 c,.int .i64 n,pv p] w (Dk w (PG.Ei G r c (-n) p)):=by
 by_cases hi:0<=r/\r<G.rows/\0<=c/\c<G.AB
 ·obtain⟨r',rfl⟩:=Int.eq_ofNat_of_zero_le hi.1
  obtain⟨c',rfl⟩:=Int.eq_ofNat_of_zero_le (show 0<=c by omega)
  have e:PG.Ei G r' c' (-n) p=PG.CK G r' c' (-n) p:=by unfold PG.Ei;rw [if_pos (by omega)];rfl
  rw [e]
  exact TU hG h r' c' n p (by omega) (by omega) hn.1 hn.2
 ·rw [PG.Lv hi]
  exact OB hG h _ r c n p hi
theorem Zk {G:PG.Gr} {v:Value} {w:World} (hG:PG.BL G) (h:IsG w G v) (r c n:Int) (p:PG.Pn) (hp:PG.Cv p) (hr: -1000<=r/\r<=1000) (hc: -1000<=c/\c<=1000) (hn:0<=n/\n<=65535):Calls Tryz.prog 198 #[v,.int .i64 r,.int .i64 c,.int .i64 n,pv p] w (Dk w (PG.Ei G r c (-n) p)):=by
 have C:=hide (fun w' (hb':Below w.heap.size w w')=>Zj hG (h.low hb') r c n p hn)
 obtain⟨A,cp,rfl,hl,h1,h2⟩:=h.open_
 clear hl h1 h2 h
 generalize G.rows*G.AB=n0 at*
 generalize PG.Ei G r c (-n) p=GH at*
 unfold gv pv at*
 go_enter Tryz.func198,Tryz.ntmps198
 go_wp2_with (
  go_at_call 209
  obtain⟨x0,x1,x2,bw⟩:=Ce (w:=w) (t0:=37) (t1:=38) (t2:=37) (cs:= #[.int .i64 G.rows,.int .i64 G.AB,.slice A n0 cp]) (ds:= #[.int .i64 p.1,.int .i64 p.2.1,.int .i64 p.2.2]) (es:= #[.int .i64 0,.int .i64 0,.slice none 0 0])
  go_must (refine(C.out _ bw).mono ?_)
  rintro e w1 ⟨v1,rfl,⟨s,rfl,o1⟩,b1⟩
  obtain⟨A1,c1,rfl,_⟩:=Bb o1
  have x2:=x2.below b1 x2.lt
  have bb:=bw.trans (b1.mono bw.size)
  unfold gv
  obtain⟨j0,j1,j2,f0,f1,f2⟩:=x2.three
  have F:=hide (Ho o1 x2 bb (show w.heap.size<=w.heap.size+1+1 by omega))
  have X2:=x2.Cu (.int .i64 GH.rows) (.int .i64 GH.AB) (.slice A1 (GH.rows*GH.AB) c1)
  obtain⟨i0',i1',i2',_⟩:=X2.three
  clear x0 x1 bw b1 C o1 bb X2 x2)
 refine bodyPost_ret (v:=.agg #[.int .i64 GH.rows,.int .i64 GH.AB,.slice A1 (GH.rows*GH.AB) c1]) (by simp [results,Tryz.results198,go_sem,i0',i1',i2']) rfl F.out
theorem up_c {G:PG.Gr} {v:Value} {w:World} (hG:PG.BL G) (h:IsG w G v) (t b n:Int) (p:PG.Pn) (hn:0<=n/\n<=65535):Calls Tryz.prog 145 #[.func (.func 146) #[] #[],v,.int .i64 t,.int .i64 b,.int .i64 n,pv p] w (Dk w (PG.DI G t b n p)):=by
 by_cases hi:0<=t/\t<=b/\b<G.rows
 ·obtain⟨r',rfl⟩:=Int.eq_ofNat_of_zero_le hi.1
  obtain⟨c',rfl⟩:=Int.eq_ofNat_of_zero_le (show 0<=b by omega)
  have e:PG.DI G r' c' n p=PG.Am G r' c' n p:=by unfold PG.DI;rw [if_pos (by omega)];rfl
  rw [e]
  exact TW hG h r' c' n p (by omega) (by omega) hn.1 hn.2
 ·rw [PG.Kl hi]
  exact OC hG h _ t b n p hi
theorem mY {G:PG.Gr} {v:Value} {w:World} (hG:PG.BL G) (h:IsG w G v) (t b n:Int) (p:PG.Pn) (hp:PG.Cv p) (hr: -1000<=t/\t<=1000) (hc: -1000<=b/\b<=1000) (hn:0<=n/\n<=65535):Calls Tryz.prog 110 #[v,.int .i64 t,.int .i64 b,.int .i64 n,pv p] w (Dk w (PG.DI G t b n p)):=by
 have C:=hide (fun w' (hb':Below w.heap.size w w')=>up_c hG (h.low hb') t b n p hn)
 obtain⟨A,cp,rfl,hl,h1,h2⟩:=h.open_
 clear hl h1 h2 h
 generalize G.rows*G.AB=n0 at*
 generalize PG.DI G t b n p=GH at*
 unfold gv pv at*
 go_enter Tryz.func110,Tryz.ntmps110
 go_wp2_with (
  go_at_call 145
  obtain⟨x0,x1,x2,bw⟩:=Ce (w:=w) (t0:=37) (t1:=38) (t2:=37) (cs:= #[.int .i64 G.rows,.int .i64 G.AB,.slice A n0 cp]) (ds:= #[.int .i64 p.1,.int .i64 p.2.1,.int .i64 p.2.2]) (es:= #[.int .i64 0,.int .i64 0,.slice none 0 0])
  go_must (refine(C.out _ bw).mono ?_)
  rintro e w1 ⟨v1,rfl,⟨s,rfl,o1⟩,b1⟩
  obtain⟨A1,c1,rfl,_⟩:=Bb o1
  have x2:=x2.below b1 x2.lt
  have bb:=bw.trans (b1.mono bw.size)
  unfold gv
  obtain⟨j0,j1,j2,f0,f1,f2⟩:=x2.three
  have F:=hide (Ho o1 x2 bb (show w.heap.size<=w.heap.size+1+1 by omega))
  have X2:=x2.Cu (.int .i64 GH.rows) (.int .i64 GH.AB) (.slice A1 (GH.rows*GH.AB) c1)
  obtain⟨i0',i1',i2',_⟩:=X2.three
  clear x0 x1 bw b1 C o1 bb X2 x2)
 refine bodyPost_ret (v:=.agg #[.int .i64 GH.rows,.int .i64 GH.AB,.slice A1 (GH.rows*GH.AB) c1]) (by simp [results,Tryz.results110,go_sem,i0',i1',i2']) rfl F.out
theorem mZ {G:PG.Gr} {v:Value} {w:World} (hG:PG.BL G) (h:IsG w G v) (t b n:Int) (p:PG.Pn) (hn:0<=n/\n<=65535):Calls Tryz.prog 145 #[.func (.func 208) #[] #[],v,.int .i64 t,.int .i64 b,.int .i64 n,pv p] w (Dk w (PG.DI G t b (-n) p)):=by
 by_cases hi:0<=t/\t<=b/\b<G.rows
 ·obtain⟨r',rfl⟩:=Int.eq_ofNat_of_zero_le hi.1
  obtain⟨c',rfl⟩:=Int.eq_ofNat_of_zero_le (show 0<=b by omega)
  have e:PG.DI G r' c' (-n) p=PG.Am G r' c' (-n) p:=by unfold PG.DI;rw [if_pos (by omega)];rfl
  rw [e]
  exact TV hG h r' c' n p (by omega) (by omega) hn.1 hn.2
 ·rw [PG.Kl hi]
  exact OC hG h _ t b n p hi
theorem Ta {G:PG.Gr} {v:Value} {w:World} (hG:PG.BL G) (h:IsG w G v) (t b n:Int) (p:PG.Pn) (hp:PG.Cv p) (hr: -1000<=t/\t<=1000) (hc: -1000<=b/\b<=1000) (hn:0<=n/\n<=65535):Calls Tryz.prog 190 #[v,.int .i64 t,.int .i64 b,.int .i64 n,pv p] w (Dk w (PG.DI G t b (-n) p)):=by
 have C:=hide (fun w' (hb':Below w.heap.size w w')=>mZ hG (h.low hb') t b n p hn)
 obtain⟨A,cp,rfl,hl,h1,h2⟩:=h.open_
 clear hl h1 h2 h
 generalize G.rows*G.AB=n0 at*
 generalize PG.DI G t b (-n) p=GH at*
 unfold gv pv at*
 go_enter Tryz.func190,Tryz.ntmps190
 go_wp2_with (
  go_at_call 145
  obtain⟨x0,x1,x2,bw⟩:=Ce (w:=w) (t0:=37) (t1:=38) (t2:=37) (cs:= #[.int .i64 G.rows,.int .i64 G.AB,.slice A n0 cp]) (ds:= #[.int .i64 p.1,.int .i64 p.2.1,.int .i64 p.2.2]) (es:= #[.int .i64 0,.int .i64 0,.slice none 0 0])
  go_must (refine(C.out _ bw).mono ?_)
  rintro e w1 ⟨v1,rfl,⟨s,rfl,o1⟩,b1⟩
  obtain⟨A1,c1,rfl,_⟩:=Bb o1
  have x2:=x2.below b1 x2.lt
  have bb:=bw.trans (b1.mono bw.size)
  unfold gv
  obtain⟨j0,j1,j2,f0,f1,f2⟩:=x2.three
  have F:=hide (Ho o1 x2 bb (show w.heap.size<=w.heap.size+1+1 by omega))
  have X2:=x2.Cu (.int .i64 GH.rows) (.int .i64 GH.AB) (.slice A1 (GH.rows*GH.AB) c1)
  obtain⟨i0',i1',i2',_⟩:=X2.three
  clear x0 x1 bw b1 C o1 bb X2 x2)
 refine bodyPost_ret (v:=.agg #[.int .i64 GH.rows,.int .i64 GH.AB,.slice A1 (GH.rows*GH.AB) c1]) (by simp [results,Tryz.results190,go_sem,i0',i1',i2']) rfl F.out
end Go.Proofs.YtoaabebgmdbjeaaGreatDoor
namespace Go.Proofs.YtoaabebgmdbjeaaGreatDoor
open Go.RowKit
theorem PG.Ir {g:PG.Gr} {r c k:Int} {p:PG.Pn} (h: ¬((0<=r/\r<g.rows/\0<=c/\c<g.AB)/\0<=k/\k<=2)):PG.Bl g r c k p=g:=if_neg h
theorem PG.Md {g:PG.Gr} {r c k:Int} {p:PG.Pn} (h: ¬((0<=r/\r<g.rows/\0<=c/\c<g.AB)/\0<=k/\k<=2)):PG.Fh g r c k p=g:=if_neg h
theorem PG.iK {g:PG.Gr} {r c:Int} {p:PG.Pn} (hi:0<=r/\r<g.rows/\0<=c/\c<g.AB):PG.Bl g r c 0 p=PG.Jk g r c g.AB p:=by
 unfold PG.Bl PG.Jk
 rw [if_pos ⟨hi,by decide,by decide⟩,if_pos hi.1,if_pos rfl,if_neg (by decide)]
 rw [show(max (c:Int) 0).toNat=c.toNat by omega,show(min (g.AB:Int) g.AB).toNat=g.AB by omega]
theorem PG.iL {g:PG.Gr} {r c:Int} {p:PG.Pn} (hi:0<=r/\r<g.rows/\0<=c/\c<g.AB):PG.Bl g r c 1 p=PG.Jk g r 0 (c+1) p:=by
 unfold PG.Bl PG.Jk
 rw [if_pos ⟨hi,by decide,by decide⟩,if_pos hi.1,if_neg (by decide),if_pos rfl]
 rw [show(max (0:Int) 0).toNat=0 by omega,show(min ((c+1):Int) g.AB).toNat=c.toNat+1 by omega]
theorem PG.iM {g:PG.Gr} {r c:Int} {p:PG.Pn} (hi:0<=r/\r<g.rows/\0<=c/\c<g.AB):PG.Bl g r c 2 p=PG.Jk g r 0 g.AB p:=by
 unfold PG.Bl PG.Jk
 rw [if_pos ⟨hi,by decide,by decide⟩,if_pos hi.1,if_neg (by decide),if_neg (by decide)]
 rw [show(max (0:Int) 0).toNat=0 by omega,show(min (g.AB:Int) g.AB).toNat=g.AB by omega]
theorem T14_2 {P:Prop} (h:P:=by
 unfold gv pv at*
 clear hIP hcon hG h hGH
 go_enter Tryz.func195,Tryz.ntmps195
 go_wp2_with (first
  | (go_at_call 180
     obtain⟨x0,x1,x2,bw⟩:=Ce (w:=w) (t0:=37) (t1:=38) (t2:=37) (cs:= #[.int .i64 G.rows,.int .i64 G.AB,.slice A n0 cp]) (ds:= #[.int .i64 p.1,.int .i64 p.2.1,.int .i64 p.2.2]) (es:= #[.int .i64 0,.int .i64 0,.slice none 0 0])
     go_must (refine(IP.out _ bw).mono ?_)
     rintro e w1 ⟨rfl,b1⟩
     have x0:=x0.below b1 x0.lt
     have x1:=x1.below b1 x1.lt
     have x2:=x2.below b1 x2.lt
     have bb:=bw.trans (b1.mono bw.size)
     obtain⟨s0,s1,s2,_⟩:=x0.three
     obtain⟨t0,t1,t2,_⟩:=x1.three
     clear b1 IP bw)
  | (go_at_call 179
     go_must (refine(CN.out _ bb).mono ?_)
     rintro e w2 ⟨s,rfl,o2,b2⟩
     obtain⟨A1,c1,rfl,_⟩:=Bb o2
     have x2:=x2.below b2 x2.lt
     have b3:=bb.trans (b2.mono bb.size)
     unfold gv
     obtain⟨j0,j1,j2,f0,f1,f2⟩:=x2.three
     have F:=hide (Dc o2 bb.size x2 b3 (show w.heap.size<=w.heap.size+1+1 by omega))
     have X2:=x2.Cu (.int .i64 GH.rows) (.int .i64 GH.AB) (.slice A1 (GH.rows*GH.AB) c1)
     obtain⟨i0',i1',i2',_⟩:=X2.three
     clear b2 CN o2 X2 x2 bb b3))
 refine bodyPost_ret (v:=.agg #[.int .i64 GH.rows,.int .i64 GH.AB,.slice A1 (GH.rows*GH.AB) c1]) (by simp [results,Tryz.results195,go_sem,i0',i1',i2']) rfl F.out):P:=h
theorem T14_3 {P:Prop} (h:P:=by
 unfold gv pv at*
 clear hIP hcon hG h hGH
 go_enter Tryz.func195,Tryz.ntmps195
 go_wp2_with (first
  | (go_at_call 180
     obtain⟨x0,x1,x2,bw⟩:=Ce (w:=w) (t0:=37) (t1:=38) (t2:=37) (cs:= #[.int .i64 G.rows,.int .i64 G.AB,.slice A n0 cp]) (ds:= #[.int .i64 p.1,.int .i64 p.2.1,.int .i64 p.2.2]) (es:= #[.int .i64 0,.int .i64 0,.slice none 0 0])
     go_must (refine(IP.out _ bw).mono ?_)
     rintro e w1 ⟨rfl,b1⟩
     have x0:=x0.below b1 x0.lt
     have x1:=x1.below b1 x1.lt
     have x2:=x2.below b1 x2.lt
     have bb:=bw.trans (b1.mono bw.size)
     obtain⟨s0,s1,s2,_⟩:=x0.three
     obtain⟨t0,t1,t2,_⟩:=x1.three
     clear b1 IP bw)
  | (go_at_call 199
     go_must (refine(CN.out _ bb).mono ?_)
     rintro e w2 ⟨s,rfl,o2,b2⟩
     obtain⟨A1,c1,rfl,_⟩:=Bb o2
     have x2:=x2.below b2 x2.lt
     have b3:=bb.trans (b2.mono bb.size)
     unfold gv
     obtain⟨j0,j1,j2,f0,f1,f2⟩:=x2.three
     have F:=hide (Dc o2 bb.size x2 b3 (show w.heap.size<=w.heap.size+1+1 by omega))
     have X2:=x2.Cu (.int .i64 GH.rows) (.int .i64 GH.AB) (.slice A1 (GH.rows*GH.AB) c1)
     obtain⟨i0',i1',i2',_⟩:=X2.three
     clear b2 CN o2 X2 x2 bb b3))
 refine bodyPost_ret (v:=.agg #[.int .i64 GH.rows,.int .i64 GH.AB,.slice A1 (GH.rows*GH.AB) c1]) (by simp [results,Tryz.results195,go_sem,i0',i1',i2']) rfl F.out):P:=h
theorem KR {G:PG.Gr} {v:Value} {w:World} (hG:PG.BL G) (h:IsG w G v) (r c k:Int) (p:PG.Pn) (hr: -1000<=r/\r<=1000) (hc: -1000<=c/\c<=1000):Calls Tryz.prog 195 #[v,.int .i64 r,.int .i64 c,.int .i64 k,pv p] w (F4 w (PG.Bl G r c k p)):=by
 have hIP:=fun w' (hb:Below w.heap.size w w') b hb'=>CG hG (h.low hb) r c b hb'
 have hcK:=hG.2.2.2.1
 obtain⟨A,cp,rfl,hl,h1,h2⟩:=h.open_
 clear hl h1 h2
 generalize G.rows*G.AB=n0 at*
 obtain⟨GH,hGH⟩: ∃GH,PG.Bl G r c k p=GH:=⟨_,rfl⟩
 rw [hGH]
 have hcon:=hide hGH
 by_cases hi: ¬(0<=r/\r<G.rows/\0<=c/\c<G.AB)
 ·have IP:=hide (fun w' hb=>hIP w' hb false (.inr ⟨rfl,hi⟩))
  have CN:=hide (fun w' (hb:Below w.heap.size w w')=>(show Calls Tryz.prog 179 #[gv G.rows G.AB (.slice A n0 cp)] w' (F4 w' GH) by rw [<- hGH,PG.Ir (by rintro ⟨x,_⟩;exact hi x)];exact Uv hG (h.low hb)))
  exact T14_2
 have hi:0<=r/\r<G.rows/\0<=c/\c<G.AB:=Classical.not_not.1 hi
 have IP:=hide (fun w' hb=>hIP w' hb true (.inl ⟨rfl,hi⟩))
 by_cases hk0:k=0
 ·subst hk0
  have CN:=hide (fun w' (hb:Below w.heap.size w w')=>(show Calls Tryz.prog 199 #[gv G.rows G.AB (.slice A n0 cp),.int .i64 r,.int .i64 c,.int .i64 G.AB,pv p] w' (F4 w' GH) by
   rw [<- hGH,PG.iK hi]
   exact TY hG (h.low hb) r c G.AB p (by omega) (by omega) (by omega)))
  exact T14_3
 by_cases hk1:k=1
 ·subst hk1
  have CN:=hide (fun w' (hb:Below w.heap.size w w')=>(show Calls Tryz.prog 199 #[gv G.rows G.AB (.slice A n0 cp),.int .i64 r,.int .i64 0,.int .i64 (c+1),pv p] w' (F4 w' GH) by
   rw [<- hGH,PG.iL hi]
   exact TY hG (h.low hb) r 0 (c+1) p (by omega) (by omega) (by omega)))
  exact T14_3
 by_cases hk2:k=2
 ·subst hk2
  have CN:=hide (fun w' (hb:Below w.heap.size w w')=>(show Calls Tryz.prog 199 #[gv G.rows G.AB (.slice A n0 cp),.int .i64 r,.int .i64 0,.int .i64 G.AB,pv p] w' (F4 w' GH) by
   rw [<- hGH,PG.iM hi]
   exact TY hG (h.low hb) r 0 G.AB p (by omega) (by omega) (by omega)))
  exact T14_3
 have q0:(k==0)=false:=by simpa using hk0
 have q1:(k==1)=false:=by simpa using hk1
 have q2:(k==2)=false:=by simpa using hk2
 ·have CN:=hide (fun w' (hb:Below w.heap.size w w')=>(show Calls Tryz.prog 179 #[gv G.rows G.AB (.slice A n0 cp)] w' (F4 w' GH) by rw [<- hGH,PG.Ir (by rintro ⟨_,x1,x2⟩;omega)];exact Uv hG (h.low hb)))
  exact T14_2
end Go.Proofs.YtoaabebgmdbjeaaGreatDoor
namespace Go.Proofs.YtoaabebgmdbjeaaGreatDoor
open Go.RowKit
def EEr (w:World) (R K n cp:Nat) (A:Option Addr) (g cap gb:Nat) (p:PG.Pn) (l:List PG.Cl) (wx:World):Prop:=
 Box wx w.heap.size 37 #[.int .i64 R,.int .i64 K,.slice A n cp] /\Box wx (w.heap.size+1) 38 #[.int .i64 p.1,.int .i64 p.2.1,.int .i64 p.2.2] /\Box wx (w.heap.size+1+1) 37 #[.int .i64 0,.int .i64 0,.slice none 0 0] /\
 Box wx gb 37 #[.int .i64 R,.int .i64 K,.slice (some ⟨g,0,none⟩) n cap] /\w.heap.size+1+1<gb/\wx.ownsRow w.heap.size 66 5 (.slice (some ⟨g,0,none⟩) n cap) n (Ag l)/\Below w.heap.size w wx
section
variable {w wx wy:World} {R K n cp g cap gb:Nat} {A:Option Addr} {p:PG.Pn} {l l2:List PG.Cl}
theorem EEr.call (h:EEr w R K n cp A g cap gb p l wx) (b:Below wx.heap.size wx wy):EEr w R K n cp A g cap gb p l wy:=
 ⟨h.1.below b h.1.lt,h.2.1.below b h.2.1.lt,h.2.2.1.below b h.2.2.1.lt,h.2.2.2.1.below b h.2.2.2.1.lt,h.2.2.2.2.1,h.2.2.2.2.2.1.kept (BS b none) (by simp [Value.ownBlock]),h.2.2.2.2.2.2.trans (b.mono h.2.2.2.2.2.2.size)⟩
theorem EEr.drew (h:EEr w R K n cp A g cap gb p l wx):EEr w R K n cp A g cap gb p l wx.drew:=⟨h.1.drew,h.2.1.drew,h.2.2.1.drew,h.2.2.2.1.drew,h.2.2.2.2.1,h.2.2.2.2.2.1,h.2.2.2.2.2.2.drew⟩
theorem EEr.wrote (h:EEr w R K n cp A g cap gb p l wx) (o:wy.ownsRow w.heap.size 66 5 (.slice (some ⟨g,0,none⟩) n cap) n (Ag l2)) (k:Kept [some g] wx wy):EEr w R K n cp A g cap gb p l2 wy:=by
 have ho:=h.2.2.2.2.2.1
 have hb:=h.2.2.2.2.2.2
 have n0:=Aa ho h.1 (by decide)
 have n1:=Aa ho h.2.1 (by decide)
 have n2:=Aa ho h.2.2.1 (by decide)
 have n3:=Aa ho h.2.2.2.1 (by decide)
 have lt:=(ho.lt g rfl).1
 have hn: ∀q,(Value.slice (some ⟨g,0,none⟩) n cap).ownBlock≠some q->some q∉ [some g] :=fun q hq hm=>hq (by
  simp only [List.mem_singleton,Option.some.injEq] at hm
  rw [hm]
  rfl)
 exact⟨h.1.kept k (hn _ n0),h.2.1.kept k (hn _ n1),h.2.2.1.kept k (hn _ n2),h.2.2.2.1.kept k (hn _ n3),h.2.2.2.2.1,o,hb.trans (k.toBelow hb.size (fun q hq=>by simp at hq;omega))⟩
end
namespace PG
theorem iN {g:Gr} {r c:Nat} {p:Pn} (hr:r<g.rows):spl (cells (DW g r c g.AB p)) ((r+1)*g.AB) (List.replicate ((g.rows-(r+1))*g.AB) (blank p))=cells (Bw g r c 0 p):=by
 have hs:=DL g r c g.AB p
 have e:=Mc (g:=DW g r c g.AB p) (t:=r+1) (b:=g.rows) (p:=p) (by omega) (by rw [hs.1];exact Nat.le_refl _)
 rw [hs.2,hs.1] at e
 rw [e]
 refine DT ⟨rfl,rfl,fun i j hi hj=>?_⟩
 have hi:i<g.rows:=hi
 unfold Bw DW
 rw [if_pos hr]
 show(if r+1<=i/\i<g.rows then blank p else if i=r then mend (E5 (g.f r) c g.AB p) g.AB j else g.f i j)=if (0:Nat)=2\/(0:Nat)=0/\r<i\/(0:Nat)=1/\i<r then blank p else if i=r then mend (E5 (g.f r) (if (0:Nat)=0 then c else 0) (if (0:Nat)=1 then c+1 else g.AB) p) g.AB j else g.f i j
 by_cases h:r<i
 ·rw [if_pos (by omega),if_pos (by omega)]
 ·rw [if_neg (show¬(r+1<=i/\i<g.rows) by omega),if_neg (show¬((0:Nat)=2\/(0:Nat)=0/\r<i\/(0:Nat)=1/\i<r) by omega)]
  rfl
theorem iO {g:Gr} {r c:Nat} {p:Pn} (hr:r<g.rows):spl (cells (DW g r 0 (c+1) p)) 0 (List.replicate (r*g.AB) (blank p))=cells (Bw g r c 1 p):=by
 have hs:=DL g r 0 (c+1) p
 have e:=Mc (g:=DW g r 0 (c+1) p) (t:=0) (b:=r) (p:=p) (by omega) (by rw [hs.1];omega)
 rw [hs.2,hs.1,Nat.zero_mul,Nat.sub_zero] at e
 rw [e]
 refine DT ⟨rfl,rfl,fun i j hi hj=>?_⟩
 unfold Bw DW
 rw [if_pos hr]
 show(if 0<=i/\i<r then blank p else if i=r then mend (E5 (g.f r) 0 (c+1) p) g.AB j else g.f i j)=if (1:Nat)=2\/(1:Nat)=0/\r<i\/(1:Nat)=1/\i<r then blank p else if i=r then mend (E5 (g.f r) (if (1:Nat)=0 then c else 0) (if (1:Nat)=1 then c+1 else g.AB) p) g.AB j else g.f i j
 by_cases h:i<r
 ·rw [if_pos (by omega),if_pos (by omega)]
 ·rw [if_neg (show¬(0<=i/\i<r) by omega),if_neg (show¬((1:Nat)=2\/(1:Nat)=0/\r<i\/(1:Nat)=1/\i<r) by omega)]
  rfl
theorem iP {g:Gr} {r c:Nat} {p:Pn} (l:List Cl) (hl:l.length=g.rows*g.AB):spl l 0 (List.replicate (g.rows*g.AB) (blank p))=cells (Bw g r c 2 p):=by
 rw [Ub (by rw [List.length_replicate,hl]),Nc]
 exact(DT (Vu g r c p)).symm
theorem Er (g:Gr) (r c k:Int) (p:Pn):(Bl g r c k p).rows=g.rows/\(Bl g r c k p).AB=g.AB:=JH g r c k p
end PG
theorem T14_6 {P:Prop} (h:P:=by
 go_wp2_with (
      go_at_call 180
      go_must (refine(IP.out _ H.out.2.2.2.2.2.2).mono ?_)
      rintro e w3 ⟨rfl,b3⟩
      have H:=hide (H.out.call b3)
      obtain⟨a0,a1,a2,a3,a4,a5⟩:=H.out.2.2.2.1.three
      obtain⟨j0,j1,j2,f0,f1,f2⟩:=H.out.2.2.1.three
      obtain⟨s0,s1,s2,_⟩:=H.out.1.three
      obtain⟨t0,t1,t2,_⟩:=H.out.2.1.three
      clear b3 IP)
 have X2:=H.out.2.2.1.Cu (.int .i64 G.rows) (.int .i64 G.AB) (.slice (some ⟨g,0,none⟩) n cap)
 obtain⟨i0',i1',i2',_⟩:=X2.three
 refine bodyPost_ret (v:=.agg #[.int .i64 G.rows,.int .i64 G.AB,.slice (some ⟨g,0,none⟩) n cap]) (by simp [results,Tryz.results193,go_sem,i0',i1',i2']) rfl (GOT.out g cap gb cp A _ H.out)):P:=h
theorem T14_32 {P:Prop} (h:P:=by
 have F:=Dc (w:=w) (H:=PG.Bl G r c k p) (A:=some ⟨g,0,none⟩) (n:=n) (c:=cap) (B:=w.heap.size) (by rw [HS.out.1,HS.out.2, <- hn];exact H.2.2.2.2.2.1) (Nat.le_refl _) H.2.2.1 H.2.2.2.2.2.2 (show w.heap.size<=w.heap.size+1+1 by omega)
 rw [HS.out.1,HS.out.2] at F
 exact F):P:=h
theorem Qi {G:PG.Gr} {v:Value} {w:World} (hG:PG.BL G) (h:IsG w G v) (r c k:Int) (p:PG.Pn) (hr: -1000<=r/\r<=1000) (hc: -1000<=c/\c<=1000) (hi: ¬(0<=r/\r<G.rows/\0<=c/\c<G.AB)):Calls Tryz.prog 193 #[v,.int .i64 r,.int .i64 c,.int .i64 k,pv p] w (F4 w (PG.Bl G r c k p)):=by
 have hR:=hG.2.1
 have hK:=hG.2.2.2.1
 have hK0:=hG.2.2.1
 have h24:=size_le hG
 have hnn:0*G.AB+0<G.rows*G.AB:=PG.Bt hG.1 hG.2.2.1
 have hIP:=fun w' (hb:Below w.heap.size w w')=>CG hG (h.low hb) r c false (.inr ⟨rfl,hi⟩)
 have HS:=hide (show(PG.Bl G r c k p).rows=G.rows/\(PG.Bl G r c k p).AB=G.AB from PG.Er G r c k p)
 have HL:=hide (PG.Er G r c k p)
 have hCN:=fun w' (hb:Below w.heap.size w w')=>(KR hG (h.low hb) r c k p (by omega) (by omega)).mono (R':=fun e w''=> ∃g cap,e=.returned (gv G.rows G.AB (.slice (some ⟨g,0,none⟩) (G.rows*G.AB) cap))/\G.rows*G.AB<=cap/\cap<=maxLen/\w''.ownsRow w'.heap.size 66 5 (.slice (some ⟨g,0,none⟩) (G.rows*G.AB) cap) (G.rows*G.AB) (Ag (PG.cells (PG.Bl G r c k p)))/\Below w'.heap.size w' w'') (fun e w'' hm=>by
  obtain⟨s,rfl,o,b⟩:=hm
  rw [HL.out.1,HL.out.2] at o
  obtain⟨g,cap,rfl,hgb,hnc,hcm⟩:=Fe o (by omega)
  rw [HL.out.1,HL.out.2]
  exact⟨g,cap,rfl,hnc,hcm,o,b⟩)
 have GOT: ∀(g cap n gb:Nat) (cp:Nat) (A:Option Addr) (w3:World),n=G.rows*G.AB->EEr w G.rows G.AB n cp A g cap gb p (PG.cells (PG.Bl G r c k p)) w3->F4 w (PG.Bl G r c k p) (.returned (gv G.rows G.AB (.slice (some ⟨g,0,none⟩) n cap))) (((w3.setCell ⟨w.heap.size+1+1,0,none⟩ (.int .i64 G.rows)).setCell ⟨w.heap.size+1+1,1,none⟩ (.int .i64 G.AB)).setCell ⟨w.heap.size+1+1,2,none⟩ (.slice (some ⟨g,0,none⟩) n cap)):=fun g cap n gb cp A w3 hn H=>by
  exact T14_32
 obtain⟨A,cp,rfl,hl,h1,h2⟩:=h.open_
 generalize PG.cells (PG.Bl G r c k p)=l1 at*
 obtain⟨l2,hl2⟩: ∃l2,l2=l1:=⟨_,rfl⟩
 clear hl h1 h2 h
 have IP:=hide hIP
 have CN:=hide hCN
 clear hIP hCN
 have GOT:=hide (fun g cap gb cp A w3=>GOT g cap _ gb cp A w3 rfl)
 generalize G.rows*G.AB=n at*
 unfold gv pv at*
 go_enter Tryz.func193,Tryz.ntmps193
 go_upto_region 2 with (
   go_at_call 195
   obtain⟨x0,x1,x2,bw⟩:=Ce (w:=w) (t0:=37) (t1:=38) (t2:=37) (cs:= #[.int .i64 G.rows,.int .i64 G.AB,.slice A n cp]) (ds:= #[.int .i64 p.1,.int .i64 p.2.1,.int .i64 p.2.2]) (es:= #[.int .i64 0,.int .i64 0,.slice none 0 0])
   go_must (refine(CN.out _ bw).mono ?_)
   rintro e w1 ⟨g,cap,rfl,hnc,hcm,o1,b1⟩
   have sz:w.heap.size+1+1<w1.heap.size:=Nat.lt_of_lt_of_le x2.lt b1.size
   have H:=hide (show EEr w G.rows G.AB n cp A g cap w1.heap.size p l1 (w1.alloc (.cells #[.int .i64 G.rows,.int .i64 G.AB,.slice (some ⟨g,0,none⟩) n cap] 37)) from
    ⟨(x0.below b1 x0.lt).alloc _,(x1.below b1 x1.lt).alloc _,(x2.below b1 x2.lt).alloc _,Box.new w1 _ _,sz,D9 (own_base' o1 bw.size) _,(bw.trans (b1.mono bw.size)).alloc (Nat.le_trans bw.size b1.size) _⟩)
   clear x0 x1 x2 bw b1 o1 CN)
 generalize w1.alloc (.cells #[.int .i64 G.rows,.int .i64 G.AB,.slice (some ⟨g,0,none⟩) n cap] 37)=w2 at*
 generalize w1.heap.size=gb at*
 have hsz:=H.out.2.2.2.2.1
 obtain⟨s0,s1,s2,_⟩:=H.out.1.three
 subst hl2
 exact T14_6
theorem Tc {G:PG.Gr} {v:Value} {w:World} (hG:PG.BL G) (h:IsG w G v) (r c k:Int) (p:PG.Pn) (hr: -1000<=r/\r<=1000) (hc: -1000<=c/\c<=1000) (hi:0<=r/\r<G.rows/\0<=c/\c<G.AB) (hk: ¬(0<=k/\k<=2)):Calls Tryz.prog 193 #[v,.int .i64 r,.int .i64 c,.int .i64 k,pv p] w (F4 w (PG.Bl G r c k p)):=by
 have hR:=hG.2.1
 have hK:=hG.2.2.2.1
 have hK0:=hG.2.2.1
 have h24:=size_le hG
 have hnn:0*G.AB+0<G.rows*G.AB:=PG.Bt hG.1 hG.2.2.1
 have hIP:=fun w' (hb:Below w.heap.size w w')=>CG hG (h.low hb) r c true (.inl ⟨rfl,hi⟩)
 have HS:=hide (show(PG.Bl G r c k p).rows=G.rows/\(PG.Bl G r c k p).AB=G.AB from PG.Er G r c k p)
 have HL:=hide (PG.Er G r c k p)
 have hCN:=fun w' (hb:Below w.heap.size w w')=>(KR hG (h.low hb) r c k p (by omega) (by omega)).mono (R':=fun e w''=> ∃g cap,e=.returned (gv G.rows G.AB (.slice (some ⟨g,0,none⟩) (G.rows*G.AB) cap))/\G.rows*G.AB<=cap/\cap<=maxLen/\w''.ownsRow w'.heap.size 66 5 (.slice (some ⟨g,0,none⟩) (G.rows*G.AB) cap) (G.rows*G.AB) (Ag (PG.cells (PG.Bl G r c k p)))/\Below w'.heap.size w' w'') (fun e w'' hm=>by
  obtain⟨s,rfl,o,b⟩:=hm
  rw [HL.out.1,HL.out.2] at o
  obtain⟨g,cap,rfl,hgb,hnc,hcm⟩:=Fe o (by omega)
  rw [HL.out.1,HL.out.2]
  exact⟨g,cap,rfl,hnc,hcm,o,b⟩)
 have GOT: ∀(g cap n gb:Nat) (cp:Nat) (A:Option Addr) (w3:World),n=G.rows*G.AB->EEr w G.rows G.AB n cp A g cap gb p (PG.cells (PG.Bl G r c k p)) w3->F4 w (PG.Bl G r c k p) (.returned (gv G.rows G.AB (.slice (some ⟨g,0,none⟩) n cap))) (((w3.setCell ⟨w.heap.size+1+1,0,none⟩ (.int .i64 G.rows)).setCell ⟨w.heap.size+1+1,1,none⟩ (.int .i64 G.AB)).setCell ⟨w.heap.size+1+1,2,none⟩ (.slice (some ⟨g,0,none⟩) n cap)):=fun g cap n gb cp A w3 hn H=>by
  exact T14_32
 obtain⟨A,cp,rfl,hl,h1,h2⟩:=h.open_
 generalize PG.cells (PG.Bl G r c k p)=l1 at*
 obtain⟨l2,hl2⟩: ∃l2,l2=l1:=⟨_,rfl⟩
 clear hl h1 h2 h
 have IP:=hide hIP
 have CN:=hide hCN
 clear hIP hCN
 have GOT:=hide (fun g cap gb cp A w3=>GOT g cap _ gb cp A w3 rfl)
 generalize G.rows*G.AB=n at*
 unfold gv pv at*
 go_enter Tryz.func193,Tryz.ntmps193
 go_upto_region 2 with (
   go_at_call 195
   obtain⟨x0,x1,x2,bw⟩:=Ce (w:=w) (t0:=37) (t1:=38) (t2:=37) (cs:= #[.int .i64 G.rows,.int .i64 G.AB,.slice A n cp]) (ds:= #[.int .i64 p.1,.int .i64 p.2.1,.int .i64 p.2.2]) (es:= #[.int .i64 0,.int .i64 0,.slice none 0 0])
   go_must (refine(CN.out _ bw).mono ?_)
   rintro e w1 ⟨g,cap,rfl,hnc,hcm,o1,b1⟩
   have sz:w.heap.size+1+1<w1.heap.size:=Nat.lt_of_lt_of_le x2.lt b1.size
   have H:=hide (show EEr w G.rows G.AB n cp A g cap w1.heap.size p l1 (w1.alloc (.cells #[.int .i64 G.rows,.int .i64 G.AB,.slice (some ⟨g,0,none⟩) n cap] 37)) from
    ⟨(x0.below b1 x0.lt).alloc _,(x1.below b1 x1.lt).alloc _,(x2.below b1 x2.lt).alloc _,Box.new w1 _ _,sz,D9 (own_base' o1 bw.size) _,(bw.trans (b1.mono bw.size)).alloc (Nat.le_trans bw.size b1.size) _⟩)
   clear x0 x1 x2 bw b1 o1 CN)
 generalize w1.alloc (.cells #[.int .i64 G.rows,.int .i64 G.AB,.slice (some ⟨g,0,none⟩) n cap] 37)=w2 at*
 generalize w1.heap.size=gb at*
 have hsz:=H.out.2.2.2.2.1
 obtain⟨s0,s1,s2,_⟩:=H.out.1.three
 subst hl2
 have k0:(k==0)=false:=by simp;omega
 have k1:(k==1)=false:=by simp;omega
 have k2:(k==2)=false:=by simp;omega
 clear hk
 exact T14_6
theorem Wu {G:PG.Gr} {v:Value} {w:World} (hG:PG.BL G) (h:IsG w G v) (r c:Nat) (p:PG.Pn) (hr:r<G.rows) (hc:c<G.AB):Calls Tryz.prog 193 #[v,.int .i64 r,.int .i64 c,.int .i64 2,pv p] w (F4 w (PG.Bw G r c 2 p)):=by
 have hR:=hG.2.1
 have hK:=hG.2.2.2.1
 have hK0:=hG.2.2.1
 have h24:=size_le hG
 have hnn:0*G.AB+0<G.rows*G.AB:=PG.Bt hG.1 hG.2.2.1
 have hIP:=fun w' (hb:Below w.heap.size w w')=>CG hG (h.low hb) r c true (.inl ⟨rfl,by omega,by omega,by omega,by omega⟩)
 have HS:=hide (show(PG.Bw G r c 2 p).rows=G.rows/\(PG.Bw G r c 2 p).AB=G.AB from⟨rfl,rfl⟩)
 have HL:=hide (PG.Er G r c 2 p)
 have hCN:=fun w' (hb:Below w.heap.size w w')=>(KR hG (h.low hb) r c 2 p (by omega) (by omega)).mono (R':=fun e w''=> ∃g cap,e=.returned (gv G.rows G.AB (.slice (some ⟨g,0,none⟩) (G.rows*G.AB) cap))/\G.rows*G.AB<=cap/\cap<=maxLen/\w''.ownsRow w'.heap.size 66 5 (.slice (some ⟨g,0,none⟩) (G.rows*G.AB) cap) (G.rows*G.AB) (Ag (PG.cells (PG.Bl G r c 2 p)))/\Below w'.heap.size w' w'') (fun e w'' hm=>by
  obtain⟨s,rfl,o,b⟩:=hm
  rw [HL.out.1,HL.out.2] at o
  obtain⟨g,cap,rfl,hgb,hnc,hcm⟩:=Fe o (by omega)
  rw [HL.out.1,HL.out.2]
  exact⟨g,cap,rfl,hnc,hcm,o,b⟩)
 have GOT: ∀(g cap n gb:Nat) (cp:Nat) (A:Option Addr) (w3:World),n=G.rows*G.AB->EEr w G.rows G.AB n cp A g cap gb p (PG.cells (PG.Bw G r c 2 p)) w3->F4 w (PG.Bw G r c 2 p) (.returned (gv G.rows G.AB (.slice (some ⟨g,0,none⟩) n cap))) (((w3.setCell ⟨w.heap.size+1+1,0,none⟩ (.int .i64 G.rows)).setCell ⟨w.heap.size+1+1,1,none⟩ (.int .i64 G.AB)).setCell ⟨w.heap.size+1+1,2,none⟩ (.slice (some ⟨g,0,none⟩) n cap)):=fun g cap n gb cp A w3 hn H=>by
  have F:=Dc (w:=w) (H:=PG.Bw G r c 2 p) (A:=some ⟨g,0,none⟩) (n:=n) (c:=cap) (B:=w.heap.size) (by rw [HS.out.1,HS.out.2, <- hn];exact H.2.2.2.2.2.1) (Nat.le_refl _) H.2.2.1 H.2.2.2.2.2.2 (show w.heap.size<=w.heap.size+1+1 by omega)
  rw [HS.out.1,HS.out.2] at F
  exact F
 obtain⟨A,cp,rfl,hl,h1,h2⟩:=h.open_
 have e2:=PG.iP (g:=G) (r:=r) (c:=c) (p:=p) (PG.cells (PG.Bl G r c 2 p)) (by rw [PG.Aw,HL.out.1,HL.out.2])
 generalize PG.cells (PG.Bl G r c 2 p)=l1 at*
 generalize PG.cells (PG.Bw G r c 2 p)=l2 at*
 clear hl h1 h2 h
 have IP:=hide hIP
 have CN:=hide hCN
 clear hIP hCN
 have GOT:=hide (fun g cap gb cp A w3=>GOT g cap _ gb cp A w3 rfl)
 generalize G.rows*G.AB=n at*
 unfold gv pv at*
 go_enter Tryz.func193,Tryz.ntmps193
 go_upto_region 2 with (
   go_at_call 195
   obtain⟨x0,x1,x2,bw⟩:=Ce (w:=w) (t0:=37) (t1:=38) (t2:=37) (cs:= #[.int .i64 G.rows,.int .i64 G.AB,.slice A n cp]) (ds:= #[.int .i64 p.1,.int .i64 p.2.1,.int .i64 p.2.2]) (es:= #[.int .i64 0,.int .i64 0,.slice none 0 0])
   go_must (refine(CN.out _ bw).mono ?_)
   rintro e w1 ⟨g,cap,rfl,hnc,hcm,o1,b1⟩
   have sz:w.heap.size+1+1<w1.heap.size:=Nat.lt_of_lt_of_le x2.lt b1.size
   have H:=hide (show EEr w G.rows G.AB n cp A g cap w1.heap.size p l1 (w1.alloc (.cells #[.int .i64 G.rows,.int .i64 G.AB,.slice (some ⟨g,0,none⟩) n cap] 37)) from
    ⟨(x0.below b1 x0.lt).alloc _,(x1.below b1 x1.lt).alloc _,(x2.below b1 x2.lt).alloc _,Box.new w1 _ _,sz,D9 (own_base' o1 bw.size) _,(bw.trans (b1.mono bw.size)).alloc (Nat.le_trans bw.size b1.size) _⟩)
   clear x0 x1 x2 bw b1 o1 CN)
 generalize w1.alloc (.cells #[.int .i64 G.rows,.int .i64 G.AB,.slice (some ⟨g,0,none⟩) n cap] 37)=w2 at*
 generalize w1.heap.size=gb at*
 have hsz:=H.out.2.2.2.2.1
 obtain⟨s0,s1,s2,_⟩:=H.out.1.three
 have EB:=hide (fun cp' w' (ho:w'.ownsRow w.heap.size 66 5 (.slice (some ⟨g,0,none⟩) n cap) n (Ag l1))=>(show Calls Tryz.prog 183 #[.slice (some ⟨g,0,none⟩) n cp',.agg #[.int .i64 p.1,.int .i64 p.2.1,.int .i64 p.2.2]] w' fun e w''=>e=.returned (.tuple #[])/\w''.ownsRow w.heap.size 66 5 (.slice (some ⟨g,0,none⟩) n cap) n (Ag l2)/\Kept [some g] w' w'' by
  have h:=Fz 0 n cp' n cap g w.heap.size (some ⟨g,0,none⟩) l1 p w' ho (by omega) (by omega) (fun _=>rfl)
  rw [e2] at h
  exact h))
 go_wp2_with (first
  | (go_at_call 180
     go_must (refine(IP.out _ H.out.2.2.2.2.2.2).mono ?_)
     rintro e w3 ⟨rfl,b3⟩
     have H:=hide (H.out.call b3)
     obtain⟨a0,a1,a2,a3,a4,a5⟩:=H.out.2.2.2.1.three
     obtain⟨j0,j1,j2,f0,f1,f2⟩:=H.out.2.2.1.three
     obtain⟨s0,s1,s2,_⟩:=H.out.1.three
     obtain⟨t0,t1,t2,_⟩:=H.out.2.1.three
     clear b3 IP)
  | (go_at_call 183
     go_must (refine(EB.out _ _ H.out.2.2.2.2.2.1).mono ?_)
     rintro e w4 ⟨rfl,o4,k4⟩
     have H:=hide (H.out.wrote o4 k4)
     obtain⟨a0,a1,a2,a3,a4,a5⟩:=H.out.2.2.2.1.three
     obtain⟨j0,j1,j2,f0,f1,f2⟩:=H.out.2.2.1.three
     clear o4 k4 EB))
 have X2:=H.out.2.2.1.Cu (.int .i64 G.rows) (.int .i64 G.AB) (.slice (some ⟨g,0,none⟩) n cap)
 obtain⟨i0',i1',i2',_⟩:=X2.three
 refine bodyPost_ret (v:=.agg #[.int .i64 G.rows,.int .i64 G.AB,.slice (some ⟨g,0,none⟩) n cap]) (by simp [results,Tryz.results193,go_sem,i0',i1',i2']) rfl (GOT.out g cap gb cp A _ H.out)
theorem T14_13 {P:Prop} (h:P:=by
 have H:=hide h.out
 obtain⟨a0,a1,a2,a3,a4,a5⟩:=H.out.2.2.2.1.three
 obtain⟨j0,j1,j2,f0,f1,f2⟩:=H.out.2.2.1.three
 go_wp2_with fail
 have X2:=H.out.2.2.1.Cu (.int .i64 G.rows) (.int .i64 G.AB) (.slice (some ⟨g,0,none⟩) n cap)
 obtain⟨i0',i1',i2',_⟩:=X2.three
 refine bodyPost_ret (v:=.agg #[.int .i64 G.rows,.int .i64 G.AB,.slice (some ⟨g,0,none⟩) n cap]) (by simp [results,Tryz.results193,go_sem,i0',i1',i2']) rfl (GOT.out g cap gb cp A _ H.out)):P:=h
theorem T14_18 {P:Prop} (h:P:=by
 intro L a w' hL hsame hsz hJ AJ hcl
 have e0:a.eval (.tmp 11)=(.pointer (some ⟨gb,0,none⟩)):=AY hsame (by kernel_rfl)
 obtain⟨q0,q1,q2,_⟩:=hJ.put.2.2.2.1.three
 refine Step.val _ rfl rfl (AV rfl) (.agg #[.int .i64 G.rows,.int .i64 G.AB,.slice (some ⟨g,0,none⟩) n cap]) w' (fun ρ hρ=>?_) (hJ.val ST.out (by decide) (Below.refl _ _) _ rfl)
 rw [hρ] at e0
 clear hJ hsame AJ hcl hρ hsz
 go_simp):P:=h
theorem T14_21 {P:Prop} (h:P:=by
 intro L a w' hL hsame hsz hJ AJ hcl
 have e0:a.eval (.tmp 9)=(.pointer (some ⟨w.heap.size+1,0,none⟩)):=AY hsame (by kernel_rfl)
 obtain⟨q0,q1,q2,_⟩:=hJ.put.2.1.three
 refine Step.val _ rfl rfl (AV rfl) (.agg #[.int .i64 p.1,.int .i64 p.2.1,.int .i64 p.2.2]) w' (fun ρ hρ=>?_) (hJ.val ST.out (by decide) (Below.refl _ _) _ rfl)
 rw [hρ] at e0
 clear hJ hsame AJ hcl hρ hsz
 go_simp):P:=h
theorem T14_31 {P:Prop} (h:P:=by
 intro L a w' hL hsame hsz hJ AJ hcl
 have e0:a.eval (.tmp 1)=(.int .i64 r):=AY hsame (by kernel_rfl)
 refine Step.val _ rfl rfl (AV rfl) (.int .i64 r) w' (fun ρ hρ=>?_) (hJ.val ST.out (by decide) (Below.refl _ _) _ rfl)
 rw [hρ] at e0
 clear hJ hsame AJ hcl hρ hsz
 go_simp):P:=h
theorem Wv {G:PG.Gr} {v:Value} {w:World} (hG:PG.BL G) (h:IsG w G v) (r c:Nat) (p:PG.Pn) (hr:r<G.rows) (hc:c<G.AB):Calls Tryz.prog 193 #[v,.int .i64 r,.int .i64 c,.int .i64 0,pv p] w (F4 w (PG.Bw G r c 0 p)):=by
 have hR:=hG.2.1
 have hK:=hG.2.2.2.1
 have hK0:=hG.2.2.1
 have h24:=size_le hG
 have hnn:0*G.AB+0<G.rows*G.AB:=PG.Bt hG.1 hG.2.2.1
 have hIP:=fun w' (hb:Below w.heap.size w w')=>CG hG (h.low hb) r c true (.inl ⟨rfl,by omega,by omega,by omega,by omega⟩)
 have HS:=hide (show(PG.Bw G r c 0 p).rows=G.rows/\(PG.Bw G r c 0 p).AB=G.AB from⟨rfl,rfl⟩)
 have HL:=hide (PG.Er G r c 0 p)
 have hCN:=fun w' (hb:Below w.heap.size w w')=>(KR hG (h.low hb) r c 0 p (by omega) (by omega)).mono (R':=fun e w''=> ∃g cap,e=.returned (gv G.rows G.AB (.slice (some ⟨g,0,none⟩) (G.rows*G.AB) cap))/\G.rows*G.AB<=cap/\cap<=maxLen/\w''.ownsRow w'.heap.size 66 5 (.slice (some ⟨g,0,none⟩) (G.rows*G.AB) cap) (G.rows*G.AB) (Ag (PG.cells (PG.Bl G r c 0 p)))/\Below w'.heap.size w' w'') (fun e w'' hm=>by
  obtain⟨s,rfl,o,b⟩:=hm
  rw [HL.out.1,HL.out.2] at o
  obtain⟨g,cap,rfl,hgb,hnc,hcm⟩:=Fe o (by omega)
  rw [HL.out.1,HL.out.2]
  exact⟨g,cap,rfl,hnc,hcm,o,b⟩)
 have GOT: ∀(g cap n gb:Nat) (cp:Nat) (A:Option Addr) (w3:World),n=G.rows*G.AB->EEr w G.rows G.AB n cp A g cap gb p (PG.cells (PG.Bw G r c 0 p)) w3->F4 w (PG.Bw G r c 0 p) (.returned (gv G.rows G.AB (.slice (some ⟨g,0,none⟩) n cap))) (((w3.setCell ⟨w.heap.size+1+1,0,none⟩ (.int .i64 G.rows)).setCell ⟨w.heap.size+1+1,1,none⟩ (.int .i64 G.AB)).setCell ⟨w.heap.size+1+1,2,none⟩ (.slice (some ⟨g,0,none⟩) n cap)):=fun g cap n gb cp A w3 hn H=>by
  have F:=Dc (w:=w) (H:=PG.Bw G r c 0 p) (A:=some ⟨g,0,none⟩) (n:=n) (c:=cap) (B:=w.heap.size) (by rw [HS.out.1,HS.out.2, <- hn];exact H.2.2.2.2.2.1) (Nat.le_refl _) H.2.2.1 H.2.2.2.2.2.2 (show w.heap.size<=w.heap.size+1+1 by omega)
  rw [HS.out.1,HS.out.2] at F
  exact F
 obtain⟨A,cp,rfl,hl,h1,h2⟩:=h.open_
 have e2:=PG.iN (g:=G) (r:=r) (c:=c) (p:=p) hr
 have eL:PG.cells (PG.Bl G r c 0 p)=PG.cells (PG.DW G r c G.AB p):=by
  unfold PG.Bl
  rw [if_pos ⟨⟨by omega,by omega,by omega,by omega⟩,by decide,by decide⟩]
  rfl
 rw [<- eL] at e2
 have hle:(r+1)*G.AB+(G.rows-(r+1))*G.AB=G.rows*G.AB:=by rw [<- Nat.add_mul];congr 1;omega
 have hle2:G.rows*G.AB<=G.rows*G.AB:=Nat.le_refl _
 have RW:=fun g cap (h1:G.rows*G.AB<=cap) (h2:cap<=maxLen) wx=>(show Calls Tryz.prog 181 #[gv G.rows G.AB (.slice (some ⟨g,0,none⟩) (G.rows*G.AB) cap),.int .i64 ((r:Int)+1),.int .i64 G.rows] wx fun e w'=>e=.returned (Kr g ((r+1)*G.AB) ((G.rows-(r+1))*G.AB) cap)/\Below wx.heap.size wx w' from
  KQ G.rows G.AB (G.rows*G.AB) cap g (r+1) G.rows ((r+1)*G.AB) ((G.rows-(r+1))*G.AB) wx rfl hle rfl (Nat.le_refl _) hR hK h1 h2)
 generalize PG.cells (PG.Bl G r c 0 p)=l1 at*
 generalize PG.cells (PG.Bw G r c 0 p)=l2 at*
 clear hl h1 h2 h
 have IP:=hide hIP
 have CN:=hide hCN
 clear hIP hCN
 have GOT:=hide (fun g cap gb cp A w3=>GOT g cap _ gb cp A w3 rfl)
 generalize G.rows*G.AB=n at*
 unfold gv pv at*
 go_enter Tryz.func193,Tryz.ntmps193
 go_upto_region 2 with (
   go_at_call 195
   obtain⟨x0,x1,x2,bw⟩:=Ce (w:=w) (t0:=37) (t1:=38) (t2:=37) (cs:= #[.int .i64 G.rows,.int .i64 G.AB,.slice A n cp]) (ds:= #[.int .i64 p.1,.int .i64 p.2.1,.int .i64 p.2.2]) (es:= #[.int .i64 0,.int .i64 0,.slice none 0 0])
   go_must (refine(CN.out _ bw).mono ?_)
   rintro e w1 ⟨g,cap,rfl,hnc,hcm,o1,b1⟩
   have sz:w.heap.size+1+1<w1.heap.size:=Nat.lt_of_lt_of_le x2.lt b1.size
   have H:=hide (show EEr w G.rows G.AB n cp A g cap w1.heap.size p l1 (w1.alloc (.cells #[.int .i64 G.rows,.int .i64 G.AB,.slice (some ⟨g,0,none⟩) n cap] 37)) from
    ⟨(x0.below b1 x0.lt).alloc _,(x1.below b1 x1.lt).alloc _,(x2.below b1 x2.lt).alloc _,Box.new w1 _ _,sz,D9 (own_base' o1 bw.size) _,(bw.trans (b1.mono bw.size)).alloc (Nat.le_trans bw.size b1.size) _⟩)
   clear x0 x1 x2 bw b1 o1 CN)
 generalize w1.alloc (.cells #[.int .i64 G.rows,.int .i64 G.AB,.slice (some ⟨g,0,none⟩) n cap] 37)=w2 at*
 generalize w1.heap.size=gb at*
 have hsz:=H.out.2.2.2.2.1
 obtain⟨s0,s1,s2,_⟩:=H.out.1.three
 go_upto_region 6 with (
      go_at_call 180
      go_must (refine(IP.out _ H.out.2.2.2.2.2.2).mono ?_)
      rintro e w3 ⟨rfl,b3⟩
      have H:=hide (H.out.call b3)
      obtain⟨a0,a1,a2,a3,a4,a5⟩:=H.out.2.2.2.1.three
      obtain⟨j0,j1,j2,f0,f1,f2⟩:=H.out.2.2.1.three
      obtain⟨s0,s1,s2,_⟩:=H.out.1.three
      obtain⟨t0,t1,t2,_⟩:=H.out.2.1.three
      clear b3 IP)
 obtain⟨A2,c2,hrv,hA2,hm2,hcm2⟩:=MR (g:=g) (x:=(r+1)*G.AB) (m:=(G.rows-(r+1))*G.AB) (cp:=cap) (n:=n) (by omega) hnc hcm
 have RW:=hide (fun wx=>RW g cap hnc hcm wx)
 rw [hrv] at RW
 have EB:=hide (fun w' (ho:w'.ownsRow w.heap.size 66 5 (.slice (some ⟨g,0,none⟩) n cap) n (Ag l1))=>(show Calls Tryz.prog 183 #[.slice A2 ((G.rows-(r+1))*G.AB) c2,.agg #[.int .i64 p.1,.int .i64 p.2.1,.int .i64 p.2.2]] w' fun e w''=>e=.returned (.tuple #[])/\w''.ownsRow w.heap.size 66 5 (.slice (some ⟨g,0,none⟩) n cap) n (Ag l2)/\Kept [some g] w' w'' by
  have h:=Fz ((r+1)*G.AB) ((G.rows-(r+1))*G.AB) c2 n cap g w.heap.size A2 l1 p w' ho (by omega) (by omega) hA2
  rw [e2] at h
  exact h))
 clear hrv hA2 e2
 generalize (G.rows-(r+1))*G.AB=M at*
 have qr:IntKind.i64.wrap ((r:Int)+1)=(r:Int)+1:=IntWalk.i64_in _ (by omega)
 have ST:=hide (show∀(b:Bool) (x y:World),EEr w G.rows G.AB n cp A g cap gb p (if b=true then l2 else l1) x->Below x.heap.size x y->EEr w G.rows G.AB n cp A g cap gb p (if b=true then l2 else l1) y from fun b x y h hb=>h.call hb)
 have FIN:=hide (show∀(x y:World),EEr w G.rows G.AB n cp A g cap gb p (if false=true then l2 else l1) x->(y.ownsRow w.heap.size 66 5 (.slice (some ⟨g,0,none⟩) n cap) n (Ag l2)/\Kept [some g] x y)->EEr w G.rows G.AB n cp A g cap gb p (if true=true then l2 else l1) y from fun x y h h2=>EEr.wrote h h2.1 h2.2)
 have H0:=hide (show EEr w G.rows G.AB n cp A g cap gb p (if false=true then l2 else l1) _ from H.out.drew)
 clear a0 a1 a2 a3 a4 a5 j0 j1 j2 f0 f1 f2 s0 s1 s2 t0 t1 t2
 refine DF (n:=49) (TJ 7 (fun b wx=>EEr w G.rows G.AB n cp A g cap gb p (if b=true then l2 else l1) wx) (fun j=> [(.agg #[.int .i64 G.rows,.int .i64 G.AB,.slice (some ⟨g,0,none⟩) n cap]),(.int .i64 r),(.int .i64 ((r:Int)+1)),(.pointer (some ⟨w.heap.size,0,none⟩)),(.int .i64 G.rows),(.slice A2 M c2),(.agg #[.int .i64 p.1,.int .i64 p.2.1,.int .i64 p.2.2])].getD j undef)) (by kernel_rfl) (by kernel_rfl) (by kernel_rfl) rfl (fun L u u' wx he hj=>hj.same he) (YI ⟨?_,?_,?_,?_,?_,?_,?_,?_⟩) ?_ ⟨H0.out,fun j _ h=>by cases h⟩
 ·exact T14_18
 ·exact T14_31
 ·intro L a w' hL hsame hsz hJ AJ hcl
  have e0:a.eval (.tmp 28)=(.int .i64 r):=AU (j:=1) (by kernel_rfl) (hJ.all 1 (by decide) (AZ AJ 1 (by kernel_rfl)))
  refine Step.val _ rfl rfl (AV rfl) (.int .i64 ((r:Int)+1)) w' (fun ρ hρ=>?_) (hJ.val ST.out (by decide) (Below.refl _ _) _ rfl)
  rw [hρ] at e0
  have ec1:ρ (.const (.int .i64 1))=(.int .i64 1):=(hρ _).symm
  clear hJ hsame AJ hcl hρ hsz
  go_simp
 ·intro L a w' hL hsame hsz hJ AJ hcl
  have e0:a.eval (.tmp 5)=(.pointer (some ⟨w.heap.size,0,none⟩)):=AY hsame (by kernel_rfl)
  refine Step.val _ rfl rfl (AV rfl) (.pointer (some ⟨w.heap.size,0,none⟩)) w' (fun ρ hρ=>?_) (hJ.val ST.out (by decide) (Below.refl _ _) _ rfl)
  rw [hρ] at e0
  clear hJ hsame AJ hcl hρ hsz
  go_simp
 ·intro L a w' hL hsame hsz hJ AJ hcl
  have e0:a.eval (.tmp 30)=(.pointer (some ⟨w.heap.size,0,none⟩)):=AU (j:=3) (by kernel_rfl) (hJ.all 3 (by decide) (AZ AJ 3 (by kernel_rfl)))
  obtain⟨q0,q1,q2,_⟩:=hJ.put.1.three
  refine Step.val _ rfl rfl (AV rfl) (.int .i64 G.rows) w' (fun ρ hρ=>?_) (hJ.val ST.out (by decide) (Below.refl _ _) _ rfl)
  rw [hρ] at e0
  clear hJ hsame AJ hcl hρ hsz
  go_simp
 ·intro L a w' hL hsame hsz hJ AJ hcl
  have e0:a.eval (.tmp 27)=(.agg #[.int .i64 G.rows,.int .i64 G.AB,.slice (some ⟨g,0,none⟩) n cap]):=AU (j:=0) (by kernel_rfl) (hJ.all 0 (by decide) (AZ AJ 0 (by kernel_rfl)))
  have e1:a.eval (.tmp 29)=(.int .i64 ((r:Int)+1)):=AU (j:=2) (by kernel_rfl) (hJ.all 2 (by decide) (AZ AJ 2 (by kernel_rfl)))
  have e2:a.eval (.tmp 31)=(.int .i64 G.rows):=AU (j:=4) (by kernel_rfl) (hJ.all 4 (by decide) (AZ AJ 4 (by kernel_rfl)))
  refine Step.call _ rfl rfl (AV rfl) 181 #[.agg #[.int .i64 G.rows,.int .i64 G.AB,.slice (some ⟨g,0,none⟩) n cap],.int .i64 ((r:Int)+1),.int .i64 G.rows] (fun ρ hρ=>?_) ?_
  ·skip
   rw [hρ] at e0 e1 e2
   have ef:ρ (.func 181)=.func (.func 181) #[] #[] :=(hρ _).symm
   clear hJ hsame AJ hcl hρ hsz
   go_simp
  ·refine(RW.out w').mono ?_
   rintro e w2 ⟨rfl,bb⟩
   exact⟨_,rfl,hJ.val ST.out (by decide) bb _ rfl⟩
 ·exact T14_21
 ·intro L a w' hL hsame hsz hJ AJ hcl
  have e0:a.eval (.tmp 32)=(.slice A2 M c2):=AU (j:=5) (by kernel_rfl) (hJ.all 5 (by decide) (AZ AJ 5 (by kernel_rfl)))
  have e1:a.eval (.tmp 33)=(.agg #[.int .i64 p.1,.int .i64 p.2.1,.int .i64 p.2.2]):=AU (j:=6) (by kernel_rfl) (hJ.all 6 (by decide) (AZ AJ 6 (by kernel_rfl)))
  refine Step.call _ rfl rfl (AV rfl) 183 #[.slice A2 M c2,.agg #[.int .i64 p.1,.int .i64 p.2.1,.int .i64 p.2.2]] (fun ρ hρ=>?_) ?_
  ·skip
   rw [hρ] at e0 e1
   have ef:ρ (.func 183)=.func (.func 183) #[] #[] :=(hρ _).symm
   clear hJ hsame AJ hcl hρ hsz
   go_simp
  ·have hL0:L 7=false:=hL
   have hp:=hJ.put
   rw [hL0] at hp
   refine(EB.out w' hp.2.2.2.2.2.1).mono ?_
   rintro e w2 ⟨rfl,h2⟩
   exact⟨_,rfl,hJ.fin _ (FIN.out _ _ hp h2)⟩
 ·intro L a w' hsame hsz hJ hall
  obtain⟨u,hu,ha⟩:=EY hsame
  have h:=hJ.put
  rw [hall 7 (by decide)] at h
  have h:=hide h
  clear hJ hall hsz hu hsame
  subst ha
  change Exit.inBlock _ _ Exit.normal (Act.put (Act.put (Act.put (Act.put (Act.put (Act.put (Act.put (Act.put (Az _ u 0 _) (some 27) (u 0)) (some 28) (u 1)) (some 29) (u 2)) (some 30) (u 3)) (some 31) (u 4)) (some 32) (u 5)) (some 33) (u 6)) (some 34) (u 7)) _
  simp only [Az]
  generalize u 0=v0
  generalize u 1=v1
  generalize u 2=v2
  generalize u 3=v3
  generalize u 4=v4
  generalize u 5=v5
  generalize u 6=v6
  generalize u 7=v7
  go_simp
  (try simp only [Exit.then,Exit.inBlock])
  exact T14_13
theorem Ww {G:PG.Gr} {v:Value} {w:World} (hG:PG.BL G) (h:IsG w G v) (r c:Nat) (p:PG.Pn) (hr:r<G.rows) (hc:c<G.AB):Calls Tryz.prog 193 #[v,.int .i64 r,.int .i64 c,.int .i64 1,pv p] w (F4 w (PG.Bw G r c 1 p)):=by
 have hR:=hG.2.1
 have hK:=hG.2.2.2.1
 have hK0:=hG.2.2.1
 have h24:=size_le hG
 have hnn:0*G.AB+0<G.rows*G.AB:=PG.Bt hG.1 hG.2.2.1
 have hIP:=fun w' (hb:Below w.heap.size w w')=>CG hG (h.low hb) r c true (.inl ⟨rfl,by omega,by omega,by omega,by omega⟩)
 have HS:=hide (show(PG.Bw G r c 1 p).rows=G.rows/\(PG.Bw G r c 1 p).AB=G.AB from⟨rfl,rfl⟩)
 have HL:=hide (PG.Er G r c 1 p)
 have hCN:=fun w' (hb:Below w.heap.size w w')=>(KR hG (h.low hb) r c 1 p (by omega) (by omega)).mono (R':=fun e w''=> ∃g cap,e=.returned (gv G.rows G.AB (.slice (some ⟨g,0,none⟩) (G.rows*G.AB) cap))/\G.rows*G.AB<=cap/\cap<=maxLen/\w''.ownsRow w'.heap.size 66 5 (.slice (some ⟨g,0,none⟩) (G.rows*G.AB) cap) (G.rows*G.AB) (Ag (PG.cells (PG.Bl G r c 1 p)))/\Below w'.heap.size w' w'') (fun e w'' hm=>by
  obtain⟨s,rfl,o,b⟩:=hm
  rw [HL.out.1,HL.out.2] at o
  obtain⟨g,cap,rfl,hgb,hnc,hcm⟩:=Fe o (by omega)
  rw [HL.out.1,HL.out.2]
  exact⟨g,cap,rfl,hnc,hcm,o,b⟩)
 have GOT: ∀(g cap n gb:Nat) (cp:Nat) (A:Option Addr) (w3:World),n=G.rows*G.AB->EEr w G.rows G.AB n cp A g cap gb p (PG.cells (PG.Bw G r c 1 p)) w3->F4 w (PG.Bw G r c 1 p) (.returned (gv G.rows G.AB (.slice (some ⟨g,0,none⟩) n cap))) (((w3.setCell ⟨w.heap.size+1+1,0,none⟩ (.int .i64 G.rows)).setCell ⟨w.heap.size+1+1,1,none⟩ (.int .i64 G.AB)).setCell ⟨w.heap.size+1+1,2,none⟩ (.slice (some ⟨g,0,none⟩) n cap)):=fun g cap n gb cp A w3 hn H=>by
  have F:=Dc (w:=w) (H:=PG.Bw G r c 1 p) (A:=some ⟨g,0,none⟩) (n:=n) (c:=cap) (B:=w.heap.size) (by rw [HS.out.1,HS.out.2, <- hn];exact H.2.2.2.2.2.1) (Nat.le_refl _) H.2.2.1 H.2.2.2.2.2.2 (show w.heap.size<=w.heap.size+1+1 by omega)
  rw [HS.out.1,HS.out.2] at F
  exact F
 obtain⟨A,cp,rfl,hl,h1,h2⟩:=h.open_
 have e2:=PG.iO (g:=G) (r:=r) (c:=c) (p:=p) hr
 have eL:PG.cells (PG.Bl G r c 1 p)=PG.cells (PG.DW G r 0 (c+1) p):=by
  unfold PG.Bl
  rw [if_pos ⟨⟨by omega,by omega,by omega,by omega⟩,by decide,by decide⟩]
  rfl
 rw [<- eL] at e2
 have hle:0+r*G.AB=r*G.AB:=by omega
 have hle2:r*G.AB<=G.rows*G.AB:=Nat.mul_le_mul_right _ (by omega)
 have RW:=fun g cap (h1:G.rows*G.AB<=cap) (h2:cap<=maxLen) wx=>(show Calls Tryz.prog 181 #[gv G.rows G.AB (.slice (some ⟨g,0,none⟩) (G.rows*G.AB) cap),.int .i64 0,.int .i64 r] wx fun e w'=>e=.returned (Kr g (0) (r*G.AB) cap)/\Below wx.heap.size wx w' from
  KQ G.rows G.AB (G.rows*G.AB) cap g 0 r (0) (r*G.AB) wx (by omega) hle rfl (by omega) hR hK h1 h2)
 generalize PG.cells (PG.Bl G r c 1 p)=l1 at*
 generalize PG.cells (PG.Bw G r c 1 p)=l2 at*
 clear hl h1 h2 h
 have IP:=hide hIP
 have CN:=hide hCN
 clear hIP hCN
 have GOT:=hide (fun g cap gb cp A w3=>GOT g cap _ gb cp A w3 rfl)
 generalize G.rows*G.AB=n at*
 unfold gv pv at*
 go_enter Tryz.func193,Tryz.ntmps193
 go_upto_region 2 with (
   go_at_call 195
   obtain⟨x0,x1,x2,bw⟩:=Ce (w:=w) (t0:=37) (t1:=38) (t2:=37) (cs:= #[.int .i64 G.rows,.int .i64 G.AB,.slice A n cp]) (ds:= #[.int .i64 p.1,.int .i64 p.2.1,.int .i64 p.2.2]) (es:= #[.int .i64 0,.int .i64 0,.slice none 0 0])
   go_must (refine(CN.out _ bw).mono ?_)
   rintro e w1 ⟨g,cap,rfl,hnc,hcm,o1,b1⟩
   have sz:w.heap.size+1+1<w1.heap.size:=Nat.lt_of_lt_of_le x2.lt b1.size
   have H:=hide (show EEr w G.rows G.AB n cp A g cap w1.heap.size p l1 (w1.alloc (.cells #[.int .i64 G.rows,.int .i64 G.AB,.slice (some ⟨g,0,none⟩) n cap] 37)) from
    ⟨(x0.below b1 x0.lt).alloc _,(x1.below b1 x1.lt).alloc _,(x2.below b1 x2.lt).alloc _,Box.new w1 _ _,sz,D9 (own_base' o1 bw.size) _,(bw.trans (b1.mono bw.size)).alloc (Nat.le_trans bw.size b1.size) _⟩)
   clear x0 x1 x2 bw b1 o1 CN)
 generalize w1.alloc (.cells #[.int .i64 G.rows,.int .i64 G.AB,.slice (some ⟨g,0,none⟩) n cap] 37)=w2 at*
 generalize w1.heap.size=gb at*
 have hsz:=H.out.2.2.2.2.1
 obtain⟨s0,s1,s2,_⟩:=H.out.1.three
 go_upto_region 8 with (
      go_at_call 180
      go_must (refine(IP.out _ H.out.2.2.2.2.2.2).mono ?_)
      rintro e w3 ⟨rfl,b3⟩
      have H:=hide (H.out.call b3)
      obtain⟨a0,a1,a2,a3,a4,a5⟩:=H.out.2.2.2.1.three
      obtain⟨j0,j1,j2,f0,f1,f2⟩:=H.out.2.2.1.three
      obtain⟨s0,s1,s2,_⟩:=H.out.1.three
      obtain⟨t0,t1,t2,_⟩:=H.out.2.1.three
      clear b3 IP)
 obtain⟨A2,c2,hrv,hA2,hm2,hcm2⟩:=MR (g:=g) (x:=0) (m:=r*G.AB) (cp:=cap) (n:=n) (by omega) hnc hcm
 have RW:=hide (fun wx=>RW g cap hnc hcm wx)
 rw [hrv] at RW
 have EB:=hide (fun w' (ho:w'.ownsRow w.heap.size 66 5 (.slice (some ⟨g,0,none⟩) n cap) n (Ag l1))=>(show Calls Tryz.prog 183 #[.slice A2 (r*G.AB) c2,.agg #[.int .i64 p.1,.int .i64 p.2.1,.int .i64 p.2.2]] w' fun e w''=>e=.returned (.tuple #[])/\w''.ownsRow w.heap.size 66 5 (.slice (some ⟨g,0,none⟩) n cap) n (Ag l2)/\Kept [some g] w' w'' by
  have h:=Fz (0) (r*G.AB) c2 n cap g w.heap.size A2 l1 p w' ho (by omega) (by omega) hA2
  rw [e2] at h
  exact h))
 clear hrv hA2 e2
 generalize r*G.AB=M at*
 have qr:IntKind.i64.wrap ((r:Int)+1)=(r:Int)+1:=IntWalk.i64_in _ (by omega)
 have ST:=hide (show∀(b:Bool) (x y:World),EEr w G.rows G.AB n cp A g cap gb p (if b=true then l2 else l1) x->Below x.heap.size x y->EEr w G.rows G.AB n cp A g cap gb p (if b=true then l2 else l1) y from fun b x y h hb=>h.call hb)
 have FIN:=hide (show∀(x y:World),EEr w G.rows G.AB n cp A g cap gb p (if false=true then l2 else l1) x->(y.ownsRow w.heap.size 66 5 (.slice (some ⟨g,0,none⟩) n cap) n (Ag l2)/\Kept [some g] x y)->EEr w G.rows G.AB n cp A g cap gb p (if true=true then l2 else l1) y from fun x y h h2=>EEr.wrote h h2.1 h2.2)
 have H0:=hide (show EEr w G.rows G.AB n cp A g cap gb p (if false=true then l2 else l1) _ from H.out.drew)
 clear a0 a1 a2 a3 a4 a5 j0 j1 j2 f0 f1 f2 s0 s1 s2 t0 t1 t2
 refine DF (n:=49) (TJ 4 (fun b wx=>EEr w G.rows G.AB n cp A g cap gb p (if b=true then l2 else l1) wx) (fun j=> [(.agg #[.int .i64 G.rows,.int .i64 G.AB,.slice (some ⟨g,0,none⟩) n cap]),(.int .i64 r),(.slice A2 M c2),(.agg #[.int .i64 p.1,.int .i64 p.2.1,.int .i64 p.2.2])].getD j undef)) (by kernel_rfl) (by kernel_rfl) (by kernel_rfl) rfl (fun L u u' wx he hj=>hj.same he) (OY ⟨?_,?_,?_,?_,?_⟩) ?_ ⟨H0.out,fun j _ h=>by cases h⟩
 ·exact T14_18
 ·exact T14_31
 ·intro L a w' hL hsame hsz hJ AJ hcl
  have e0:a.eval (.tmp 37)=(.agg #[.int .i64 G.rows,.int .i64 G.AB,.slice (some ⟨g,0,none⟩) n cap]):=AU (j:=0) (by kernel_rfl) (hJ.all 0 (by decide) (AZ AJ 0 (by kernel_rfl)))
  have e2:a.eval (.tmp 38)=(.int .i64 r):=AU (j:=1) (by kernel_rfl) (hJ.all 1 (by decide) (AZ AJ 1 (by kernel_rfl)))
  refine Step.call _ rfl rfl (AV rfl) 181 #[.agg #[.int .i64 G.rows,.int .i64 G.AB,.slice (some ⟨g,0,none⟩) n cap],.int .i64 0,.int .i64 r] (fun ρ hρ=>?_) ?_
  ·skip
   rw [hρ] at e0 e2
   have ec1:ρ (.const (.int .i64 0))=(.int .i64 0):=(hρ _).symm
   have ef:ρ (.func 181)=.func (.func 181) #[] #[] :=(hρ _).symm
   clear hJ hsame AJ hcl hρ hsz
   go_simp
  ·refine(RW.out w').mono ?_
   rintro e w2 ⟨rfl,bb⟩
   exact⟨_,rfl,hJ.val ST.out (by decide) bb _ rfl⟩
 ·exact T14_21
 ·intro L a w' hL hsame hsz hJ AJ hcl
  have e0:a.eval (.tmp 39)=(.slice A2 M c2):=AU (j:=2) (by kernel_rfl) (hJ.all 2 (by decide) (AZ AJ 2 (by kernel_rfl)))
  have e1:a.eval (.tmp 40)=(.agg #[.int .i64 p.1,.int .i64 p.2.1,.int .i64 p.2.2]):=AU (j:=3) (by kernel_rfl) (hJ.all 3 (by decide) (AZ AJ 3 (by kernel_rfl)))
  refine Step.call _ rfl rfl (AV rfl) 183 #[.slice A2 M c2,.agg #[.int .i64 p.1,.int .i64 p.2.1,.int .i64 p.2.2]] (fun ρ hρ=>?_) ?_
  ·skip
   rw [hρ] at e0 e1
   have ef:ρ (.func 183)=.func (.func 183) #[] #[] :=(hρ _).symm
   clear hJ hsame AJ hcl hρ hsz
   go_simp
  ·have hL0:L 4=false:=hL
   have hp:=hJ.put
   rw [hL0] at hp
   refine(EB.out w' hp.2.2.2.2.2.1).mono ?_
   rintro e w2 ⟨rfl,h2⟩
   exact⟨_,rfl,hJ.fin _ (FIN.out _ _ hp h2)⟩
 ·intro L a w' hsame hsz hJ hall
  obtain⟨u,hu,ha⟩:=EY hsame
  have h:=hJ.put
  rw [hall 4 (by decide)] at h
  have h:=hide h
  clear hJ hall hsz hu hsame
  subst ha
  change Exit.inBlock _ _ Exit.normal (Act.put (Act.put (Act.put (Act.put (Act.put (Az _ u 0 _) (some 37) (u 0)) (some 38) (u 1)) (some 39) (u 2)) (some 40) (u 3)) (some 41) (u 4)) _
  simp only [Az]
  generalize u 0=v0
  generalize u 1=v1
  generalize u 2=v2
  generalize u 3=v3
  generalize u 4=v4
  go_simp
  (try simp only [Exit.then,Exit.inBlock])
  exact T14_13
end Go.Proofs.YtoaabebgmdbjeaaGreatDoor
namespace Go.Proofs.YtoaabebgmdbjeaaGreatDoor
open Go.RowKit
section
variable {G:PG.Gr} {v:Value} {w:World}
theorem mg (hG:PG.BL G) (h:IsG w G v) (r c k:Int) (p:PG.Pn) (hp:PG.Cv p) (hr: -1000<=r/\r<=1000) (hc: -1000<=c/\c<=1000):Calls Tryz.prog 195 #[v,.int .i64 r,.int .i64 c,.int .i64 k,pv p] w (Dk w (PG.Bl G r c k p)):=
 (KR hG h r c k p hr hc).mono fun e w' hm=>hm.got
theorem iQ (hG:PG.BL G) (h:IsG w G v) (r c k:Int) (p:PG.Pn) (hp:PG.Cv p) (hr: -1000<=r/\r<=1000) (hc: -1000<=c/\c<=1000):Calls Tryz.prog 193 #[v,.int .i64 r,.int .i64 c,.int .i64 k,pv p] w (Dk w (PG.Fh G r c k p)):=by
 by_cases hi:0<=r/\r<G.rows/\0<=c/\c<G.AB
 ·by_cases hk:0<=k/\k<=2
  ·obtain⟨r',rfl⟩:=Int.eq_ofNat_of_zero_le hi.1
   obtain⟨c',rfl⟩:=Int.eq_ofNat_of_zero_le hi.2.2.1
   obtain⟨k',rfl⟩:=Int.eq_ofNat_of_zero_le hk.1
   have e:PG.Fh G r' c' k' p=PG.Bw G r' c' k' p:=if_pos ⟨hi,hk⟩
   rw [e]
   obtain rfl | rfl | rfl:k'=0\/k'=1\/k'=2:=by omega
   ·exact(Wv hG h r' c' p (by omega) (by omega)).mono fun e w' hm=>hm.got
   ·exact(Ww hG h r' c' p (by omega) (by omega)).mono fun e w' hm=>hm.got
   ·exact(Wu hG h r' c' p (by omega) (by omega)).mono fun e w' hm=>hm.got
  ·rw [(PG.Md (fun x=>hk x.2)).trans (PG.Ir (g:=G) (r:=r) (c:=c) (p:=p) (fun x=>hk x.2)).symm]
   exact(Tc hG h r c k p hr hc hi hk).mono fun e w' hm=>hm.got
 ·rw [(PG.Md (fun x=>hi x.1)).trans (PG.Ir (g:=G) (k:=k) (p:=p) (fun x=>hi x.1)).symm]
  exact(Qi hG h r c k p hr hc hi).mono fun e w' hm=>hm.got
end
end Go.Proofs.YtoaabebgmdbjeaaGreatDoor
