/- Package edit's inRow: a row's cells moved. Package edit's ofRows: rows moved. What package edit's functions make, told of plain grids. Package edit's Line and Erase, told of plain grids. Package edit's Erase, told of plain grids; Line's and Erase's words for the laws. What package edit's Line and Erase make, told of plain grids, for the laws (Insert, Delete, Up, Down: EditMany). -/
import Derived.Test.YtoaabebgmdbjeaaGreatDoorRq14
set_option maxRecDepth 100000
set_option maxHeartbeats 16000000
set_option linter.unusedVariables false
namespace Go.Proofs.YtoaabebgmdbjeaaGreatDoor
open Go.RowKit
theorem Tc {G:PG.Gr} {v:Value} {w:World} (hG:PG.BL G) (h:IsG w G v) (r c:Nat) (m:Int) (p:PG.Pn) (hr:r<G.rows) (hc:c<G.AB) (hm0:0<=m) (hm1:m<=65535):
  Calls Tryz.prog 209 #[.func (.func 208) #[] #[],v,.int .i64 r,.int .i64 c,.int .i64 m,pv p] w (DN w (PG.Cb G r c m p)):=by
 obtain⟨A,cp,rfl,hl,h1,h2⟩:=h.open_
 have hR:=hG.2.1
 have hK:=hG.2.2.2.1
 have hK0:=hG.2.2.1
 have hnn:0*G.AB+0<G.rows*G.AB:=PG.Ca hG.1 hG.2.2.1
 obtain⟨c0,hc0'⟩: ∃c0,(PG.cells G)[0]? =some c0:=⟨_,List.getElem?_eq_getElem (by rw [PG.BH];omega)⟩
 obtain⟨ad,rfl,_⟩:=hl.at_ hc0'
 clear hc0'
 have hle:r*G.AB+G.AB<=G.rows*G.AB:=by rw [<- Nat.succ_mul];exact Nat.mul_le_mul_right _ hr
 have h24:=size_le hG
 obtain⟨i0,hi,hz0,hz1,hz2⟩:=info_parts Cy
 obtain⟨d,hd⟩: ∃d,G.AB-c=d:=⟨_,rfl⟩
 obtain⟨k,hk,hkm,hkd⟩: ∃k:Nat,((m<=(G.AB:Int)-c/\m=k)\/((G.AB:Int)-c<m/\k=G.AB-c))/\((0<=m/\m<=d/\(k:Int)=m)\/(0<=(d:Int)/\(d:Int)<m/\(k:Int)=d))/\k<=G.AB-c:=⟨(min m ((G.AB:Int)-c)).toNat,by omega,by omega,by omega⟩
 have CL:=hide (fun w' (hb:Below w.heap.size w w')=>Ef G.rows G.AB (G.rows*G.AB) cp w.heap.size ad (PG.cells G) w' (hl.below hb) hb.size (by omega))
 have IP:=hide (fun (wx:World) g cap (he:EIn w G.rows G.AB (G.rows*G.AB) g cap p (PG.cells G) wx)=>CW hG (v:=gv G.rows G.AB (.slice (some ⟨g,0,none⟩) (G.rows*G.AB) cap)) (w:=wx) ⟨_,rfl,own_base' he.2.2.2.1 (Nat.zero_le _)⟩ r c true (.inl ⟨rfl,by omega,by omega,by omega,by omega⟩))
 have RW:=hide (fun (wx:World) g cap (h1:G.rows*G.AB<=cap) (h2:cap<=maxLen)=>(show Calls Tryz.prog 181 #[gv G.rows G.AB (.slice (some ⟨g,0,none⟩) (G.rows*G.AB) cap),.int .i64 r,.int .i64 ((r:Int)+1)] wx fun e w'=>e=.returned (.slice (some ⟨g,r*G.AB*5,none⟩) G.AB (cap-r*G.AB))/\Below wx.heap.size wx w' by
  have h:=Kq G.rows G.AB (G.rows*G.AB) cap g r (r+1) (r*G.AB) G.AB wx rfl (by rw [<- Nat.succ_mul]) rfl (by omega) hR hK h1 h2
  rw [JM (n:=G.rows*G.AB) hle h1 (by omega)] at h
  exact h))
 have PT:=hide (fun (wx:World) g cap cp (ho:wx.ownsRow w.heap.size 66 5 (.slice (some ⟨g,0,none⟩) (G.rows*G.AB) cap) (G.rows*G.AB) (Ag (PG.cells G)))=>VL hG (cp:=cp) hr hc rfl ho)
 have MV:=hide (fun g cap cp (h1:G.AB-c<=cp) (h2:cp<=maxLen) (wx:World) (ho:wx.ownsRow w.heap.size 66 5 (.slice (some ⟨g,0,none⟩) (G.rows*G.AB) cap) (G.rows*G.AB) (Ag (PG.cells (PG.Dx G r (PG.parted (G.f r) c)))))=>dX hG hr hc rfl m k hkd hk p h1 h2 ho)
 have WI:=hide (fun wx=>KT m d k wx hkm)
 have MW:=hide (PG.RF (g:=G) (r:=r) (c:=c) (n:=m) (p:=p) hr hc)
 have HS:=hide (PG.Hz G r c m p)
 have HLG:=hide (PG.BH G)
 have HL2:=hide (show(PG.cells (PG.Dx G r (PG.shifted (G.f r) G.AB c m p))).length=G.rows*G.AB from PG.BH _)
 generalize PG.cells (PG.Dx G r (PG.parted (G.f r) c))=l1 at*
 generalize PG.cells (PG.Dx G r (PG.shifted (G.f r) G.AB c m p))=l2 at*
 have q0:(G.AB:Int)-(c:Int)=(d:Int):=by omega
 have hdc:d+c=G.AB:=by omega
 have hcI:(c:Int)<(G.AB:Int):=by omega
 have hrI:(r:Int)+1<=40:=by omega
 rw [hd] at MV
 generalize r*G.AB=z at*
 generalize G.rows*G.AB=n at*
 unfold IK at CL
 have GOT: ∀(g cap:Nat) (l3:List PG.Cl) (w3:World),l3=PG.cells (PG.Cb G r c m p)->w3.ownsRow w.heap.size 66 5 (.slice (some ⟨g,0,none⟩) n cap) n (Ag l3)->Below w.heap.size w w3->DN w (PG.Cb G r c m p) (.returned (gv G.rows G.AB (.slice (some ⟨g,0,none⟩) n cap))) w3:=fun g cap l3 w3 e ho hb=>by
  subst e
  have hn:=ho.1
  rw [Ez,PG.BH,HS.out.1,HS.out.2] at hn
  have hn:n=(PG.Cb G r c m p).rows*(PG.Cb G r c m p).AB:=by rw [HS.out.1,HS.out.2];omega
  refine⟨_,rfl,⟨.slice (some ⟨g,0,none⟩) n cap,by rw [HS.out.1,HS.out.2],?_⟩,hb⟩
  rw [<- hn]
  exact own_base' ho (Nat.zero_le _)
 have GOT:=hide GOT
 clear h hl h2
 unfold gv pv at*
 go_enter Tryz.func209,Tryz.ntmps209
 go_upto_region 4 with (first
  | (go_at_call 179
     obtain⟨x0,x1,x2,bw⟩:=Ci (w:=w) (t0:=37) (t1:=38) (t2:=37) (cs:= #[.int .i64 G.rows,.int .i64 G.AB,.slice (some ad) n cp]) (ds:= #[.int .i64 p.1,.int .i64 p.2.1,.int .i64 p.2.2]) (es:= #[.int .i64 0,.int .i64 0,.slice none 0 0])
     go_must (refine(CL.out _ bw).mono ?_)
     rintro e w1 ⟨v1,rfl,o1,b1⟩
     rw [HLG.out] at o1
     obtain⟨g,cap,rfl,hgb,hnc,hcm⟩:=GA o1 (by omega)
     have y0:=x0.below b1 x0.lt
     have y1:=x1.below b1 x1.lt
     have y2:=x2.below b1 x2.lt
     have bb:=bw.trans (b1.mono bw.size)
     have o1:=own_base' o1 bw.size
     obtain⟨a0,a1,a2,a3,a4,a5⟩:=y0.three
     have n0:=Ac o1 y0 (by decide)
     have X0:=(y0.Cq (.int .i64 G.rows) (.int .i64 G.AB) (.slice (some ⟨g,0,none⟩) n cap))
     have X1:=(y1.Gc (g':=w.heap.size) (by omega) (.int .i64 G.rows) (.int .i64 G.AB) (.slice (some ⟨g,0,none⟩) n cap))
     have X2:=(y2.Gc (g':=w.heap.size) (by omega) (.int .i64 G.rows) (.int .i64 G.AB) (.slice (some ⟨g,0,none⟩) n cap))
     have O:=(ownsRow_setCell_other (ownsRow_setCell_other (ownsRow_setCell_other o1 (a:=⟨w.heap.size,0,none⟩) n0 (.int .i64 G.rows)) (a:=⟨w.heap.size,1,none⟩) n0 (.int .i64 G.AB)) (a:=⟨w.heap.size,2,none⟩) n0 (.slice (some ⟨g,0,none⟩) n cap))
     have bs:=(BM bb (Nat.le_refl _) (.int .i64 G.rows) (.int .i64 G.AB) (.slice (some ⟨g,0,none⟩) n cap))
     have H:=hide (show EIn w G.rows G.AB n g cap p (PG.cells G) _ from⟨X0,X1,X2,O,bs⟩)
     clear x0 x1 x2 bw b1 y0 y1 y2 CL o1 n0 bb X0 X1 X2 O bs)
  | (go_at_call 180
     go_must (refine(IP.out _ g cap H.out).mono ?_)
     rintro e w2 ⟨rfl,b2⟩
     have H:=hide (H.out.call b2)
     obtain⟨a0,a1,a2,a3,a4,a5⟩:=H.out.1.three
     clear b2))
 go_upto_region 6 with (first
  | (go_at_call 181
     go_must (refine(RW.out _ g cap hnc hcm).mono ?_)
     rintro e w3 ⟨rfl,b3⟩
     have H:=hide (H.out.call b3)
     clear b3)
  | (go_at_call 215
     go_must (refine(PT.out _ g cap (cap-z) H.out.2.2.2.1).mono ?_)
     rintro e w4 ⟨rfl,o4,k4⟩
     have H:=hide (H.out.wrote o4 k4)
     clear o4 k4))
 have MV:=hide (fun wx=>(show _->Calls Tryz.prog 208 #[.slice (some ⟨g,z*5+c*5,none⟩) (G.AB-c) (cap-z-c),.int .i64 k,.agg #[.int .i64 p.1,.int .i64 p.2.1,.int .i64 p.2.2]] wx _ by have h:=MV.out g cap (cap-z-c) (by omega) (by simp only [maxLen] at hcm⊢;omega) wx;rw [Nat.add_mul, <- hd] at h;exact h))
 have WI:=hide (fun wx=>(WI.out wx).mono (fun e w' h=>(show e=.returned (.int .i64 k)/\Below wx.heap.size wx w' from⟨h.1,h.2▸Below.refl _ _⟩)))
 have ST:=hide (show∀(b:Bool) (x y:World),EIn w G.rows G.AB n g cap p (if b=true then l2 else l1) x->Below x.heap.size x y->EIn w G.rows G.AB n g cap p (if b=true then l2 else l1) y from fun b x y h hb=>h.call hb)
 have FIN:=hide (show∀(x y:World),EIn w G.rows G.AB n g cap p (if false=true then l2 else l1) x->(y.ownsRow w.heap.size 66 5 (.slice (some ⟨g,0,none⟩) n cap) n (Ag l2)/\Kept [some g] x y)->EIn w G.rows G.AB n g cap p (if true=true then l2 else l1) y from fun x y h h2=>EIn.wrote h h2.1 h2.2)
 have hcN:c<=G.AB:=by omega
 have hcz: ¬(cap-z=c):=by omega
 have qw:IntKind.i64.wrap (d:Int)=(d:Int):=IntWalk.i64_in _ (by omega)
 go_cut [] (fun wx=>EIn w G.rows G.AB n g cap p l2 wx)
 case first=>
  have H0:=hide (show EIn w G.rows G.AB n g cap p (if false=true then l2 else l1) _ from H.out.drew)
  refine Cz (n:=47) (TJ 11 (fun b wx=>EIn w G.rows G.AB n g cap p (if b=true then l2 else l1) wx) (fun j=> [(.func (.func 208) #[] #[]),(.slice (some ⟨g,z*5,none⟩) G.AB (cap-z)),(.int .i64 c),(.slice (some ⟨g,z*5+c*5,none⟩) (G.AB-c) (cap-z-c)),(.int .i64 m),(.slice (some ⟨g,z*5,none⟩) G.AB (cap-z)),(.int .i64 G.AB),(.int .i64 c),(.int .i64 d),(.int .i64 k),(.agg #[.int .i64 p.1,.int .i64 p.2.1,.int .i64 p.2.2])].getD j undef)) (by kernel_rfl) (by kernel_rfl) (by kernel_rfl) rfl (fun L u u' wx he hj=>hj.same he) (Gj ⟨?_,?_,?_,?_,?_,?_,?_,?_,?_,?_,?_,?_⟩) ?_ ⟨H0.out,fun j _ h=>by cases h⟩
  ·intro L a w' hL hsame hsz hJ AJ hcl
   have e0:a.eval (.tmp 0)=(.func (.func 208) #[] #[]):=AY hsame (by kernel_rfl)
   refine Step.val _ rfl rfl (AX rfl) (.func (.func 208) #[] #[]) w' (fun ρ hρ=>?_) (hJ.val ST.out (by decide) (Below.refl _ _) _ rfl)
   rw [hρ] at e0
   clear hJ hsame AJ hcl hρ hsz
   go_simp
  ·intro L a w' hL hsame hsz hJ AJ hcl
   have e0:a.eval (.tmp 13)=(.slice (some ⟨g,z*5,none⟩) G.AB (cap-z)):=AY hsame (by kernel_rfl)
   refine Step.val _ rfl rfl (AX rfl) (.slice (some ⟨g,z*5,none⟩) G.AB (cap-z)) w' (fun ρ hρ=>?_) (hJ.val ST.out (by decide) (Below.refl _ _) _ rfl)
   rw [hρ] at e0
   clear hJ hsame AJ hcl hρ hsz
   go_simp
  ·intro L a w' hL hsame hsz hJ AJ hcl
   have e0:a.eval (.tmp 3)=(.int .i64 c):=AY hsame (by kernel_rfl)
   refine Step.val _ rfl rfl (AX rfl) (.int .i64 c) w' (fun ρ hρ=>?_) (hJ.val ST.out (by decide) (Below.refl _ _) _ rfl)
   rw [hρ] at e0
   clear hJ hsame AJ hcl hρ hsz
   go_simp
  ·intro L a w' hL hsame hsz hJ AJ hcl
   have e0:a.eval (.tmp 31)=(.slice (some ⟨g,z*5,none⟩) G.AB (cap-z)):=AV (j:=1) (by kernel_rfl) (hJ.all 1 (by decide) (AZ AJ 1 (by kernel_rfl)))
   have e1:a.eval (.tmp 32)=(.int .i64 c):=AV (j:=2) (by kernel_rfl) (hJ.all 2 (by decide) (AZ AJ 2 (by kernel_rfl)))
   refine Step.val _ rfl rfl (AX rfl) (.slice (some ⟨g,z*5+c*5,none⟩) (G.AB-c) (cap-z-c)) w' (fun ρ hρ=>?_) (hJ.val ST.out (by decide) (Below.refl _ _) _ rfl)
   rw [hρ] at e0 e1
   clear hJ hsame AJ hcl hρ hsz
   go_simp
  ·intro L a w' hL hsame hsz hJ AJ hcl
   have e0:a.eval (.tmp 4)=(.int .i64 m):=AY hsame (by kernel_rfl)
   refine Step.val _ rfl rfl (AX rfl) (.int .i64 m) w' (fun ρ hρ=>?_) (hJ.val ST.out (by decide) (Below.refl _ _) _ rfl)
   rw [hρ] at e0
   clear hJ hsame AJ hcl hρ hsz
   go_simp
  ·intro L a w' hL hsame hsz hJ AJ hcl
   have e0:a.eval (.tmp 13)=(.slice (some ⟨g,z*5,none⟩) G.AB (cap-z)):=AY hsame (by kernel_rfl)
   refine Step.val _ rfl rfl (AX rfl) (.slice (some ⟨g,z*5,none⟩) G.AB (cap-z)) w' (fun ρ hρ=>?_) (hJ.val ST.out (by decide) (Below.refl _ _) _ rfl)
   rw [hρ] at e0
   clear hJ hsame AJ hcl hρ hsz
   go_simp
  ·intro L a w' hL hsame hsz hJ AJ hcl
   have e0:a.eval (.tmp 35)=(.slice (some ⟨g,z*5,none⟩) G.AB (cap-z)):=AV (j:=5) (by kernel_rfl) (hJ.all 5 (by decide) (AZ AJ 5 (by kernel_rfl)))
   refine Step.val _ rfl rfl (AX rfl) (.int .i64 G.AB) w' (fun ρ hρ=>?_) (hJ.val ST.out (by decide) (Below.refl _ _) _ rfl)
   rw [hρ] at e0
   clear hJ hsame AJ hcl hρ hsz
   go_simp
  ·intro L a w' hL hsame hsz hJ AJ hcl
   have e0:a.eval (.tmp 3)=(.int .i64 c):=AY hsame (by kernel_rfl)
   refine Step.val _ rfl rfl (AX rfl) (.int .i64 c) w' (fun ρ hρ=>?_) (hJ.val ST.out (by decide) (Below.refl _ _) _ rfl)
   rw [hρ] at e0
   clear hJ hsame AJ hcl hρ hsz
   go_simp
  ·intro L a w' hL hsame hsz hJ AJ hcl
   have e0:a.eval (.tmp 36)=(.int .i64 G.AB):=AV (j:=6) (by kernel_rfl) (hJ.all 6 (by decide) (AZ AJ 6 (by kernel_rfl)))
   have e1:a.eval (.tmp 37)=(.int .i64 c):=AV (j:=7) (by kernel_rfl) (hJ.all 7 (by decide) (AZ AJ 7 (by kernel_rfl)))
   refine Step.val _ rfl rfl (AX rfl) (.int .i64 d) w' (fun ρ hρ=>?_) (hJ.val ST.out (by decide) (Below.refl _ _) _ rfl)
   rw [hρ] at e0 e1
   clear hJ hsame AJ hcl hρ hsz
   go_simp
  ·intro L a w' hL hsame hsz hJ AJ hcl
   have e0:a.eval (.tmp 34)=(.int .i64 m):=AV (j:=4) (by kernel_rfl) (hJ.all 4 (by decide) (AZ AJ 4 (by kernel_rfl)))
   have e1:a.eval (.tmp 38)=(.int .i64 d):=AV (j:=8) (by kernel_rfl) (hJ.all 8 (by decide) (AZ AJ 8 (by kernel_rfl)))
   refine Step.call _ rfl rfl (AX rfl) 182 #[.int .i64 m,.int .i64 d] (fun ρ hρ=>?_) ?_
   ·skip
    rw [hρ] at e0 e1
    have ef:ρ (.func 182)=.func (.func 182) #[] #[] :=(hρ _).symm
    clear hJ hsame AJ hcl hρ hsz
    go_simp
   ·refine(WI.out w').mono ?_
    rintro e w2 ⟨rfl,bb⟩
    exact⟨_,rfl,hJ.val ST.out (by decide) bb _ rfl⟩
  ·intro L a w' hL hsame hsz hJ AJ hcl
   have e0:a.eval (.tmp 11)=(.pointer (some ⟨w.heap.size+1,0,none⟩)):=AY hsame (by kernel_rfl)
   obtain⟨q0,q1,q2,_⟩:=hJ.put.2.1.three
   refine Step.val _ rfl rfl (AX rfl) (.agg #[.int .i64 p.1,.int .i64 p.2.1,.int .i64 p.2.2]) w' (fun ρ hρ=>?_) (hJ.val ST.out (by decide) (Below.refl _ _) _ rfl)
   rw [hρ] at e0
   clear hJ hsame AJ hcl hρ hsz
   go_simp
  ·intro L a w' hL hsame hsz hJ AJ hcl
   have e0:a.eval (.tmp 30)=(.func (.func 208) #[] #[]):=AV (j:=0) (by kernel_rfl) (hJ.all 0 (by decide) (AZ AJ 0 (by kernel_rfl)))
   have e1:a.eval (.tmp 33)=(.slice (some ⟨g,z*5+c*5,none⟩) (G.AB-c) (cap-z-c)):=AV (j:=3) (by kernel_rfl) (hJ.all 3 (by decide) (AZ AJ 3 (by kernel_rfl)))
   have e2:a.eval (.tmp 39)=(.int .i64 k):=AV (j:=9) (by kernel_rfl) (hJ.all 9 (by decide) (AZ AJ 9 (by kernel_rfl)))
   have e3:a.eval (.tmp 40)=(.agg #[.int .i64 p.1,.int .i64 p.2.1,.int .i64 p.2.2]):=AV (j:=10) (by kernel_rfl) (hJ.all 10 (by decide) (AZ AJ 10 (by kernel_rfl)))
   refine Step.call _ rfl rfl (AX rfl) 208 #[.slice (some ⟨g,z*5+c*5,none⟩) (G.AB-c) (cap-z-c),.int .i64 k,.agg #[.int .i64 p.1,.int .i64 p.2.1,.int .i64 p.2.2]] (fun ρ hρ=>?_) ?_
   ·skip
    rw [hρ] at e0 e1 e2 e3
    clear hJ hsame AJ hcl hρ hsz
    go_simp
   ·have hL0:L 11=false:=hL
    have hp:=hJ.put
    rw [hL0] at hp
    refine(MV.out w' hp.2.2.2.1).mono ?_
    rintro e w2 ⟨rfl,h2⟩
    exact⟨_,rfl,hJ.fin _ (FIN.out _ _ hp h2)⟩
  ·intro L a w' hsame hsz hJ hall
   obtain⟨u,hu,ha⟩:=FR hsame
   have h:=hJ.put
   rw [hall 11 (by decide)] at h
   have h:=hide h
   clear hJ hall hsz hu hsame
   subst ha
   change Exit.then _ _ Exit.normal (Act.put (Act.put (Act.put (Act.put (Act.put (Act.put (Act.put (Act.put (Act.put (Act.put (Act.put (Act.put (BG _ u 0 _) (some 30) (u 0)) (some 31) (u 1)) (some 32) (u 2)) (some 33) (u 3)) (some 34) (u 4)) (some 35) (u 5)) (some 36) (u 6)) (some 37) (u 7)) (some 38) (u 8)) (some 39) (u 9)) (some 40) (u 10)) (some 41) (u 11)) _
   simp only [BG]
   generalize u 0=v0
   generalize u 1=v1
   generalize u 2=v2
   generalize u 3=v3
   generalize u 4=v4
   generalize u 5=v5
   generalize u 6=v6
   generalize u 7=v7
   generalize u 8=v8
   generalize u 9=v9
   generalize u 10=v10
   generalize u 11=v11
   go_simp
   go_step
   go_meet
   exact h.out
 case rest=>
  have H:=hide hcut
  have HSN: ∀wx (l:List PG.Cl),l.length=n->EIn w G.rows G.AB n g cap p l wx->BJ wx wx.heap.size (some ⟨g,z*5,none⟩) G.AB ((l.drop z).take G.AB):=fun wx l hln he=>by
   have S:=((BJ.CY he.2.2.2.1).drop (k:=z) (cap:=n+1) (by omega) (by omega))
   rw [if_neg (by omega)] at S
   have S2:=S.take (k:=G.AB) (by omega)
   simpa [Option.map,add0] using S2
  have HSN:=hide HSN
  have HLR:=hide (show(Dl ((l2.drop z).take G.AB)).length=G.AB by rw [El,List.length_take,List.length_drop,HL2.out];omega)
  clear hcut
  go_upto_region 8 with (first
   | (go_at_call 114
      go_must (refine(Hl G.AB (cap-z) _ _ _ _ (HSN.out _ l2 HL2.out H.out) (Nat.le_refl _) (by omega)).mono ?_)
      rintro e w5 ⟨g5,rfl,o5,b5⟩
      have H:=hide (H.out.call b5)
      have S5:=hide (BJ.CY o5)
      clear o5 b5)
   | ((with_reducible refine IL (o:=⟨some 45,_,_,_,_,_⟩) ?_)
      go_must (refine Cn rfl (.tmp 42) (.tmp 44) 35 35 rfl 66 i0 Tryz.underlying35 hi hz1 w.heap.size 66 g _ z n cap _ _ l2 rfl H.out.2.2.2.1 rfl (some ⟨g5,0,none⟩) _ _ _ G.AB (Dl ((l2.drop z).take G.AB)) rfl (Nat.min_self _) S5.out (by omega) ?_)
      intro w6 o6 hg6
      have H:=(H.out.grown o6 hg6)
      rw [MW.out] at H
      obtain⟨a0,a1,a2,a3,a4,a5⟩:=H.1.three
      obtain⟨j0,j1,j2,f0,f1,f2⟩:=H.2.2.1.three
      have H:=hide H
      clear o6 hg6))
  have X2:=H.out.2.2.1.Cq (.int .i64 G.rows) (.int .i64 G.AB) (.slice (some ⟨g,0,none⟩) n cap)
  have n2:=Ac H.out.2.2.2.1 H.out.2.2.1 (by decide)
  have O2:=ownsRow_setCell_other (ownsRow_setCell_other (ownsRow_setCell_other H.out.2.2.2.1 (a:=⟨w.heap.size+1+1,0,none⟩) n2 (.int .i64 G.rows)) (a:=⟨w.heap.size+1+1,1,none⟩) n2 (.int .i64 G.AB)) (a:=⟨w.heap.size+1+1,2,none⟩) n2 (.slice (some ⟨g,0,none⟩) n cap)
  have B2:=BM H.out.2.2.2.2 (show w.heap.size<=w.heap.size+1+1 by omega) (.int .i64 G.rows) (.int .i64 G.AB) (.slice (some ⟨g,0,none⟩) n cap)
  obtain⟨i0',i1',i2',_⟩:=X2.three
  have O2:=hide O2
  have B2:=hide B2
  go_wp2_with fail
  refine bodyPost_ret (v:=.agg #[.int .i64 G.rows,.int .i64 G.AB,.slice (some ⟨g,0,none⟩) n cap]) (by simp [results,Tryz.results209,go_sem,i0',i1',i2']) rfl (GOT.out g cap _ _ rfl O2.out B2.out)
theorem Td {G:PG.Gr} {v:Value} {w:World} (hG:PG.BL G) (h:IsG w G v) (r c:Nat) (m:Int) (p:PG.Pn) (hr:r<G.rows) (hc:c<G.AB) (hm0:0<=m) (hm1:m<=65535):
  Calls Tryz.prog 209 #[.func (.func 146) #[] #[],v,.int .i64 r,.int .i64 c,.int .i64 m,pv p] w (DN w (PG.Cb G r c (-m) p)):=by
 obtain⟨A,cp,rfl,hl,h1,h2⟩:=h.open_
 have hR:=hG.2.1
 have hK:=hG.2.2.2.1
 have hK0:=hG.2.2.1
 have hnn:0*G.AB+0<G.rows*G.AB:=PG.Ca hG.1 hG.2.2.1
 obtain⟨c0,hc0'⟩: ∃c0,(PG.cells G)[0]? =some c0:=⟨_,List.getElem?_eq_getElem (by rw [PG.BH];omega)⟩
 obtain⟨ad,rfl,_⟩:=hl.at_ hc0'
 clear hc0'
 have hle:r*G.AB+G.AB<=G.rows*G.AB:=by rw [<- Nat.succ_mul];exact Nat.mul_le_mul_right _ hr
 have h24:=size_le hG
 obtain⟨i0,hi,hz0,hz1,hz2⟩:=info_parts Cy
 obtain⟨d,hd⟩: ∃d,G.AB-c=d:=⟨_,rfl⟩
 obtain⟨k,hk,hkm,hkd⟩: ∃k:Nat,((m<=(G.AB:Int)-c/\m=k)\/((G.AB:Int)-c<m/\k=G.AB-c))/\((0<=m/\m<=d/\(k:Int)=m)\/(0<=(d:Int)/\(d:Int)<m/\(k:Int)=d))/\k<=G.AB-c:=⟨(min m ((G.AB:Int)-c)).toNat,by omega,by omega,by omega⟩
 have CL:=hide (fun w' (hb:Below w.heap.size w w')=>Ef G.rows G.AB (G.rows*G.AB) cp w.heap.size ad (PG.cells G) w' (hl.below hb) hb.size (by omega))
 have IP:=hide (fun (wx:World) g cap (he:EIn w G.rows G.AB (G.rows*G.AB) g cap p (PG.cells G) wx)=>CW hG (v:=gv G.rows G.AB (.slice (some ⟨g,0,none⟩) (G.rows*G.AB) cap)) (w:=wx) ⟨_,rfl,own_base' he.2.2.2.1 (Nat.zero_le _)⟩ r c true (.inl ⟨rfl,by omega,by omega,by omega,by omega⟩))
 have RW:=hide (fun (wx:World) g cap (h1:G.rows*G.AB<=cap) (h2:cap<=maxLen)=>(show Calls Tryz.prog 181 #[gv G.rows G.AB (.slice (some ⟨g,0,none⟩) (G.rows*G.AB) cap),.int .i64 r,.int .i64 ((r:Int)+1)] wx fun e w'=>e=.returned (.slice (some ⟨g,r*G.AB*5,none⟩) G.AB (cap-r*G.AB))/\Below wx.heap.size wx w' by
  have h:=Kq G.rows G.AB (G.rows*G.AB) cap g r (r+1) (r*G.AB) G.AB wx rfl (by rw [<- Nat.succ_mul]) rfl (by omega) hR hK h1 h2
  rw [JM (n:=G.rows*G.AB) hle h1 (by omega)] at h
  exact h))
 have PT:=hide (fun (wx:World) g cap cp (ho:wx.ownsRow w.heap.size 66 5 (.slice (some ⟨g,0,none⟩) (G.rows*G.AB) cap) (G.rows*G.AB) (Ag (PG.cells G)))=>VL hG (cp:=cp) hr hc rfl ho)
 have MV:=hide (fun g cap cp (h1:G.AB-c<=cp) (h2:cp<=maxLen) (wx:World) (ho:wx.ownsRow w.heap.size 66 5 (.slice (some ⟨g,0,none⟩) (G.rows*G.AB) cap) (G.rows*G.AB) (Ag (PG.cells (PG.Dx G r (PG.parted (G.f r) c)))))=>dY hG hr hc rfl m k hkd hk p h1 h2 ho)
 have WI:=hide (fun wx=>KT m d k wx hkm)
 have MW:=hide (PG.RF (g:=G) (r:=r) (c:=c) (n:=(-m)) (p:=p) hr hc)
 have HS:=hide (PG.Hz G r c (-m) p)
 have HLG:=hide (PG.BH G)
 have HL2:=hide (show(PG.cells (PG.Dx G r (PG.shifted (G.f r) G.AB c (-m) p))).length=G.rows*G.AB from PG.BH _)
 generalize PG.cells (PG.Dx G r (PG.parted (G.f r) c))=l1 at*
 generalize PG.cells (PG.Dx G r (PG.shifted (G.f r) G.AB c (-m) p))=l2 at*
 have q0:(G.AB:Int)-(c:Int)=(d:Int):=by omega
 have hdc:d+c=G.AB:=by omega
 have hcI:(c:Int)<(G.AB:Int):=by omega
 have hrI:(r:Int)+1<=40:=by omega
 rw [hd] at MV
 generalize r*G.AB=z at*
 generalize G.rows*G.AB=n at*
 unfold IK at CL
 have GOT: ∀(g cap:Nat) (l3:List PG.Cl) (w3:World),l3=PG.cells (PG.Cb G r c (-m) p)->w3.ownsRow w.heap.size 66 5 (.slice (some ⟨g,0,none⟩) n cap) n (Ag l3)->Below w.heap.size w w3->DN w (PG.Cb G r c (-m) p) (.returned (gv G.rows G.AB (.slice (some ⟨g,0,none⟩) n cap))) w3:=fun g cap l3 w3 e ho hb=>by
  subst e
  have hn:=ho.1
  rw [Ez,PG.BH,HS.out.1,HS.out.2] at hn
  have hn:n=(PG.Cb G r c (-m) p).rows*(PG.Cb G r c (-m) p).AB:=by rw [HS.out.1,HS.out.2];omega
  refine⟨_,rfl,⟨.slice (some ⟨g,0,none⟩) n cap,by rw [HS.out.1,HS.out.2],?_⟩,hb⟩
  rw [<- hn]
  exact own_base' ho (Nat.zero_le _)
 have GOT:=hide GOT
 clear h hl h2
 unfold gv pv at*
 go_enter Tryz.func209,Tryz.ntmps209
 go_upto_region 4 with (first
  | (go_at_call 179
     obtain⟨x0,x1,x2,bw⟩:=Ci (w:=w) (t0:=37) (t1:=38) (t2:=37) (cs:= #[.int .i64 G.rows,.int .i64 G.AB,.slice (some ad) n cp]) (ds:= #[.int .i64 p.1,.int .i64 p.2.1,.int .i64 p.2.2]) (es:= #[.int .i64 0,.int .i64 0,.slice none 0 0])
     go_must (refine(CL.out _ bw).mono ?_)
     rintro e w1 ⟨v1,rfl,o1,b1⟩
     rw [HLG.out] at o1
     obtain⟨g,cap,rfl,hgb,hnc,hcm⟩:=GA o1 (by omega)
     have y0:=x0.below b1 x0.lt
     have y1:=x1.below b1 x1.lt
     have y2:=x2.below b1 x2.lt
     have bb:=bw.trans (b1.mono bw.size)
     have o1:=own_base' o1 bw.size
     obtain⟨a0,a1,a2,a3,a4,a5⟩:=y0.three
     have n0:=Ac o1 y0 (by decide)
     have X0:=(y0.Cq (.int .i64 G.rows) (.int .i64 G.AB) (.slice (some ⟨g,0,none⟩) n cap))
     have X1:=(y1.Gc (g':=w.heap.size) (by omega) (.int .i64 G.rows) (.int .i64 G.AB) (.slice (some ⟨g,0,none⟩) n cap))
     have X2:=(y2.Gc (g':=w.heap.size) (by omega) (.int .i64 G.rows) (.int .i64 G.AB) (.slice (some ⟨g,0,none⟩) n cap))
     have O:=(ownsRow_setCell_other (ownsRow_setCell_other (ownsRow_setCell_other o1 (a:=⟨w.heap.size,0,none⟩) n0 (.int .i64 G.rows)) (a:=⟨w.heap.size,1,none⟩) n0 (.int .i64 G.AB)) (a:=⟨w.heap.size,2,none⟩) n0 (.slice (some ⟨g,0,none⟩) n cap))
     have bs:=(BM bb (Nat.le_refl _) (.int .i64 G.rows) (.int .i64 G.AB) (.slice (some ⟨g,0,none⟩) n cap))
     have H:=hide (show EIn w G.rows G.AB n g cap p (PG.cells G) _ from⟨X0,X1,X2,O,bs⟩)
     clear x0 x1 x2 bw b1 y0 y1 y2 CL o1 n0 bb X0 X1 X2 O bs)
  | (go_at_call 180
     go_must (refine(IP.out _ g cap H.out).mono ?_)
     rintro e w2 ⟨rfl,b2⟩
     have H:=hide (H.out.call b2)
     obtain⟨a0,a1,a2,a3,a4,a5⟩:=H.out.1.three
     clear b2))
 go_upto_region 6 with (first
  | (go_at_call 181
     go_must (refine(RW.out _ g cap hnc hcm).mono ?_)
     rintro e w3 ⟨rfl,b3⟩
     have H:=hide (H.out.call b3)
     clear b3)
  | (go_at_call 215
     go_must (refine(PT.out _ g cap (cap-z) H.out.2.2.2.1).mono ?_)
     rintro e w4 ⟨rfl,o4,k4⟩
     have H:=hide (H.out.wrote o4 k4)
     clear o4 k4))
 have MV:=hide (fun wx=>(show _->Calls Tryz.prog 146 #[.slice (some ⟨g,z*5+c*5,none⟩) (G.AB-c) (cap-z-c),.int .i64 k,.agg #[.int .i64 p.1,.int .i64 p.2.1,.int .i64 p.2.2]] wx _ by have h:=MV.out g cap (cap-z-c) (by omega) (by simp only [maxLen] at hcm⊢;omega) wx;rw [Nat.add_mul, <- hd] at h;exact h))
 have WI:=hide (fun wx=>(WI.out wx).mono (fun e w' h=>(show e=.returned (.int .i64 k)/\Below wx.heap.size wx w' from⟨h.1,h.2▸Below.refl _ _⟩)))
 have ST:=hide (show∀(b:Bool) (x y:World),EIn w G.rows G.AB n g cap p (if b=true then l2 else l1) x->Below x.heap.size x y->EIn w G.rows G.AB n g cap p (if b=true then l2 else l1) y from fun b x y h hb=>h.call hb)
 have FIN:=hide (show∀(x y:World),EIn w G.rows G.AB n g cap p (if false=true then l2 else l1) x->(y.ownsRow w.heap.size 66 5 (.slice (some ⟨g,0,none⟩) n cap) n (Ag l2)/\Kept [some g] x y)->EIn w G.rows G.AB n g cap p (if true=true then l2 else l1) y from fun x y h h2=>EIn.wrote h h2.1 h2.2)
 have hcN:c<=G.AB:=by omega
 have hcz: ¬(cap-z=c):=by omega
 have qw:IntKind.i64.wrap (d:Int)=(d:Int):=IntWalk.i64_in _ (by omega)
 go_cut [] (fun wx=>EIn w G.rows G.AB n g cap p l2 wx)
 case first=>
  have H0:=hide (show EIn w G.rows G.AB n g cap p (if false=true then l2 else l1) _ from H.out.drew)
  refine Cz (n:=47) (TJ 11 (fun b wx=>EIn w G.rows G.AB n g cap p (if b=true then l2 else l1) wx) (fun j=> [(.func (.func 146) #[] #[]),(.slice (some ⟨g,z*5,none⟩) G.AB (cap-z)),(.int .i64 c),(.slice (some ⟨g,z*5+c*5,none⟩) (G.AB-c) (cap-z-c)),(.int .i64 m),(.slice (some ⟨g,z*5,none⟩) G.AB (cap-z)),(.int .i64 G.AB),(.int .i64 c),(.int .i64 d),(.int .i64 k),(.agg #[.int .i64 p.1,.int .i64 p.2.1,.int .i64 p.2.2])].getD j undef)) (by kernel_rfl) (by kernel_rfl) (by kernel_rfl) rfl (fun L u u' wx he hj=>hj.same he) (Gj ⟨?_,?_,?_,?_,?_,?_,?_,?_,?_,?_,?_,?_⟩) ?_ ⟨H0.out,fun j _ h=>by cases h⟩
  ·intro L a w' hL hsame hsz hJ AJ hcl
   have e0:a.eval (.tmp 0)=(.func (.func 146) #[] #[]):=AY hsame (by kernel_rfl)
   refine Step.val _ rfl rfl (AX rfl) (.func (.func 146) #[] #[]) w' (fun ρ hρ=>?_) (hJ.val ST.out (by decide) (Below.refl _ _) _ rfl)
   rw [hρ] at e0
   clear hJ hsame AJ hcl hρ hsz
   go_simp
  ·intro L a w' hL hsame hsz hJ AJ hcl
   have e0:a.eval (.tmp 13)=(.slice (some ⟨g,z*5,none⟩) G.AB (cap-z)):=AY hsame (by kernel_rfl)
   refine Step.val _ rfl rfl (AX rfl) (.slice (some ⟨g,z*5,none⟩) G.AB (cap-z)) w' (fun ρ hρ=>?_) (hJ.val ST.out (by decide) (Below.refl _ _) _ rfl)
   rw [hρ] at e0
   clear hJ hsame AJ hcl hρ hsz
   go_simp
  ·intro L a w' hL hsame hsz hJ AJ hcl
   have e0:a.eval (.tmp 3)=(.int .i64 c):=AY hsame (by kernel_rfl)
   refine Step.val _ rfl rfl (AX rfl) (.int .i64 c) w' (fun ρ hρ=>?_) (hJ.val ST.out (by decide) (Below.refl _ _) _ rfl)
   rw [hρ] at e0
   clear hJ hsame AJ hcl hρ hsz
   go_simp
  ·intro L a w' hL hsame hsz hJ AJ hcl
   have e0:a.eval (.tmp 31)=(.slice (some ⟨g,z*5,none⟩) G.AB (cap-z)):=AV (j:=1) (by kernel_rfl) (hJ.all 1 (by decide) (AZ AJ 1 (by kernel_rfl)))
   have e1:a.eval (.tmp 32)=(.int .i64 c):=AV (j:=2) (by kernel_rfl) (hJ.all 2 (by decide) (AZ AJ 2 (by kernel_rfl)))
   refine Step.val _ rfl rfl (AX rfl) (.slice (some ⟨g,z*5+c*5,none⟩) (G.AB-c) (cap-z-c)) w' (fun ρ hρ=>?_) (hJ.val ST.out (by decide) (Below.refl _ _) _ rfl)
   rw [hρ] at e0 e1
   clear hJ hsame AJ hcl hρ hsz
   go_simp
  ·intro L a w' hL hsame hsz hJ AJ hcl
   have e0:a.eval (.tmp 4)=(.int .i64 m):=AY hsame (by kernel_rfl)
   refine Step.val _ rfl rfl (AX rfl) (.int .i64 m) w' (fun ρ hρ=>?_) (hJ.val ST.out (by decide) (Below.refl _ _) _ rfl)
   rw [hρ] at e0
   clear hJ hsame AJ hcl hρ hsz
   go_simp
  ·intro L a w' hL hsame hsz hJ AJ hcl
   have e0:a.eval (.tmp 13)=(.slice (some ⟨g,z*5,none⟩) G.AB (cap-z)):=AY hsame (by kernel_rfl)
   refine Step.val _ rfl rfl (AX rfl) (.slice (some ⟨g,z*5,none⟩) G.AB (cap-z)) w' (fun ρ hρ=>?_) (hJ.val ST.out (by decide) (Below.refl _ _) _ rfl)
   rw [hρ] at e0
   clear hJ hsame AJ hcl hρ hsz
   go_simp
  ·intro L a w' hL hsame hsz hJ AJ hcl
   have e0:a.eval (.tmp 35)=(.slice (some ⟨g,z*5,none⟩) G.AB (cap-z)):=AV (j:=5) (by kernel_rfl) (hJ.all 5 (by decide) (AZ AJ 5 (by kernel_rfl)))
   refine Step.val _ rfl rfl (AX rfl) (.int .i64 G.AB) w' (fun ρ hρ=>?_) (hJ.val ST.out (by decide) (Below.refl _ _) _ rfl)
   rw [hρ] at e0
   clear hJ hsame AJ hcl hρ hsz
   go_simp
  ·intro L a w' hL hsame hsz hJ AJ hcl
   have e0:a.eval (.tmp 3)=(.int .i64 c):=AY hsame (by kernel_rfl)
   refine Step.val _ rfl rfl (AX rfl) (.int .i64 c) w' (fun ρ hρ=>?_) (hJ.val ST.out (by decide) (Below.refl _ _) _ rfl)
   rw [hρ] at e0
   clear hJ hsame AJ hcl hρ hsz
   go_simp
  ·intro L a w' hL hsame hsz hJ AJ hcl
   have e0:a.eval (.tmp 36)=(.int .i64 G.AB):=AV (j:=6) (by kernel_rfl) (hJ.all 6 (by decide) (AZ AJ 6 (by kernel_rfl)))
   have e1:a.eval (.tmp 37)=(.int .i64 c):=AV (j:=7) (by kernel_rfl) (hJ.all 7 (by decide) (AZ AJ 7 (by kernel_rfl)))
   refine Step.val _ rfl rfl (AX rfl) (.int .i64 d) w' (fun ρ hρ=>?_) (hJ.val ST.out (by decide) (Below.refl _ _) _ rfl)
   rw [hρ] at e0 e1
   clear hJ hsame AJ hcl hρ hsz
   go_simp
  ·intro L a w' hL hsame hsz hJ AJ hcl
   have e0:a.eval (.tmp 34)=(.int .i64 m):=AV (j:=4) (by kernel_rfl) (hJ.all 4 (by decide) (AZ AJ 4 (by kernel_rfl)))
   have e1:a.eval (.tmp 38)=(.int .i64 d):=AV (j:=8) (by kernel_rfl) (hJ.all 8 (by decide) (AZ AJ 8 (by kernel_rfl)))
   refine Step.call _ rfl rfl (AX rfl) 182 #[.int .i64 m,.int .i64 d] (fun ρ hρ=>?_) ?_
   ·skip
    rw [hρ] at e0 e1
    have ef:ρ (.func 182)=.func (.func 182) #[] #[] :=(hρ _).symm
    clear hJ hsame AJ hcl hρ hsz
    go_simp
   ·refine(WI.out w').mono ?_
    rintro e w2 ⟨rfl,bb⟩
    exact⟨_,rfl,hJ.val ST.out (by decide) bb _ rfl⟩
  ·intro L a w' hL hsame hsz hJ AJ hcl
   have e0:a.eval (.tmp 11)=(.pointer (some ⟨w.heap.size+1,0,none⟩)):=AY hsame (by kernel_rfl)
   obtain⟨q0,q1,q2,_⟩:=hJ.put.2.1.three
   refine Step.val _ rfl rfl (AX rfl) (.agg #[.int .i64 p.1,.int .i64 p.2.1,.int .i64 p.2.2]) w' (fun ρ hρ=>?_) (hJ.val ST.out (by decide) (Below.refl _ _) _ rfl)
   rw [hρ] at e0
   clear hJ hsame AJ hcl hρ hsz
   go_simp
  ·intro L a w' hL hsame hsz hJ AJ hcl
   have e0:a.eval (.tmp 30)=(.func (.func 146) #[] #[]):=AV (j:=0) (by kernel_rfl) (hJ.all 0 (by decide) (AZ AJ 0 (by kernel_rfl)))
   have e1:a.eval (.tmp 33)=(.slice (some ⟨g,z*5+c*5,none⟩) (G.AB-c) (cap-z-c)):=AV (j:=3) (by kernel_rfl) (hJ.all 3 (by decide) (AZ AJ 3 (by kernel_rfl)))
   have e2:a.eval (.tmp 39)=(.int .i64 k):=AV (j:=9) (by kernel_rfl) (hJ.all 9 (by decide) (AZ AJ 9 (by kernel_rfl)))
   have e3:a.eval (.tmp 40)=(.agg #[.int .i64 p.1,.int .i64 p.2.1,.int .i64 p.2.2]):=AV (j:=10) (by kernel_rfl) (hJ.all 10 (by decide) (AZ AJ 10 (by kernel_rfl)))
   refine Step.call _ rfl rfl (AX rfl) 146 #[.slice (some ⟨g,z*5+c*5,none⟩) (G.AB-c) (cap-z-c),.int .i64 k,.agg #[.int .i64 p.1,.int .i64 p.2.1,.int .i64 p.2.2]] (fun ρ hρ=>?_) ?_
   ·skip
    rw [hρ] at e0 e1 e2 e3
    clear hJ hsame AJ hcl hρ hsz
    go_simp
   ·have hL0:L 11=false:=hL
    have hp:=hJ.put
    rw [hL0] at hp
    refine(MV.out w' hp.2.2.2.1).mono ?_
    rintro e w2 ⟨rfl,h2⟩
    exact⟨_,rfl,hJ.fin _ (FIN.out _ _ hp h2)⟩
  ·intro L a w' hsame hsz hJ hall
   obtain⟨u,hu,ha⟩:=FR hsame
   have h:=hJ.put
   rw [hall 11 (by decide)] at h
   have h:=hide h
   clear hJ hall hsz hu hsame
   subst ha
   change Exit.then _ _ Exit.normal (Act.put (Act.put (Act.put (Act.put (Act.put (Act.put (Act.put (Act.put (Act.put (Act.put (Act.put (Act.put (BG _ u 0 _) (some 30) (u 0)) (some 31) (u 1)) (some 32) (u 2)) (some 33) (u 3)) (some 34) (u 4)) (some 35) (u 5)) (some 36) (u 6)) (some 37) (u 7)) (some 38) (u 8)) (some 39) (u 9)) (some 40) (u 10)) (some 41) (u 11)) _
   simp only [BG]
   generalize u 0=v0
   generalize u 1=v1
   generalize u 2=v2
   generalize u 3=v3
   generalize u 4=v4
   generalize u 5=v5
   generalize u 6=v6
   generalize u 7=v7
   generalize u 8=v8
   generalize u 9=v9
   generalize u 10=v10
   generalize u 11=v11
   go_simp
   go_step
   go_meet
   exact h.out
 case rest=>
  have H:=hide hcut
  have HSN: ∀wx (l:List PG.Cl),l.length=n->EIn w G.rows G.AB n g cap p l wx->BJ wx wx.heap.size (some ⟨g,z*5,none⟩) G.AB ((l.drop z).take G.AB):=fun wx l hln he=>by
   have S:=((BJ.CY he.2.2.2.1).drop (k:=z) (cap:=n+1) (by omega) (by omega))
   rw [if_neg (by omega)] at S
   have S2:=S.take (k:=G.AB) (by omega)
   simpa [Option.map,add0] using S2
  have HSN:=hide HSN
  have HLR:=hide (show(Dl ((l2.drop z).take G.AB)).length=G.AB by rw [El,List.length_take,List.length_drop,HL2.out];omega)
  clear hcut
  go_upto_region 8 with (first
   | (go_at_call 114
      go_must (refine(Hl G.AB (cap-z) _ _ _ _ (HSN.out _ l2 HL2.out H.out) (Nat.le_refl _) (by omega)).mono ?_)
      rintro e w5 ⟨g5,rfl,o5,b5⟩
      have H:=hide (H.out.call b5)
      have S5:=hide (BJ.CY o5)
      clear o5 b5)
   | ((with_reducible refine IL (o:=⟨some 45,_,_,_,_,_⟩) ?_)
      go_must (refine Cn rfl (.tmp 42) (.tmp 44) 35 35 rfl 66 i0 Tryz.underlying35 hi hz1 w.heap.size 66 g _ z n cap _ _ l2 rfl H.out.2.2.2.1 rfl (some ⟨g5,0,none⟩) _ _ _ G.AB (Dl ((l2.drop z).take G.AB)) rfl (Nat.min_self _) S5.out (by omega) ?_)
      intro w6 o6 hg6
      have H:=(H.out.grown o6 hg6)
      rw [MW.out] at H
      obtain⟨a0,a1,a2,a3,a4,a5⟩:=H.1.three
      obtain⟨j0,j1,j2,f0,f1,f2⟩:=H.2.2.1.three
      have H:=hide H
      clear o6 hg6))
  have X2:=H.out.2.2.1.Cq (.int .i64 G.rows) (.int .i64 G.AB) (.slice (some ⟨g,0,none⟩) n cap)
  have n2:=Ac H.out.2.2.2.1 H.out.2.2.1 (by decide)
  have O2:=ownsRow_setCell_other (ownsRow_setCell_other (ownsRow_setCell_other H.out.2.2.2.1 (a:=⟨w.heap.size+1+1,0,none⟩) n2 (.int .i64 G.rows)) (a:=⟨w.heap.size+1+1,1,none⟩) n2 (.int .i64 G.AB)) (a:=⟨w.heap.size+1+1,2,none⟩) n2 (.slice (some ⟨g,0,none⟩) n cap)
  have B2:=BM H.out.2.2.2.2 (show w.heap.size<=w.heap.size+1+1 by omega) (.int .i64 G.rows) (.int .i64 G.AB) (.slice (some ⟨g,0,none⟩) n cap)
  obtain⟨i0',i1',i2',_⟩:=X2.three
  have O2:=hide O2
  have B2:=hide B2
  go_wp2_with fail
  refine bodyPost_ret (v:=.agg #[.int .i64 G.rows,.int .i64 G.AB,.slice (some ⟨g,0,none⟩) n cap]) (by simp [results,Tryz.results209,go_sem,i0',i1',i2']) rfl (GOT.out g cap _ _ rfl O2.out B2.out)
end Go.Proofs.YtoaabebgmdbjeaaGreatDoor
namespace Go.Proofs.YtoaabebgmdbjeaaGreatDoor
open Go.RowKit
theorem Te {G:PG.Gr} {v:Value} {w:World} (hG:PG.BL G) (h:IsG w G v) (t b:Nat) (m:Int) (p:PG.Pn) (ht:t<=b) (hb:b<G.rows) (hm0:0<=m) (hm1:m<=65535):
  Calls Tryz.prog 145 #[.func (.func 208) #[] #[],v,.int .i64 t,.int .i64 b,.int .i64 m,pv p] w (DN w (PG.Ay G t b (-m) p)):=by
 obtain⟨A,cp,rfl,hl,h1,h2⟩:=h.open_
 have hR:=hG.2.1
 have hK:=hG.2.2.2.1
 have hK0:=hG.2.2.1
 have hnn:0*G.AB+0<G.rows*G.AB:=PG.Ca hG.1 hG.2.2.1
 obtain⟨c0,hc0'⟩: ∃c0,(PG.cells G)[0]? =some c0:=⟨_,List.getElem?_eq_getElem (by rw [PG.BH];omega)⟩
 obtain⟨ad,rfl,_⟩:=hl.at_ hc0'
 clear hc0'
 have e1:t*G.AB+(b+1-t)*G.AB=(b+1)*G.AB:=by rw [<- Nat.add_mul];congr 1;omega
 have hle:(b+1)*G.AB<=G.rows*G.AB:=Nat.mul_le_mul_right _ hb
 have h24:=size_le hG
 have hMp:0<(b+1-t)*G.AB:=Nat.mul_pos (by omega) hK0
 obtain⟨D,hD⟩: ∃D,b+1-t=D:=⟨_,rfl⟩
 obtain⟨q,hk,hkm,hkd⟩: ∃q:Nat,((m<=(b:Int)+1-t/\m=q)\/((b:Int)+1-t<m/\q=b+1-t))/\((0<=m/\m<=D/\(q:Int)=m)\/(0<=(D:Int)/\(D:Int)<m/\(q:Int)=D))/\q<=D:=⟨(min m ((b:Int)+1-t)).toNat,by omega,by omega,by omega⟩
 have hQm:q*G.AB<=D*G.AB:=Nat.mul_le_mul_right _ hkd
 have hQe:(q:Int)*(G.AB:Int)=((q*G.AB:Nat):Int):=by simp
 have CL:=hide (fun w' (hb:Below w.heap.size w w')=>Ef G.rows G.AB (G.rows*G.AB) cp w.heap.size ad (PG.cells G) w' (hl.below hb) hb.size (by omega))
 have IP:=hide (fun (wx:World) g cap (x:Int) (he:EIn w G.rows G.AB (G.rows*G.AB) g cap p (PG.cells G) wx) (hx:x=t\/x=b)=>CW hG (v:=gv G.rows G.AB (.slice (some ⟨g,0,none⟩) (G.rows*G.AB) cap)) (w:=wx) ⟨_,rfl,own_base' he.2.2.2.1 (Nat.zero_le _)⟩ x 0 true (.inl ⟨rfl,by omega,by omega,by omega,by omega⟩))
 have RW:=hide (fun g cap (h1:G.rows*G.AB<=cap) (h2:cap<=maxLen) (wx:World)=>(show Calls Tryz.prog 181 #[gv G.rows G.AB (.slice (some ⟨g,0,none⟩) (G.rows*G.AB) cap),.int .i64 t,.int .i64 ((b:Int)+1)] wx fun e w'=>e=.returned (.slice (some ⟨g,t*G.AB*5,none⟩) ((b+1-t)*G.AB) (cap-t*G.AB))/\Below wx.heap.size wx w' by
  have h:=Kq G.rows G.AB (G.rows*G.AB) cap g t (b+1) (t*G.AB) ((b+1-t)*G.AB) wx rfl e1 rfl (by omega) hR hK h1 h2
  rw [JM (n:=G.rows*G.AB) (by omega) h1 (by omega)] at h
  exact h))
 have MV:=hide (fun g cap cp (h1:(b+1-t)*G.AB<=cp) (h2:cp<=maxLen) (wx:World) (ho:wx.ownsRow w.heap.size 66 5 (.slice (some ⟨g,0,none⟩) (G.rows*G.AB) cap) (G.rows*G.AB) (Ag (PG.cells G)))=>TY hG ht hb rfl m hm0 q hk p h1 h2 ho)
 have WI:=hide (fun wx=>KT m D q wx hkm)
 have HS:=hide (PG.Dn G t b (-m) p)
 have HLG:=hide (PG.BH G)
 have HL2:=hide (show(PG.cells (PG.Ay G t b (-m) p)).length=G.rows*G.AB by rw [PG.BH,HS.out.1,HS.out.2])
 have HCL:=hide (rfl:PG.cells (PG.Ay G t b (-m) p)=PG.cells (PG.Ay G t b (-m) p))
 have GOT: ∀(g cap:Nat) (w3:World),w3.ownsRow w.heap.size 66 5 (.slice (some ⟨g,0,none⟩) (G.rows*G.AB) cap) (G.rows*G.AB) (Ag (PG.cells (PG.Ay G t b (-m) p)))->Below w.heap.size w w3->DN w (PG.Ay G t b (-m) p) (.returned (gv G.rows G.AB (.slice (some ⟨g,0,none⟩) (G.rows*G.AB) cap))) w3:=fun g cap w3 ho hb=>by
  refine⟨_,rfl,⟨.slice (some ⟨g,0,none⟩) (G.rows*G.AB) cap,by rw [HS.out.1,HS.out.2],?_⟩,hb⟩
  rw [HS.out.1,HS.out.2]
  exact own_base' ho (Nat.zero_le _)
 have GOT:=hide GOT
 generalize PG.cells (PG.Ay G t b (-m) p)=l2 at*
 generalize PG.cells G=l1 at*
 rw [hD] at MV RW e1 hMp
 have q0:(b:Int)+1-(t:Int)=(D:Int):=by omega
 have htb:(t:Int)<=(b:Int):=by omega
 have hrI:(b:Int)+1<=40:=by omega
 have hDb:D<=40:=by omega
 have hq4:q<=40:=by omega
 generalize q*G.AB=Q at*
 generalize D*G.AB=M at*
 generalize t*G.AB=z at*
 generalize (b+1)*G.AB=z2 at*
 generalize G.rows*G.AB=n at*
 unfold IK at CL
 clear h hl h2
 unfold gv pv at*
 go_enter Tryz.func145,Tryz.ntmps145
 go_upto_region 2 with (
      go_at_call 179
      obtain⟨x0,x1,x2,bw⟩:=Ci (w:=w) (t0:=37) (t1:=38) (t2:=37) (cs:= #[.int .i64 G.rows,.int .i64 G.AB,.slice (some ad) n cp]) (ds:= #[.int .i64 p.1,.int .i64 p.2.1,.int .i64 p.2.2]) (es:= #[.int .i64 0,.int .i64 0,.slice none 0 0])
      go_must (refine(CL.out _ bw).mono ?_)
      rintro e w1 ⟨v1,rfl,o1,b1⟩
      rw [HLG.out] at o1
      obtain⟨g,cap,rfl,hgb,hnc,hcm⟩:=GA o1 (by omega)
      have y0:=x0.below b1 x0.lt
      have y1:=x1.below b1 x1.lt
      have y2:=x2.below b1 x2.lt
      have bb:=bw.trans (b1.mono bw.size)
      have o1:=own_base' o1 bw.size
      obtain⟨a0,a1,a2,a3,a4,a5⟩:=y0.three
      have n0:=Ac o1 y0 (by decide)
      have X0:=(y0.Cq (.int .i64 G.rows) (.int .i64 G.AB) (.slice (some ⟨g,0,none⟩) n cap))
      have X1:=(y1.Gc (g':=w.heap.size) (by omega) (.int .i64 G.rows) (.int .i64 G.AB) (.slice (some ⟨g,0,none⟩) n cap))
      have X2:=(y2.Gc (g':=w.heap.size) (by omega) (.int .i64 G.rows) (.int .i64 G.AB) (.slice (some ⟨g,0,none⟩) n cap))
      have O:=(ownsRow_setCell_other (ownsRow_setCell_other (ownsRow_setCell_other o1 (a:=⟨w.heap.size,0,none⟩) n0 (.int .i64 G.rows)) (a:=⟨w.heap.size,1,none⟩) n0 (.int .i64 G.AB)) (a:=⟨w.heap.size,2,none⟩) n0 (.slice (some ⟨g,0,none⟩) n cap))
      have bs:=(BM bb (Nat.le_refl _) (.int .i64 G.rows) (.int .i64 G.AB) (.slice (some ⟨g,0,none⟩) n cap))
      have H:=hide (show EIn w G.rows G.AB n g cap p l1 _ from⟨X0,X1,X2,O,bs⟩)
      clear x0 x1 x2 bw b1 y0 y1 y2 CL o1 n0 bb X0 X1 X2 O bs)
 go_cut [29] (fun u wx=>u=.bool false/\EIn w G.rows G.AB n g cap p l1 wx)
 case first=>
  generalize (((w1.setCell ⟨w.heap.size,0,none⟩ (.int .i64 G.rows)).setCell ⟨w.heap.size,1,none⟩ (.int .i64 G.AB)).setCell ⟨w.heap.size,2,none⟩ (.slice (some ⟨g,0,none⟩) n cap))=w0 at*
  obtain⟨s0,s1,s2,_⟩:=H.out.1.three
  clear a0 a1 a2 a3 a4 a5
  have hdb:decide (b<t)=false:=by simp;omega
  go_wp2_with (
   go_at_call 180
   go_must (refine(IP.out _ g cap _ H.out (by first | exact Or.inl rfl | exact Or.inr rfl)).mono ?_)
   rintro e w2 ⟨rfl,b2⟩
   have H:=hide (H.out.call b2)
   clear b2
   obtain⟨r0,r1,r2,_⟩:=H.out.1.three)
  go_meet
  exact⟨rfl,H.out⟩
 case rest=>
 obtain⟨rfl,H⟩:=hcut
 have H:=hide H
 go_upto_region 4 with fail
 have MV:=hide (MV.out g cap (cap-z) (by omega) (by simp only [maxLen] at hcm⊢;omega))
 have RW:=hide (RW.out g cap hnc hcm)
 have WI:=hide (fun wx=>(WI.out wx).mono (fun e w' h=>(show e=.returned (.int .i64 q)/\Below wx.heap.size wx w' from⟨h.1,h.2▸Below.refl _ _⟩)))
 have ST:=hide (show∀(b:Bool) (x y:World),EIn w G.rows G.AB n g cap p (if b=true then l2 else l1) x->Below x.heap.size x y->EIn w G.rows G.AB n g cap p (if b=true then l2 else l1) y from fun b x y h hb=>h.call hb)
 have FIN:=hide (show∀(x y:World),EIn w G.rows G.AB n g cap p (if false=true then l2 else l1) x->(y.ownsRow w.heap.size 66 5 (.slice (some ⟨g,0,none⟩) n cap) n (Ag l2)/\Kept [some g] x y)->EIn w G.rows G.AB n g cap p (if true=true then l2 else l1) y from fun x y h h2=>EIn.wrote h h2.1 h2.2)
 have qb:IntKind.i64.wrap ((b:Int)+1)=(b:Int)+1:=IntWalk.i64_in _ (by omega)
 have qw:IntKind.i64.wrap (D:Int)=(D:Int):=IntWalk.i64_in _ (by omega)
 have qQ:IntKind.i64.wrap (Q:Int)=(Q:Int):=IntWalk.i64_in _ (by omega)
 go_cut [] (fun wx=>EIn w G.rows G.AB n g cap p l2 wx)
 case first=>
  have H0:=hide (show EIn w G.rows G.AB n g cap p (if false=true then l2 else l1) _ from H.out.drew)
  refine Cz (n:=49) (TJ 16 (fun b wx=>EIn w G.rows G.AB n g cap p (if b=true then l2 else l1) wx) (fun j=> [(.func (.func 208) #[] #[]),(.agg #[.int .i64 G.rows,.int .i64 G.AB,.slice (some ⟨g,0,none⟩) n cap]),(.int .i64 t),(.int .i64 b),(.int .i64 ((b:Int)+1)),(.slice (some ⟨g,z*5,none⟩) M (cap-z)),(.int .i64 m),(.int .i64 b),(.int .i64 ((b:Int)+1)),(.int .i64 t),(.int .i64 D),(.int .i64 q),(.pointer (some ⟨w.heap.size,1,none⟩)),(.int .i64 G.AB),(.int .i64 Q),(.agg #[.int .i64 p.1,.int .i64 p.2.1,.int .i64 p.2.2])].getD j undef)) (by kernel_rfl) (by kernel_rfl) (by kernel_rfl) rfl (fun L u u' wx he hj=>hj.same he) (Ou ⟨?_,?_,?_,?_,?_,?_,?_,?_,?_,?_,?_,?_,?_,?_,?_,?_,?_⟩) ?_ ⟨H0.out,fun j _ h=>by cases h⟩
  ·intro L a w' hL hsame hsz hJ AJ hcl
   have e0:a.eval (.tmp 0)=(.func (.func 208) #[] #[]):=AY hsame (by kernel_rfl)
   refine Step.val _ rfl rfl (AX rfl) (.func (.func 208) #[] #[]) w' (fun ρ hρ=>?_) (hJ.val ST.out (by decide) (Below.refl _ _) _ rfl)
   rw [hρ] at e0
   clear hJ hsame AJ hcl hρ hsz
   go_simp
  ·intro L a w' hL hsame hsz hJ AJ hcl
   have e0:a.eval (.tmp 7)=(.pointer (some ⟨w.heap.size,0,none⟩)):=AY hsame (by kernel_rfl)
   obtain⟨q0,q1,q2,_⟩:=hJ.put.1.three
   refine Step.val _ rfl rfl (AX rfl) (.agg #[.int .i64 G.rows,.int .i64 G.AB,.slice (some ⟨g,0,none⟩) n cap]) w' (fun ρ hρ=>?_) (hJ.val ST.out (by decide) (Below.refl _ _) _ rfl)
   rw [hρ] at e0
   clear hJ hsame AJ hcl hρ hsz
   go_simp
  ·intro L a w' hL hsame hsz hJ AJ hcl
   have e0:a.eval (.tmp 2)=(.int .i64 t):=AY hsame (by kernel_rfl)
   refine Step.val _ rfl rfl (AX rfl) (.int .i64 t) w' (fun ρ hρ=>?_) (hJ.val ST.out (by decide) (Below.refl _ _) _ rfl)
   rw [hρ] at e0
   clear hJ hsame AJ hcl hρ hsz
   go_simp
  ·intro L a w' hL hsame hsz hJ AJ hcl
   have e0:a.eval (.tmp 3)=(.int .i64 b):=AY hsame (by kernel_rfl)
   refine Step.val _ rfl rfl (AX rfl) (.int .i64 b) w' (fun ρ hρ=>?_) (hJ.val ST.out (by decide) (Below.refl _ _) _ rfl)
   rw [hρ] at e0
   clear hJ hsame AJ hcl hρ hsz
   go_simp
  ·intro L a w' hL hsame hsz hJ AJ hcl
   have e0:a.eval (.tmp 34)=(.int .i64 b):=AV (j:=3) (by kernel_rfl) (hJ.all 3 (by decide) (AZ AJ 3 (by kernel_rfl)))
   refine Step.val _ rfl rfl (AX rfl) (.int .i64 ((b:Int)+1)) w' (fun ρ hρ=>?_) (hJ.val ST.out (by decide) (Below.refl _ _) _ rfl)
   rw [hρ] at e0
   have ec1:ρ (.const (.int .i64 1))=(.int .i64 1):=(hρ _).symm
   clear hJ hsame AJ hcl hρ hsz
   go_simp
  ·intro L a w' hL hsame hsz hJ AJ hcl
   have e0:a.eval (.tmp 32)=(.agg #[.int .i64 G.rows,.int .i64 G.AB,.slice (some ⟨g,0,none⟩) n cap]):=AV (j:=1) (by kernel_rfl) (hJ.all 1 (by decide) (AZ AJ 1 (by kernel_rfl)))
   have e1:a.eval (.tmp 33)=(.int .i64 t):=AV (j:=2) (by kernel_rfl) (hJ.all 2 (by decide) (AZ AJ 2 (by kernel_rfl)))
   have e2:a.eval (.tmp 35)=(.int .i64 ((b:Int)+1)):=AV (j:=4) (by kernel_rfl) (hJ.all 4 (by decide) (AZ AJ 4 (by kernel_rfl)))
   refine Step.call _ rfl rfl (AX rfl) 181 #[.agg #[.int .i64 G.rows,.int .i64 G.AB,.slice (some ⟨g,0,none⟩) n cap],.int .i64 t,.int .i64 ((b:Int)+1)] (fun ρ hρ=>?_) ?_
   ·skip
    rw [hρ] at e0 e1 e2
    have ef:ρ (.func 181)=.func (.func 181) #[] #[] :=(hρ _).symm
    clear hJ hsame AJ hcl hρ hsz
    go_simp
   ·refine(RW.out w').mono ?_
    rintro e w2 ⟨rfl,bb⟩
    exact⟨_,rfl,hJ.val ST.out (by decide) bb _ rfl⟩
  ·intro L a w' hL hsame hsz hJ AJ hcl
   have e0:a.eval (.tmp 4)=(.int .i64 m):=AY hsame (by kernel_rfl)
   refine Step.val _ rfl rfl (AX rfl) (.int .i64 m) w' (fun ρ hρ=>?_) (hJ.val ST.out (by decide) (Below.refl _ _) _ rfl)
   rw [hρ] at e0
   clear hJ hsame AJ hcl hρ hsz
   go_simp
  ·intro L a w' hL hsame hsz hJ AJ hcl
   have e0:a.eval (.tmp 3)=(.int .i64 b):=AY hsame (by kernel_rfl)
   refine Step.val _ rfl rfl (AX rfl) (.int .i64 b) w' (fun ρ hρ=>?_) (hJ.val ST.out (by decide) (Below.refl _ _) _ rfl)
   rw [hρ] at e0
   clear hJ hsame AJ hcl hρ hsz
   go_simp
  ·intro L a w' hL hsame hsz hJ AJ hcl
   have e0:a.eval (.tmp 38)=(.int .i64 b):=AV (j:=7) (by kernel_rfl) (hJ.all 7 (by decide) (AZ AJ 7 (by kernel_rfl)))
   refine Step.val _ rfl rfl (AX rfl) (.int .i64 ((b:Int)+1)) w' (fun ρ hρ=>?_) (hJ.val ST.out (by decide) (Below.refl _ _) _ rfl)
   rw [hρ] at e0
   have ec1:ρ (.const (.int .i64 1))=(.int .i64 1):=(hρ _).symm
   clear hJ hsame AJ hcl hρ hsz
   go_simp
  ·intro L a w' hL hsame hsz hJ AJ hcl
   have e0:a.eval (.tmp 2)=(.int .i64 t):=AY hsame (by kernel_rfl)
   refine Step.val _ rfl rfl (AX rfl) (.int .i64 t) w' (fun ρ hρ=>?_) (hJ.val ST.out (by decide) (Below.refl _ _) _ rfl)
   rw [hρ] at e0
   clear hJ hsame AJ hcl hρ hsz
   go_simp
  ·intro L a w' hL hsame hsz hJ AJ hcl
   have e0:a.eval (.tmp 39)=(.int .i64 ((b:Int)+1)):=AV (j:=8) (by kernel_rfl) (hJ.all 8 (by decide) (AZ AJ 8 (by kernel_rfl)))
   have e1:a.eval (.tmp 40)=(.int .i64 t):=AV (j:=9) (by kernel_rfl) (hJ.all 9 (by decide) (AZ AJ 9 (by kernel_rfl)))
   refine Step.val _ rfl rfl (AX rfl) (.int .i64 D) w' (fun ρ hρ=>?_) (hJ.val ST.out (by decide) (Below.refl _ _) _ rfl)
   rw [hρ] at e0 e1
   clear hJ hsame AJ hcl hρ hsz
   go_simp
  ·intro L a w' hL hsame hsz hJ AJ hcl
   have e0:a.eval (.tmp 37)=(.int .i64 m):=AV (j:=6) (by kernel_rfl) (hJ.all 6 (by decide) (AZ AJ 6 (by kernel_rfl)))
   have e1:a.eval (.tmp 41)=(.int .i64 D):=AV (j:=10) (by kernel_rfl) (hJ.all 10 (by decide) (AZ AJ 10 (by kernel_rfl)))
   refine Step.call _ rfl rfl (AX rfl) 182 #[.int .i64 m,.int .i64 D] (fun ρ hρ=>?_) ?_
   ·skip
    rw [hρ] at e0 e1
    have ef:ρ (.func 182)=.func (.func 182) #[] #[] :=(hρ _).symm
    clear hJ hsame AJ hcl hρ hsz
    go_simp
   ·refine(WI.out w').mono ?_
    rintro e w2 ⟨rfl,bb⟩
    exact⟨_,rfl,hJ.val ST.out (by decide) bb _ rfl⟩
  ·intro L a w' hL hsame hsz hJ AJ hcl
   have e0:a.eval (.tmp 7)=(.pointer (some ⟨w.heap.size,0,none⟩)):=AY hsame (by kernel_rfl)
   refine Step.val _ rfl rfl (AX rfl) (.pointer (some ⟨w.heap.size,1,none⟩)) w' (fun ρ hρ=>?_) (hJ.val ST.out (by decide) (Below.refl _ _) _ rfl)
   rw [hρ] at e0
   clear hJ hsame AJ hcl hρ hsz
   go_simp
  ·intro L a w' hL hsame hsz hJ AJ hcl
   have e0:a.eval (.tmp 43)=(.pointer (some ⟨w.heap.size,1,none⟩)):=AV (j:=12) (by kernel_rfl) (hJ.all 12 (by decide) (AZ AJ 12 (by kernel_rfl)))
   obtain⟨q0,q1,q2,_⟩:=hJ.put.1.three
   refine Step.val _ rfl rfl (AX rfl) (.int .i64 G.AB) w' (fun ρ hρ=>?_) (hJ.val ST.out (by decide) (Below.refl _ _) _ rfl)
   rw [hρ] at e0
   clear hJ hsame AJ hcl hρ hsz
   go_simp
  ·intro L a w' hL hsame hsz hJ AJ hcl
   have e0:a.eval (.tmp 42)=(.int .i64 q):=AV (j:=11) (by kernel_rfl) (hJ.all 11 (by decide) (AZ AJ 11 (by kernel_rfl)))
   have e1:a.eval (.tmp 44)=(.int .i64 G.AB):=AV (j:=13) (by kernel_rfl) (hJ.all 13 (by decide) (AZ AJ 13 (by kernel_rfl)))
   refine Step.val _ rfl rfl (AX rfl) (.int .i64 Q) w' (fun ρ hρ=>?_) (hJ.val ST.out (by decide) (Below.refl _ _) _ rfl)
   rw [hρ] at e0 e1
   clear hJ hsame AJ hcl hρ hsz
   go_simp
  ·intro L a w' hL hsame hsz hJ AJ hcl
   have e0:a.eval (.tmp 11)=(.pointer (some ⟨w.heap.size+1,0,none⟩)):=AY hsame (by kernel_rfl)
   obtain⟨q0,q1,q2,_⟩:=hJ.put.2.1.three
   refine Step.val _ rfl rfl (AX rfl) (.agg #[.int .i64 p.1,.int .i64 p.2.1,.int .i64 p.2.2]) w' (fun ρ hρ=>?_) (hJ.val ST.out (by decide) (Below.refl _ _) _ rfl)
   rw [hρ] at e0
   clear hJ hsame AJ hcl hρ hsz
   go_simp
  ·intro L a w' hL hsame hsz hJ AJ hcl
   have e0:a.eval (.tmp 31)=(.func (.func 208) #[] #[]):=AV (j:=0) (by kernel_rfl) (hJ.all 0 (by decide) (AZ AJ 0 (by kernel_rfl)))
   have e1:a.eval (.tmp 36)=(.slice (some ⟨g,z*5,none⟩) M (cap-z)):=AV (j:=5) (by kernel_rfl) (hJ.all 5 (by decide) (AZ AJ 5 (by kernel_rfl)))
   have e2:a.eval (.tmp 45)=(.int .i64 Q):=AV (j:=14) (by kernel_rfl) (hJ.all 14 (by decide) (AZ AJ 14 (by kernel_rfl)))
   have e3:a.eval (.tmp 46)=(.agg #[.int .i64 p.1,.int .i64 p.2.1,.int .i64 p.2.2]):=AV (j:=15) (by kernel_rfl) (hJ.all 15 (by decide) (AZ AJ 15 (by kernel_rfl)))
   refine Step.call _ rfl rfl (AX rfl) 208 #[.slice (some ⟨g,z*5,none⟩) M (cap-z),.int .i64 Q,.agg #[.int .i64 p.1,.int .i64 p.2.1,.int .i64 p.2.2]] (fun ρ hρ=>?_) ?_
   ·skip
    rw [hρ] at e0 e1 e2 e3
    clear hJ hsame AJ hcl hρ hsz
    go_simp
   ·have hL0:L 16=false:=hL
    have hp:=hJ.put
    rw [hL0] at hp
    refine(MV.out w' hp.2.2.2.1).mono ?_
    rintro e w2 ⟨rfl,h2⟩
    exact⟨_,rfl,hJ.fin _ (FIN.out _ _ hp h2)⟩
  ·intro L a w' hsame hsz hJ hall
   obtain⟨u,hu,ha⟩:=FR hsame
   have h:=hJ.put
   rw [hall 16 (by decide)] at h
   have h:=hide h
   clear hJ hall hsz hu hsame
   subst ha
   change Exit.then _ _ Exit.normal (Act.put (Act.put (Act.put (Act.put (Act.put (Act.put (Act.put (Act.put (Act.put (Act.put (Act.put (Act.put (Act.put (Act.put (Act.put (Act.put (Act.put (BG _ u 0 _) (some 31) (u 0)) (some 32) (u 1)) (some 33) (u 2)) (some 34) (u 3)) (some 35) (u 4)) (some 36) (u 5)) (some 37) (u 6)) (some 38) (u 7)) (some 39) (u 8)) (some 40) (u 9)) (some 41) (u 10)) (some 42) (u 11)) (some 43) (u 12)) (some 44) (u 13)) (some 45) (u 14)) (some 46) (u 15)) (some 47) (u 16)) _
   simp only [BG]
   generalize u 0=v0
   generalize u 1=v1
   generalize u 2=v2
   generalize u 3=v3
   generalize u 4=v4
   generalize u 5=v5
   generalize u 6=v6
   generalize u 7=v7
   generalize u 8=v8
   generalize u 9=v9
   generalize u 10=v10
   generalize u 11=v11
   generalize u 12=v12
   generalize u 13=v13
   generalize u 14=v14
   generalize u 15=v15
   generalize u 16=v16
   go_simp
   go_step
   go_meet
   exact h.out
 case rest=>
  have H:=hide hcut
  clear hcut
  obtain⟨a0,a1,a2,a3,a4,a5⟩:=H.out.1.three
  obtain⟨j0,j1,j2,f0,f1,f2⟩:=H.out.2.2.1.three
  have X2:=H.out.2.2.1.Cq (.int .i64 G.rows) (.int .i64 G.AB) (.slice (some ⟨g,0,none⟩) n cap)
  have n2:=Ac H.out.2.2.2.1 H.out.2.2.1 (by decide)
  have O2:=ownsRow_setCell_other (ownsRow_setCell_other (ownsRow_setCell_other H.out.2.2.2.1 (a:=⟨w.heap.size+1+1,0,none⟩) n2 (.int .i64 G.rows)) (a:=⟨w.heap.size+1+1,1,none⟩) n2 (.int .i64 G.AB)) (a:=⟨w.heap.size+1+1,2,none⟩) n2 (.slice (some ⟨g,0,none⟩) n cap)
  have B2:=BM H.out.2.2.2.2 (show w.heap.size<=w.heap.size+1+1 by omega) (.int .i64 G.rows) (.int .i64 G.AB) (.slice (some ⟨g,0,none⟩) n cap)
  obtain⟨i0',i1',i2',_⟩:=X2.three
  have O2:=hide O2
  have B2:=hide B2
  go_wp2_with fail
  refine bodyPost_ret (v:=.agg #[.int .i64 G.rows,.int .i64 G.AB,.slice (some ⟨g,0,none⟩) n cap]) (by simp [results,Tryz.results145,go_sem,i0',i1',i2']) rfl (GOT.out g cap _ O2.out B2.out)
theorem Tf {G:PG.Gr} {v:Value} {w:World} (hG:PG.BL G) (h:IsG w G v) (t b:Nat) (m:Int) (p:PG.Pn) (ht:t<=b) (hb:b<G.rows) (hm0:0<=m) (hm1:m<=65535):
  Calls Tryz.prog 145 #[.func (.func 146) #[] #[],v,.int .i64 t,.int .i64 b,.int .i64 m,pv p] w (DN w (PG.Ay G t b m p)):=by
 obtain⟨A,cp,rfl,hl,h1,h2⟩:=h.open_
 have hR:=hG.2.1
 have hK:=hG.2.2.2.1
 have hK0:=hG.2.2.1
 have hnn:0*G.AB+0<G.rows*G.AB:=PG.Ca hG.1 hG.2.2.1
 obtain⟨c0,hc0'⟩: ∃c0,(PG.cells G)[0]? =some c0:=⟨_,List.getElem?_eq_getElem (by rw [PG.BH];omega)⟩
 obtain⟨ad,rfl,_⟩:=hl.at_ hc0'
 clear hc0'
 have e1:t*G.AB+(b+1-t)*G.AB=(b+1)*G.AB:=by rw [<- Nat.add_mul];congr 1;omega
 have hle:(b+1)*G.AB<=G.rows*G.AB:=Nat.mul_le_mul_right _ hb
 have h24:=size_le hG
 have hMp:0<(b+1-t)*G.AB:=Nat.mul_pos (by omega) hK0
 obtain⟨D,hD⟩: ∃D,b+1-t=D:=⟨_,rfl⟩
 obtain⟨q,hk,hkm,hkd⟩: ∃q:Nat,((m<=(b:Int)+1-t/\m=q)\/((b:Int)+1-t<m/\q=b+1-t))/\((0<=m/\m<=D/\(q:Int)=m)\/(0<=(D:Int)/\(D:Int)<m/\(q:Int)=D))/\q<=D:=⟨(min m ((b:Int)+1-t)).toNat,by omega,by omega,by omega⟩
 have hQm:q*G.AB<=D*G.AB:=Nat.mul_le_mul_right _ hkd
 have hQe:(q:Int)*(G.AB:Int)=((q*G.AB:Nat):Int):=by simp
 have CL:=hide (fun w' (hb:Below w.heap.size w w')=>Ef G.rows G.AB (G.rows*G.AB) cp w.heap.size ad (PG.cells G) w' (hl.below hb) hb.size (by omega))
 have IP:=hide (fun (wx:World) g cap (x:Int) (he:EIn w G.rows G.AB (G.rows*G.AB) g cap p (PG.cells G) wx) (hx:x=t\/x=b)=>CW hG (v:=gv G.rows G.AB (.slice (some ⟨g,0,none⟩) (G.rows*G.AB) cap)) (w:=wx) ⟨_,rfl,own_base' he.2.2.2.1 (Nat.zero_le _)⟩ x 0 true (.inl ⟨rfl,by omega,by omega,by omega,by omega⟩))
 have RW:=hide (fun g cap (h1:G.rows*G.AB<=cap) (h2:cap<=maxLen) (wx:World)=>(show Calls Tryz.prog 181 #[gv G.rows G.AB (.slice (some ⟨g,0,none⟩) (G.rows*G.AB) cap),.int .i64 t,.int .i64 ((b:Int)+1)] wx fun e w'=>e=.returned (.slice (some ⟨g,t*G.AB*5,none⟩) ((b+1-t)*G.AB) (cap-t*G.AB))/\Below wx.heap.size wx w' by
  have h:=Kq G.rows G.AB (G.rows*G.AB) cap g t (b+1) (t*G.AB) ((b+1-t)*G.AB) wx rfl e1 rfl (by omega) hR hK h1 h2
  rw [JM (n:=G.rows*G.AB) (by omega) h1 (by omega)] at h
  exact h))
 have MV:=hide (fun g cap cp (h1:(b+1-t)*G.AB<=cp) (h2:cp<=maxLen) (wx:World) (ho:wx.ownsRow w.heap.size 66 5 (.slice (some ⟨g,0,none⟩) (G.rows*G.AB) cap) (G.rows*G.AB) (Ag (PG.cells G)))=>Ta hG ht hb rfl m hm0 q hk p h1 h2 ho)
 have WI:=hide (fun wx=>KT m D q wx hkm)
 have HS:=hide (PG.Dn G t b m p)
 have HLG:=hide (PG.BH G)
 have HL2:=hide (show(PG.cells (PG.Ay G t b m p)).length=G.rows*G.AB by rw [PG.BH,HS.out.1,HS.out.2])
 have HCL:=hide (rfl:PG.cells (PG.Ay G t b m p)=PG.cells (PG.Ay G t b m p))
 have GOT: ∀(g cap:Nat) (w3:World),w3.ownsRow w.heap.size 66 5 (.slice (some ⟨g,0,none⟩) (G.rows*G.AB) cap) (G.rows*G.AB) (Ag (PG.cells (PG.Ay G t b m p)))->Below w.heap.size w w3->DN w (PG.Ay G t b m p) (.returned (gv G.rows G.AB (.slice (some ⟨g,0,none⟩) (G.rows*G.AB) cap))) w3:=fun g cap w3 ho hb=>by
  refine⟨_,rfl,⟨.slice (some ⟨g,0,none⟩) (G.rows*G.AB) cap,by rw [HS.out.1,HS.out.2],?_⟩,hb⟩
  rw [HS.out.1,HS.out.2]
  exact own_base' ho (Nat.zero_le _)
 have GOT:=hide GOT
 generalize PG.cells (PG.Ay G t b m p)=l2 at*
 generalize PG.cells G=l1 at*
 rw [hD] at MV RW e1 hMp
 have q0:(b:Int)+1-(t:Int)=(D:Int):=by omega
 have htb:(t:Int)<=(b:Int):=by omega
 have hrI:(b:Int)+1<=40:=by omega
 have hDb:D<=40:=by omega
 have hq4:q<=40:=by omega
 generalize q*G.AB=Q at*
 generalize D*G.AB=M at*
 generalize t*G.AB=z at*
 generalize (b+1)*G.AB=z2 at*
 generalize G.rows*G.AB=n at*
 unfold IK at CL
 clear h hl h2
 unfold gv pv at*
 go_enter Tryz.func145,Tryz.ntmps145
 go_upto_region 2 with (
      go_at_call 179
      obtain⟨x0,x1,x2,bw⟩:=Ci (w:=w) (t0:=37) (t1:=38) (t2:=37) (cs:= #[.int .i64 G.rows,.int .i64 G.AB,.slice (some ad) n cp]) (ds:= #[.int .i64 p.1,.int .i64 p.2.1,.int .i64 p.2.2]) (es:= #[.int .i64 0,.int .i64 0,.slice none 0 0])
      go_must (refine(CL.out _ bw).mono ?_)
      rintro e w1 ⟨v1,rfl,o1,b1⟩
      rw [HLG.out] at o1
      obtain⟨g,cap,rfl,hgb,hnc,hcm⟩:=GA o1 (by omega)
      have y0:=x0.below b1 x0.lt
      have y1:=x1.below b1 x1.lt
      have y2:=x2.below b1 x2.lt
      have bb:=bw.trans (b1.mono bw.size)
      have o1:=own_base' o1 bw.size
      obtain⟨a0,a1,a2,a3,a4,a5⟩:=y0.three
      have n0:=Ac o1 y0 (by decide)
      have X0:=(y0.Cq (.int .i64 G.rows) (.int .i64 G.AB) (.slice (some ⟨g,0,none⟩) n cap))
      have X1:=(y1.Gc (g':=w.heap.size) (by omega) (.int .i64 G.rows) (.int .i64 G.AB) (.slice (some ⟨g,0,none⟩) n cap))
      have X2:=(y2.Gc (g':=w.heap.size) (by omega) (.int .i64 G.rows) (.int .i64 G.AB) (.slice (some ⟨g,0,none⟩) n cap))
      have O:=(ownsRow_setCell_other (ownsRow_setCell_other (ownsRow_setCell_other o1 (a:=⟨w.heap.size,0,none⟩) n0 (.int .i64 G.rows)) (a:=⟨w.heap.size,1,none⟩) n0 (.int .i64 G.AB)) (a:=⟨w.heap.size,2,none⟩) n0 (.slice (some ⟨g,0,none⟩) n cap))
      have bs:=(BM bb (Nat.le_refl _) (.int .i64 G.rows) (.int .i64 G.AB) (.slice (some ⟨g,0,none⟩) n cap))
      have H:=hide (show EIn w G.rows G.AB n g cap p l1 _ from⟨X0,X1,X2,O,bs⟩)
      clear x0 x1 x2 bw b1 y0 y1 y2 CL o1 n0 bb X0 X1 X2 O bs)
 go_cut [29] (fun u wx=>u=.bool false/\EIn w G.rows G.AB n g cap p l1 wx)
 case first=>
  generalize (((w1.setCell ⟨w.heap.size,0,none⟩ (.int .i64 G.rows)).setCell ⟨w.heap.size,1,none⟩ (.int .i64 G.AB)).setCell ⟨w.heap.size,2,none⟩ (.slice (some ⟨g,0,none⟩) n cap))=w0 at*
  obtain⟨s0,s1,s2,_⟩:=H.out.1.three
  clear a0 a1 a2 a3 a4 a5
  have hdb:decide (b<t)=false:=by simp;omega
  go_wp2_with (
   go_at_call 180
   go_must (refine(IP.out _ g cap _ H.out (by first | exact Or.inl rfl | exact Or.inr rfl)).mono ?_)
   rintro e w2 ⟨rfl,b2⟩
   have H:=hide (H.out.call b2)
   clear b2
   obtain⟨r0,r1,r2,_⟩:=H.out.1.three)
  go_meet
  exact⟨rfl,H.out⟩
 case rest=>
 obtain⟨rfl,H⟩:=hcut
 have H:=hide H
 go_upto_region 4 with fail
 have MV:=hide (MV.out g cap (cap-z) (by omega) (by simp only [maxLen] at hcm⊢;omega))
 have RW:=hide (RW.out g cap hnc hcm)
 have WI:=hide (fun wx=>(WI.out wx).mono (fun e w' h=>(show e=.returned (.int .i64 q)/\Below wx.heap.size wx w' from⟨h.1,h.2▸Below.refl _ _⟩)))
 have ST:=hide (show∀(b:Bool) (x y:World),EIn w G.rows G.AB n g cap p (if b=true then l2 else l1) x->Below x.heap.size x y->EIn w G.rows G.AB n g cap p (if b=true then l2 else l1) y from fun b x y h hb=>h.call hb)
 have FIN:=hide (show∀(x y:World),EIn w G.rows G.AB n g cap p (if false=true then l2 else l1) x->(y.ownsRow w.heap.size 66 5 (.slice (some ⟨g,0,none⟩) n cap) n (Ag l2)/\Kept [some g] x y)->EIn w G.rows G.AB n g cap p (if true=true then l2 else l1) y from fun x y h h2=>EIn.wrote h h2.1 h2.2)
 have qb:IntKind.i64.wrap ((b:Int)+1)=(b:Int)+1:=IntWalk.i64_in _ (by omega)
 have qw:IntKind.i64.wrap (D:Int)=(D:Int):=IntWalk.i64_in _ (by omega)
 have qQ:IntKind.i64.wrap (Q:Int)=(Q:Int):=IntWalk.i64_in _ (by omega)
 go_cut [] (fun wx=>EIn w G.rows G.AB n g cap p l2 wx)
 case first=>
  have H0:=hide (show EIn w G.rows G.AB n g cap p (if false=true then l2 else l1) _ from H.out.drew)
  refine Cz (n:=49) (TJ 16 (fun b wx=>EIn w G.rows G.AB n g cap p (if b=true then l2 else l1) wx) (fun j=> [(.func (.func 146) #[] #[]),(.agg #[.int .i64 G.rows,.int .i64 G.AB,.slice (some ⟨g,0,none⟩) n cap]),(.int .i64 t),(.int .i64 b),(.int .i64 ((b:Int)+1)),(.slice (some ⟨g,z*5,none⟩) M (cap-z)),(.int .i64 m),(.int .i64 b),(.int .i64 ((b:Int)+1)),(.int .i64 t),(.int .i64 D),(.int .i64 q),(.pointer (some ⟨w.heap.size,1,none⟩)),(.int .i64 G.AB),(.int .i64 Q),(.agg #[.int .i64 p.1,.int .i64 p.2.1,.int .i64 p.2.2])].getD j undef)) (by kernel_rfl) (by kernel_rfl) (by kernel_rfl) rfl (fun L u u' wx he hj=>hj.same he) (Ou ⟨?_,?_,?_,?_,?_,?_,?_,?_,?_,?_,?_,?_,?_,?_,?_,?_,?_⟩) ?_ ⟨H0.out,fun j _ h=>by cases h⟩
  ·intro L a w' hL hsame hsz hJ AJ hcl
   have e0:a.eval (.tmp 0)=(.func (.func 146) #[] #[]):=AY hsame (by kernel_rfl)
   refine Step.val _ rfl rfl (AX rfl) (.func (.func 146) #[] #[]) w' (fun ρ hρ=>?_) (hJ.val ST.out (by decide) (Below.refl _ _) _ rfl)
   rw [hρ] at e0
   clear hJ hsame AJ hcl hρ hsz
   go_simp
  ·intro L a w' hL hsame hsz hJ AJ hcl
   have e0:a.eval (.tmp 7)=(.pointer (some ⟨w.heap.size,0,none⟩)):=AY hsame (by kernel_rfl)
   obtain⟨q0,q1,q2,_⟩:=hJ.put.1.three
   refine Step.val _ rfl rfl (AX rfl) (.agg #[.int .i64 G.rows,.int .i64 G.AB,.slice (some ⟨g,0,none⟩) n cap]) w' (fun ρ hρ=>?_) (hJ.val ST.out (by decide) (Below.refl _ _) _ rfl)
   rw [hρ] at e0
   clear hJ hsame AJ hcl hρ hsz
   go_simp
  ·intro L a w' hL hsame hsz hJ AJ hcl
   have e0:a.eval (.tmp 2)=(.int .i64 t):=AY hsame (by kernel_rfl)
   refine Step.val _ rfl rfl (AX rfl) (.int .i64 t) w' (fun ρ hρ=>?_) (hJ.val ST.out (by decide) (Below.refl _ _) _ rfl)
   rw [hρ] at e0
   clear hJ hsame AJ hcl hρ hsz
   go_simp
  ·intro L a w' hL hsame hsz hJ AJ hcl
   have e0:a.eval (.tmp 3)=(.int .i64 b):=AY hsame (by kernel_rfl)
   refine Step.val _ rfl rfl (AX rfl) (.int .i64 b) w' (fun ρ hρ=>?_) (hJ.val ST.out (by decide) (Below.refl _ _) _ rfl)
   rw [hρ] at e0
   clear hJ hsame AJ hcl hρ hsz
   go_simp
  ·intro L a w' hL hsame hsz hJ AJ hcl
   have e0:a.eval (.tmp 34)=(.int .i64 b):=AV (j:=3) (by kernel_rfl) (hJ.all 3 (by decide) (AZ AJ 3 (by kernel_rfl)))
   refine Step.val _ rfl rfl (AX rfl) (.int .i64 ((b:Int)+1)) w' (fun ρ hρ=>?_) (hJ.val ST.out (by decide) (Below.refl _ _) _ rfl)
   rw [hρ] at e0
   have ec1:ρ (.const (.int .i64 1))=(.int .i64 1):=(hρ _).symm
   clear hJ hsame AJ hcl hρ hsz
   go_simp
  ·intro L a w' hL hsame hsz hJ AJ hcl
   have e0:a.eval (.tmp 32)=(.agg #[.int .i64 G.rows,.int .i64 G.AB,.slice (some ⟨g,0,none⟩) n cap]):=AV (j:=1) (by kernel_rfl) (hJ.all 1 (by decide) (AZ AJ 1 (by kernel_rfl)))
   have e1:a.eval (.tmp 33)=(.int .i64 t):=AV (j:=2) (by kernel_rfl) (hJ.all 2 (by decide) (AZ AJ 2 (by kernel_rfl)))
   have e2:a.eval (.tmp 35)=(.int .i64 ((b:Int)+1)):=AV (j:=4) (by kernel_rfl) (hJ.all 4 (by decide) (AZ AJ 4 (by kernel_rfl)))
   refine Step.call _ rfl rfl (AX rfl) 181 #[.agg #[.int .i64 G.rows,.int .i64 G.AB,.slice (some ⟨g,0,none⟩) n cap],.int .i64 t,.int .i64 ((b:Int)+1)] (fun ρ hρ=>?_) ?_
   ·skip
    rw [hρ] at e0 e1 e2
    have ef:ρ (.func 181)=.func (.func 181) #[] #[] :=(hρ _).symm
    clear hJ hsame AJ hcl hρ hsz
    go_simp
   ·refine(RW.out w').mono ?_
    rintro e w2 ⟨rfl,bb⟩
    exact⟨_,rfl,hJ.val ST.out (by decide) bb _ rfl⟩
  ·intro L a w' hL hsame hsz hJ AJ hcl
   have e0:a.eval (.tmp 4)=(.int .i64 m):=AY hsame (by kernel_rfl)
   refine Step.val _ rfl rfl (AX rfl) (.int .i64 m) w' (fun ρ hρ=>?_) (hJ.val ST.out (by decide) (Below.refl _ _) _ rfl)
   rw [hρ] at e0
   clear hJ hsame AJ hcl hρ hsz
   go_simp
  ·intro L a w' hL hsame hsz hJ AJ hcl
   have e0:a.eval (.tmp 3)=(.int .i64 b):=AY hsame (by kernel_rfl)
   refine Step.val _ rfl rfl (AX rfl) (.int .i64 b) w' (fun ρ hρ=>?_) (hJ.val ST.out (by decide) (Below.refl _ _) _ rfl)
   rw [hρ] at e0
   clear hJ hsame AJ hcl hρ hsz
   go_simp
  ·intro L a w' hL hsame hsz hJ AJ hcl
   have e0:a.eval (.tmp 38)=(.int .i64 b):=AV (j:=7) (by kernel_rfl) (hJ.all 7 (by decide) (AZ AJ 7 (by kernel_rfl)))
   refine Step.val _ rfl rfl (AX rfl) (.int .i64 ((b:Int)+1)) w' (fun ρ hρ=>?_) (hJ.val ST.out (by decide) (Below.refl _ _) _ rfl)
   rw [hρ] at e0
   have ec1:ρ (.const (.int .i64 1))=(.int .i64 1):=(hρ _).symm
   clear hJ hsame AJ hcl hρ hsz
   go_simp
  ·intro L a w' hL hsame hsz hJ AJ hcl
   have e0:a.eval (.tmp 2)=(.int .i64 t):=AY hsame (by kernel_rfl)
   refine Step.val _ rfl rfl (AX rfl) (.int .i64 t) w' (fun ρ hρ=>?_) (hJ.val ST.out (by decide) (Below.refl _ _) _ rfl)
   rw [hρ] at e0
   clear hJ hsame AJ hcl hρ hsz
   go_simp
  ·intro L a w' hL hsame hsz hJ AJ hcl
   have e0:a.eval (.tmp 39)=(.int .i64 ((b:Int)+1)):=AV (j:=8) (by kernel_rfl) (hJ.all 8 (by decide) (AZ AJ 8 (by kernel_rfl)))
   have e1:a.eval (.tmp 40)=(.int .i64 t):=AV (j:=9) (by kernel_rfl) (hJ.all 9 (by decide) (AZ AJ 9 (by kernel_rfl)))
   refine Step.val _ rfl rfl (AX rfl) (.int .i64 D) w' (fun ρ hρ=>?_) (hJ.val ST.out (by decide) (Below.refl _ _) _ rfl)
   rw [hρ] at e0 e1
   clear hJ hsame AJ hcl hρ hsz
   go_simp
  ·intro L a w' hL hsame hsz hJ AJ hcl
   have e0:a.eval (.tmp 37)=(.int .i64 m):=AV (j:=6) (by kernel_rfl) (hJ.all 6 (by decide) (AZ AJ 6 (by kernel_rfl)))
   have e1:a.eval (.tmp 41)=(.int .i64 D):=AV (j:=10) (by kernel_rfl) (hJ.all 10 (by decide) (AZ AJ 10 (by kernel_rfl)))
   refine Step.call _ rfl rfl (AX rfl) 182 #[.int .i64 m,.int .i64 D] (fun ρ hρ=>?_) ?_
   ·skip
    rw [hρ] at e0 e1
    have ef:ρ (.func 182)=.func (.func 182) #[] #[] :=(hρ _).symm
    clear hJ hsame AJ hcl hρ hsz
    go_simp
   ·refine(WI.out w').mono ?_
    rintro e w2 ⟨rfl,bb⟩
    exact⟨_,rfl,hJ.val ST.out (by decide) bb _ rfl⟩
  ·intro L a w' hL hsame hsz hJ AJ hcl
   have e0:a.eval (.tmp 7)=(.pointer (some ⟨w.heap.size,0,none⟩)):=AY hsame (by kernel_rfl)
   refine Step.val _ rfl rfl (AX rfl) (.pointer (some ⟨w.heap.size,1,none⟩)) w' (fun ρ hρ=>?_) (hJ.val ST.out (by decide) (Below.refl _ _) _ rfl)
   rw [hρ] at e0
   clear hJ hsame AJ hcl hρ hsz
   go_simp
  ·intro L a w' hL hsame hsz hJ AJ hcl
   have e0:a.eval (.tmp 43)=(.pointer (some ⟨w.heap.size,1,none⟩)):=AV (j:=12) (by kernel_rfl) (hJ.all 12 (by decide) (AZ AJ 12 (by kernel_rfl)))
   obtain⟨q0,q1,q2,_⟩:=hJ.put.1.three
   refine Step.val _ rfl rfl (AX rfl) (.int .i64 G.AB) w' (fun ρ hρ=>?_) (hJ.val ST.out (by decide) (Below.refl _ _) _ rfl)
   rw [hρ] at e0
   clear hJ hsame AJ hcl hρ hsz
   go_simp
  ·intro L a w' hL hsame hsz hJ AJ hcl
   have e0:a.eval (.tmp 42)=(.int .i64 q):=AV (j:=11) (by kernel_rfl) (hJ.all 11 (by decide) (AZ AJ 11 (by kernel_rfl)))
   have e1:a.eval (.tmp 44)=(.int .i64 G.AB):=AV (j:=13) (by kernel_rfl) (hJ.all 13 (by decide) (AZ AJ 13 (by kernel_rfl)))
   refine Step.val _ rfl rfl (AX rfl) (.int .i64 Q) w' (fun ρ hρ=>?_) (hJ.val ST.out (by decide) (Below.refl _ _) _ rfl)
   rw [hρ] at e0 e1
   clear hJ hsame AJ hcl hρ hsz
   go_simp
  ·intro L a w' hL hsame hsz hJ AJ hcl
   have e0:a.eval (.tmp 11)=(.pointer (some ⟨w.heap.size+1,0,none⟩)):=AY hsame (by kernel_rfl)
   obtain⟨q0,q1,q2,_⟩:=hJ.put.2.1.three
   refine Step.val _ rfl rfl (AX rfl) (.agg #[.int .i64 p.1,.int .i64 p.2.1,.int .i64 p.2.2]) w' (fun ρ hρ=>?_) (hJ.val ST.out (by decide) (Below.refl _ _) _ rfl)
   rw [hρ] at e0
   clear hJ hsame AJ hcl hρ hsz
   go_simp
  ·intro L a w' hL hsame hsz hJ AJ hcl
   have e0:a.eval (.tmp 31)=(.func (.func 146) #[] #[]):=AV (j:=0) (by kernel_rfl) (hJ.all 0 (by decide) (AZ AJ 0 (by kernel_rfl)))
   have e1:a.eval (.tmp 36)=(.slice (some ⟨g,z*5,none⟩) M (cap-z)):=AV (j:=5) (by kernel_rfl) (hJ.all 5 (by decide) (AZ AJ 5 (by kernel_rfl)))
   have e2:a.eval (.tmp 45)=(.int .i64 Q):=AV (j:=14) (by kernel_rfl) (hJ.all 14 (by decide) (AZ AJ 14 (by kernel_rfl)))
   have e3:a.eval (.tmp 46)=(.agg #[.int .i64 p.1,.int .i64 p.2.1,.int .i64 p.2.2]):=AV (j:=15) (by kernel_rfl) (hJ.all 15 (by decide) (AZ AJ 15 (by kernel_rfl)))
   refine Step.call _ rfl rfl (AX rfl) 146 #[.slice (some ⟨g,z*5,none⟩) M (cap-z),.int .i64 Q,.agg #[.int .i64 p.1,.int .i64 p.2.1,.int .i64 p.2.2]] (fun ρ hρ=>?_) ?_
   ·skip
    rw [hρ] at e0 e1 e2 e3
    clear hJ hsame AJ hcl hρ hsz
    go_simp
   ·have hL0:L 16=false:=hL
    have hp:=hJ.put
    rw [hL0] at hp
    refine(MV.out w' hp.2.2.2.1).mono ?_
    rintro e w2 ⟨rfl,h2⟩
    exact⟨_,rfl,hJ.fin _ (FIN.out _ _ hp h2)⟩
  ·intro L a w' hsame hsz hJ hall
   obtain⟨u,hu,ha⟩:=FR hsame
   have h:=hJ.put
   rw [hall 16 (by decide)] at h
   have h:=hide h
   clear hJ hall hsz hu hsame
   subst ha
   change Exit.then _ _ Exit.normal (Act.put (Act.put (Act.put (Act.put (Act.put (Act.put (Act.put (Act.put (Act.put (Act.put (Act.put (Act.put (Act.put (Act.put (Act.put (Act.put (Act.put (BG _ u 0 _) (some 31) (u 0)) (some 32) (u 1)) (some 33) (u 2)) (some 34) (u 3)) (some 35) (u 4)) (some 36) (u 5)) (some 37) (u 6)) (some 38) (u 7)) (some 39) (u 8)) (some 40) (u 9)) (some 41) (u 10)) (some 42) (u 11)) (some 43) (u 12)) (some 44) (u 13)) (some 45) (u 14)) (some 46) (u 15)) (some 47) (u 16)) _
   simp only [BG]
   generalize u 0=v0
   generalize u 1=v1
   generalize u 2=v2
   generalize u 3=v3
   generalize u 4=v4
   generalize u 5=v5
   generalize u 6=v6
   generalize u 7=v7
   generalize u 8=v8
   generalize u 9=v9
   generalize u 10=v10
   generalize u 11=v11
   generalize u 12=v12
   generalize u 13=v13
   generalize u 14=v14
   generalize u 15=v15
   generalize u 16=v16
   go_simp
   go_step
   go_meet
   exact h.out
 case rest=>
  have H:=hide hcut
  clear hcut
  obtain⟨a0,a1,a2,a3,a4,a5⟩:=H.out.1.three
  obtain⟨j0,j1,j2,f0,f1,f2⟩:=H.out.2.2.1.three
  have X2:=H.out.2.2.1.Cq (.int .i64 G.rows) (.int .i64 G.AB) (.slice (some ⟨g,0,none⟩) n cap)
  have n2:=Ac H.out.2.2.2.1 H.out.2.2.1 (by decide)
  have O2:=ownsRow_setCell_other (ownsRow_setCell_other (ownsRow_setCell_other H.out.2.2.2.1 (a:=⟨w.heap.size+1+1,0,none⟩) n2 (.int .i64 G.rows)) (a:=⟨w.heap.size+1+1,1,none⟩) n2 (.int .i64 G.AB)) (a:=⟨w.heap.size+1+1,2,none⟩) n2 (.slice (some ⟨g,0,none⟩) n cap)
  have B2:=BM H.out.2.2.2.2 (show w.heap.size<=w.heap.size+1+1 by omega) (.int .i64 G.rows) (.int .i64 G.AB) (.slice (some ⟨g,0,none⟩) n cap)
  obtain⟨i0',i1',i2',_⟩:=X2.three
  have O2:=hide O2
  have B2:=hide B2
  go_wp2_with fail
  refine bodyPost_ret (v:=.agg #[.int .i64 G.rows,.int .i64 G.AB,.slice (some ⟨g,0,none⟩) n cap]) (by simp [results,Tryz.results145,go_sem,i0',i1',i2']) rfl (GOT.out g cap _ O2.out B2.out)
end Go.Proofs.YtoaabebgmdbjeaaGreatDoor
namespace Go.Proofs.YtoaabebgmdbjeaaGreatDoor
open Go.RowKit
theorem Oc {G:PG.Gr} {v:Value} {w:World} (hG:PG.BL G) (h:IsG w G v) (fv:Value) (r c m:Int) (p:PG.Pn) (hp: ¬(0<=r/\r<G.rows/\0<=c/\c<G.AB)):
  Calls Tryz.prog 209 #[fv,v,.int .i64 r,.int .i64 c,.int .i64 m,pv p] w (DN w G):=by
 obtain⟨A,cp,rfl,hl,h1,h2⟩:=h.open_
 have hnn:0*G.AB+0<G.rows*G.AB:=PG.Ca hG.1 hG.2.2.1
 obtain⟨c0,hc0'⟩: ∃c0,(PG.cells G)[0]? =some c0:=⟨_,List.getElem?_eq_getElem (by rw [PG.BH];omega)⟩
 obtain⟨ad,rfl,_⟩:=hl.at_ hc0'
 clear hc0'
 have h24:=size_le hG
 have hR:=hG.2.1
 have CL:=hide (fun w' (hb:Below w.heap.size w w')=>Ef G.rows G.AB (G.rows*G.AB) cp w.heap.size ad (PG.cells G) w' (hl.below hb) hb.size (by omega))
 have HLG:=hide (PG.BH G)
 have IP:=hide (fun (wx:World) g cap (x y:Int) (z:Bool) (he:EIn w G.rows G.AB (G.rows*G.AB) g cap p (PG.cells G) wx) hb=>CW hG (v:=gv G.rows G.AB (.slice (some ⟨g,0,none⟩) (G.rows*G.AB) cap)) (w:=wx) ⟨_,rfl,own_base' he.2.2.2.1 (Nat.zero_le _)⟩ x y z hb)
 have GOT: ∀(g cap:Nat) (w3:World),EIn w G.rows G.AB (G.rows*G.AB) g cap p (PG.cells G) w3->DN w G (.returned (gv G.rows G.AB (.slice (some ⟨g,0,none⟩) (G.rows*G.AB) cap))) (((w3.setCell ⟨w.heap.size+1+1,0,none⟩ (.int .i64 G.rows)).setCell ⟨w.heap.size+1+1,1,none⟩ (.int .i64 G.AB)).setCell ⟨w.heap.size+1+1,2,none⟩ (.slice (some ⟨g,0,none⟩) (G.rows*G.AB) cap)):=fun g cap w3 H=>by
  have n2:=Ac H.2.2.2.1 H.2.2.1 (by decide)
  exact⟨_,rfl,⟨_,rfl,own_base' (ownsRow_setCell_other (ownsRow_setCell_other (ownsRow_setCell_other H.2.2.2.1 (a:=⟨w.heap.size+1+1,0,none⟩) n2 (.int .i64 G.rows)) (a:=⟨w.heap.size+1+1,1,none⟩) n2 (.int .i64 G.AB)) (a:=⟨w.heap.size+1+1,2,none⟩) n2 (.slice (some ⟨g,0,none⟩) (G.rows*G.AB) cap)) (Nat.zero_le _)⟩,BM H.2.2.2.2 (by omega) _ _ _⟩
 have GOT:=hide GOT
 have hp:=hide hp
 clear h hl h2 hR
 generalize G.rows*G.AB=n at*
 unfold IK at CL
 unfold gv pv at*
 go_enter Tryz.func209,Tryz.ntmps209
 go_wp2_with (first
  | (go_at_call 179
     obtain⟨x0,x1,x2,bw⟩:=Ci (w:=w) (t0:=37) (t1:=38) (t2:=37) (cs:= #[.int .i64 G.rows,.int .i64 G.AB,.slice (some ad) n cp]) (ds:= #[.int .i64 p.1,.int .i64 p.2.1,.int .i64 p.2.2]) (es:= #[.int .i64 0,.int .i64 0,.slice none 0 0])
     go_must (refine(CL.out _ bw).mono ?_)
     rintro e w1 ⟨v1,rfl,o1,b1⟩
     rw [HLG.out] at o1
     obtain⟨g,cap,rfl,hgb,hnc,hcm⟩:=GA o1 (by omega)
     have y0:=x0.below b1 x0.lt
     have y1:=x1.below b1 x1.lt
     have y2:=x2.below b1 x2.lt
     have bb:=bw.trans (b1.mono bw.size)
     have o1:=own_base' o1 bw.size
     obtain⟨a0,a1,a2,a3,a4,a5⟩:=y0.three
     have n0:=Ac o1 y0 (by decide)
     have X0:=(y0.Cq (.int .i64 G.rows) (.int .i64 G.AB) (.slice (some ⟨g,0,none⟩) n cap))
     have X1:=(y1.Gc (g':=w.heap.size) (by omega) (.int .i64 G.rows) (.int .i64 G.AB) (.slice (some ⟨g,0,none⟩) n cap))
     have X2:=(y2.Gc (g':=w.heap.size) (by omega) (.int .i64 G.rows) (.int .i64 G.AB) (.slice (some ⟨g,0,none⟩) n cap))
     have O:=(ownsRow_setCell_other (ownsRow_setCell_other (ownsRow_setCell_other o1 (a:=⟨w.heap.size,0,none⟩) n0 (.int .i64 G.rows)) (a:=⟨w.heap.size,1,none⟩) n0 (.int .i64 G.AB)) (a:=⟨w.heap.size,2,none⟩) n0 (.slice (some ⟨g,0,none⟩) n cap))
     have bs:=(BM bb (Nat.le_refl _) (.int .i64 G.rows) (.int .i64 G.AB) (.slice (some ⟨g,0,none⟩) n cap))
     have H:=hide (show EIn w G.rows G.AB n g cap p (PG.cells G) _ from⟨X0,X1,X2,O,bs⟩)
     clear x0 x1 x2 bw b1 y0 y1 y2 CL o1 n0 bb X0 X1 X2 O bs)
  | (go_at_call 180
     go_must (refine(IP.out _ g cap r c false H.out (.inr ⟨rfl,hp.out⟩)).mono ?_)
     rintro e w2 ⟨rfl,b2⟩
     have H:=hide (H.out.call b2)
     obtain⟨a0,a1,a2,a3,a4,a5⟩:=H.out.1.three
     obtain⟨j0,j1,j2,f0,f1,f2⟩:=H.out.2.2.1.three
     clear b2))
 have X2:=H.out.2.2.1.Cq (.int .i64 G.rows) (.int .i64 G.AB) (.slice (some ⟨g,0,none⟩) n cap)
 obtain⟨i0',i1',i2',_⟩:=X2.three
 refine bodyPost_ret (v:=.agg #[.int .i64 G.rows,.int .i64 G.AB,.slice (some ⟨g,0,none⟩) n cap]) (by simp [results,Tryz.results209,go_sem,i0',i1',i2']) rfl (GOT.out g cap _ H.out)
theorem Od {G:PG.Gr} {v:Value} {w:World} (hG:PG.BL G) (h:IsG w G v) (fv:Value) (r c m:Int) (p:PG.Pn) (hp: ¬(0<=r/\r<=c/\c<G.rows)):
  Calls Tryz.prog 145 #[fv,v,.int .i64 r,.int .i64 c,.int .i64 m,pv p] w (DN w G):=by
 obtain⟨A,cp,rfl,hl,h1,h2⟩:=h.open_
 have hnn:0*G.AB+0<G.rows*G.AB:=PG.Ca hG.1 hG.2.2.1
 obtain⟨c0,hc0'⟩: ∃c0,(PG.cells G)[0]? =some c0:=⟨_,List.getElem?_eq_getElem (by rw [PG.BH];omega)⟩
 obtain⟨ad,rfl,_⟩:=hl.at_ hc0'
 clear hc0'
 have h24:=size_le hG
 have hR:=hG.2.1
 have CL:=hide (fun w' (hb:Below w.heap.size w w')=>Ef G.rows G.AB (G.rows*G.AB) cp w.heap.size ad (PG.cells G) w' (hl.below hb) hb.size (by omega))
 have HLG:=hide (PG.BH G)
 have IP:=hide (fun (wx:World) g cap (x y:Int) (z:Bool) (he:EIn w G.rows G.AB (G.rows*G.AB) g cap p (PG.cells G) wx) hb=>CW hG (v:=gv G.rows G.AB (.slice (some ⟨g,0,none⟩) (G.rows*G.AB) cap)) (w:=wx) ⟨_,rfl,own_base' he.2.2.2.1 (Nat.zero_le _)⟩ x y z hb)
 have GOT: ∀(g cap:Nat) (w3:World),EIn w G.rows G.AB (G.rows*G.AB) g cap p (PG.cells G) w3->DN w G (.returned (gv G.rows G.AB (.slice (some ⟨g,0,none⟩) (G.rows*G.AB) cap))) (((w3.setCell ⟨w.heap.size+1+1,0,none⟩ (.int .i64 G.rows)).setCell ⟨w.heap.size+1+1,1,none⟩ (.int .i64 G.AB)).setCell ⟨w.heap.size+1+1,2,none⟩ (.slice (some ⟨g,0,none⟩) (G.rows*G.AB) cap)):=fun g cap w3 H=>by
  have n2:=Ac H.2.2.2.1 H.2.2.1 (by decide)
  exact⟨_,rfl,⟨_,rfl,own_base' (ownsRow_setCell_other (ownsRow_setCell_other (ownsRow_setCell_other H.2.2.2.1 (a:=⟨w.heap.size+1+1,0,none⟩) n2 (.int .i64 G.rows)) (a:=⟨w.heap.size+1+1,1,none⟩) n2 (.int .i64 G.AB)) (a:=⟨w.heap.size+1+1,2,none⟩) n2 (.slice (some ⟨g,0,none⟩) (G.rows*G.AB) cap)) (Nat.zero_le _)⟩,BM H.2.2.2.2 (by omega) _ _ _⟩
 have GOT:=hide GOT
 obtain⟨ans,dZ⟩: ∃ans:Int->Bool, ∀x,(ans x=true/\0<=x/\x<G.rows)\/(ans x=false/\ ¬(0<=x/\x<G.rows)):=⟨fun x=>decide (0<=x/\x<G.rows),fun x=>by
  by_cases h:0<=x/\x<(G.rows:Int)
  ·exact .inl ⟨by simpa using h,h⟩
  ·exact .inr ⟨by simpa using h,h⟩⟩
 have IP:=hide (fun (wx:World) g cap (x:Int) (he:EIn w G.rows G.AB (G.rows*G.AB) g cap p (PG.cells G) wx)=>CW hG (v:=gv G.rows G.AB (.slice (some ⟨g,0,none⟩) (G.rows*G.AB) cap)) (w:=wx) ⟨_,rfl,own_base' he.2.2.2.1 (Nat.zero_le _)⟩ x 0 (ans x) ((dZ x).imp (fun h=>⟨h.1,h.2.1,h.2.2,by omega,by have:=hG.2.2.1;omega⟩) (fun h=>⟨h.1,fun k=>h.2 ⟨k.1,k.2.1⟩⟩)))
 have hcase:c<r\/(r<=c/\ans r=false)\/(r<=c/\ans r=true/\ans c=false):=by
  rcases dZ r with ⟨x1,x2⟩ | ⟨x1,x2⟩<;>rcases dZ c with ⟨y1,y2⟩ | ⟨y1,y2⟩<;>rcases Int.lt_or_le c r with z | z
  all_goals first | exact .inl z | exact .inr (.inl ⟨z,x1⟩) | exact .inr (.inr ⟨z,x1,y1⟩) | exact absurd ⟨x2.1,z,y2.2⟩ hp
 clear dZ hp
 clear h hl h2 hR
 generalize G.rows*G.AB=n at*
 unfold IK at CL
 unfold gv pv at*
 go_enter Tryz.func145,Tryz.ntmps145
 go_upto_region 2 with (
      go_at_call 179
      obtain⟨x0,x1,x2,bw⟩:=Ci (w:=w) (t0:=37) (t1:=38) (t2:=37) (cs:= #[.int .i64 G.rows,.int .i64 G.AB,.slice (some ad) n cp]) (ds:= #[.int .i64 p.1,.int .i64 p.2.1,.int .i64 p.2.2]) (es:= #[.int .i64 0,.int .i64 0,.slice none 0 0])
      go_must (refine(CL.out _ bw).mono ?_)
      rintro e w1 ⟨v1,rfl,o1,b1⟩
      rw [HLG.out] at o1
      obtain⟨g,cap,rfl,hgb,hnc,hcm⟩:=GA o1 (by omega)
      have y0:=x0.below b1 x0.lt
      have y1:=x1.below b1 x1.lt
      have y2:=x2.below b1 x2.lt
      have bb:=bw.trans (b1.mono bw.size)
      have o1:=own_base' o1 bw.size
      obtain⟨a0,a1,a2,a3,a4,a5⟩:=y0.three
      have n0:=Ac o1 y0 (by decide)
      have X0:=(y0.Cq (.int .i64 G.rows) (.int .i64 G.AB) (.slice (some ⟨g,0,none⟩) n cap))
      have X1:=(y1.Gc (g':=w.heap.size) (by omega) (.int .i64 G.rows) (.int .i64 G.AB) (.slice (some ⟨g,0,none⟩) n cap))
      have X2:=(y2.Gc (g':=w.heap.size) (by omega) (.int .i64 G.rows) (.int .i64 G.AB) (.slice (some ⟨g,0,none⟩) n cap))
      have O:=(ownsRow_setCell_other (ownsRow_setCell_other (ownsRow_setCell_other o1 (a:=⟨w.heap.size,0,none⟩) n0 (.int .i64 G.rows)) (a:=⟨w.heap.size,1,none⟩) n0 (.int .i64 G.AB)) (a:=⟨w.heap.size,2,none⟩) n0 (.slice (some ⟨g,0,none⟩) n cap))
      have bs:=(BM bb (Nat.le_refl _) (.int .i64 G.rows) (.int .i64 G.AB) (.slice (some ⟨g,0,none⟩) n cap))
      have H:=hide (show EIn w G.rows G.AB n g cap p (PG.cells G) _ from⟨X0,X1,X2,O,bs⟩)
      clear x0 x1 x2 bw b1 y0 y1 y2 CL o1 n0 bb X0 X1 X2 O bs)
 go_cut [29] (fun u wx=>u=.bool true/\EIn w G.rows G.AB n g cap p (PG.cells G) wx)
 case first=>
  generalize (((w1.setCell ⟨w.heap.size,0,none⟩ (.int .i64 G.rows)).setCell ⟨w.heap.size,1,none⟩ (.int .i64 G.AB)).setCell ⟨w.heap.size,2,none⟩ (.slice (some ⟨g,0,none⟩) n cap))=w0 at*
  obtain⟨s0,s1,s2,_⟩:=H.out.1.three
  clear a0 a1 a2 a3 a4 a5
  rcases hcase with hdb | ⟨hdb,ha⟩ | ⟨hdb,ha,hb⟩
  all_goals
   go_wp2_with (
    go_at_call 180
    go_must (refine(IP.out _ g cap _ H.out).mono ?_)
    rintro e w2 ⟨rfl,b2⟩
    have H:=hide (H.out.call b2)
    clear b2
    obtain⟨r0,r1,r2,_⟩:=H.out.1.three)
   go_meet
   exact⟨rfl,H.out⟩
 case rest=>
 obtain⟨rfl,H⟩:=hcut
 have H:=hide H
 obtain⟨a0,a1,a2,a3,a4,a5⟩:=H.out.1.three
 obtain⟨j0,j1,j2,f0,f1,f2⟩:=H.out.2.2.1.three
 go_wp2_with fail
 have X2:=H.out.2.2.1.Cq (.int .i64 G.rows) (.int .i64 G.AB) (.slice (some ⟨g,0,none⟩) n cap)
 obtain⟨i0',i1',i2',_⟩:=X2.three
 refine bodyPost_ret (v:=.agg #[.int .i64 G.rows,.int .i64 G.AB,.slice (some ⟨g,0,none⟩) n cap]) (by simp [results,Tryz.results145,go_sem,i0',i1',i2']) rfl (GOT.out g cap _ H.out)
def GR (w:World) (G:PG.Gr) (e:Ending) (w':World):Prop:= ∃s,e=.returned (gv G.rows G.AB s)/\w'.ownsRow w.heap.size 66 5 s (G.rows*G.AB) (Ag (PG.cells G))/\Below w.heap.size w w'
theorem GR.got {w w':World} {G:PG.Gr} {e:Ending} (h:GR w G e w'):DN w G e w':=by
 obtain⟨s,rfl,ho,hb⟩:=h
 exact⟨_,rfl,⟨_,rfl,own_base' ho (Nat.zero_le _)⟩,hb⟩
theorem ZO {w:World} {R K:Nat} {G:PG.Gr} {l:List PG.Cl} {e:Ending} {w':World} (h:Gm w R K (R*K) l e w') (hl:l=PG.cells G) (hR:G.rows=R) (hK:G.AB=K):GR w G e w':=by
 subst hR hK hl
 obtain⟨g,rfl,ho,hb⟩:=h
 exact⟨_,rfl,ho,hb⟩
theorem ZP {w:World} {R K:Nat} {G:PG.Gr} {l:List PG.Cl} {e:Ending} {w':World} (h:IK w R K l e w') (hl:l=PG.cells G) (hR:G.rows=R) (hK:G.AB=K):GR w G e w':=by
 subst hR hK hl
 obtain⟨v,rfl,ho,hb⟩:=h
 rw [PG.BH] at ho
 exact⟨_,rfl,ho,hb⟩
theorem VN {G:PG.Gr} {v:Value} {w:World} (hG:PG.BL G) (h:IsG w G v):Calls Tryz.prog 179 #[v] w (GR w G):=by
 obtain⟨A,cp,rfl,hl,h1,h2⟩:=h.open_
 have hnn:0*G.AB+0<G.rows*G.AB:=PG.Ca hG.1 hG.2.2.1
 obtain⟨c0,hc0'⟩: ∃c0,(PG.cells G)[0]? =some c0:=⟨_,List.getElem?_eq_getElem (by rw [PG.BH];omega)⟩
 obtain⟨ad,rfl,_⟩:=hl.at_ hc0'
 have h24:=size_le hG
 exact(Ef G.rows G.AB (G.rows*G.AB) cp w.heap.size ad (PG.cells G) w hl (Nat.le_refl _) (by omega)).mono fun e w' h=>ZP h rfl rfl rfl
theorem Tg {G:PG.Gr} {v:Value} {w:World} (hG:PG.BL G) (h:IsG w G v) (r a b:Int) (p:PG.Pn) (ha: -1000<=a/\a<=1000) (hb: -1000<=b/\b<=1000) (hi:0<=r/\r<G.rows):
  Calls Tryz.prog 199 #[v,.int .i64 r,.int .i64 a,.int .i64 b,pv p] w (GR w (PG.J9 G r a b p)):=by
 obtain⟨A,cp,rfl,hl,h1,h2⟩:=h.open_
 have e1:(if a<0 then (0:Int) else a)=((max a 0).toNat:Int):=by split<;>omega
 obtain⟨q,rfl⟩:=Int.eq_ofNat_of_zero_le hi.1
 have e2:(if (G.AB:Int)<b then (G.AB:Int) else b)=min b G.AB:=by split<;>omega
 refine(Yj G.rows G.AB q _ cp w.heap.size _ a b _ p A _ w hl (Nat.le_refl _) rfl (by omega) hG.2.1 hG.2.2.1 hG.2.2.2.1 ha hb e1 e2).mono fun e w' hm=>?_
 have e3:PG.J9 G q a b p=PG.DL G q (max a 0).toNat (min b G.AB).toNat p:=by unfold PG.J9;rw [if_pos (by omega)];rfl
 rw [e3]
 exact ZO hm (PG.MP (by omega) _ _ p) (PG.DI ..).1 (PG.DI ..).2
theorem DW {w w3:World} {H:PG.Gr} {A:Option Addr} {n c gb B:Nat} {cs:Array Value} (ho:w3.ownsRow B 66 5 (.slice A n c) (H.rows*H.AB) (Ag (PG.cells H))) (hB:w.heap.size<=B) (x:Box w3 gb 37 cs) (hb:Below w.heap.size w w3) (hg:w.heap.size<=gb):
  GR w H (.returned (.agg #[.int .i64 H.rows,.int .i64 H.AB,.slice A n c])) (((w3.setCell ⟨gb,0,none⟩ (.int .i64 H.rows)).setCell ⟨gb,1,none⟩ (.int .i64 H.AB)).setCell ⟨gb,2,none⟩ (.slice A n c)):=by
 have n2:=Ac ho x (by decide)
 exact⟨_,rfl,own_base' (ownsRow_setCell_other (ownsRow_setCell_other (ownsRow_setCell_other ho (a:=⟨gb,0,none⟩) n2 (.int .i64 H.rows)) (a:=⟨gb,1,none⟩) n2 (.int .i64 H.AB)) (a:=⟨gb,2,none⟩) n2 (.slice A n c)) hB,BM hb hg _ _ _⟩
theorem IG {w w3:World} {H:PG.Gr} {A:Option Addr} {n c gb B:Nat} {cs:Array Value} (ho:w3.ownsRow B 66 5 (.slice A n c) (H.rows*H.AB) (Ag (PG.cells H))) (x:Box w3 gb 37 cs) (hb:Below w.heap.size w w3) (hg:w.heap.size<=gb):
  DN w H (.returned (.agg #[.int .i64 H.rows,.int .i64 H.AB,.slice A n c])) (((w3.setCell ⟨gb,0,none⟩ (.int .i64 H.rows)).setCell ⟨gb,1,none⟩ (.int .i64 H.AB)).setCell ⟨gb,2,none⟩ (.slice A n c)):=by
 have n2:=Ac ho x (by decide)
 exact⟨_,rfl,⟨_,rfl,own_base' (ownsRow_setCell_other (ownsRow_setCell_other (ownsRow_setCell_other ho (a:=⟨gb,0,none⟩) n2 (.int .i64 H.rows)) (a:=⟨gb,1,none⟩) n2 (.int .i64 H.AB)) (a:=⟨gb,2,none⟩) n2 (.slice A n c)) (Nat.zero_le _)⟩,BM hb hg _ _ _⟩
theorem ZQ {G:PG.Gr} {v:Value} {w:World} (hG:PG.BL G) (h:IsG w G v) (r c n:Int) (p:PG.Pn) (hn:0<=n/\n<=65535):Calls Tryz.prog 209 #[.func (.func 208) #[] #[],v,.int .i64 r,.int .i64 c,.int .i64 n,pv p] w (DN w (PG.Er G r c n p)):=by
 by_cases hi:0<=r/\r<G.rows/\0<=c/\c<G.AB
 ·obtain⟨r',rfl⟩:=Int.eq_ofNat_of_zero_le hi.1
  obtain⟨c',rfl⟩:=Int.eq_ofNat_of_zero_le (show 0<=c by omega)
  have e:PG.Er G r' c' n p=PG.Cb G r' c' n p:=by unfold PG.Er;rw [if_pos (by omega)];rfl
  rw [e]
  exact Tc hG h r' c' n p (by omega) (by omega) hn.1 hn.2
 ·rw [PG.Mg hi]
  exact Oc hG h _ r c n p hi
theorem ZT {G:PG.Gr} {v:Value} {w:World} (hG:PG.BL G) (h:IsG w G v) (r c n:Int) (p:PG.Pn) (hp:PG.Cc p) (hr: -1000<=r/\r<=1000) (hc: -1000<=c/\c<=1000) (hn:0<=n/\n<=65535):Calls Tryz.prog 197 #[v,.int .i64 r,.int .i64 c,.int .i64 n,pv p] w (DN w (PG.Er G r c n p)):=by
 have C:=hide (fun w' (hb':Below w.heap.size w w')=>ZQ hG (h.low hb') r c n p hn)
 obtain⟨A,cp,rfl,hl,h1,h2⟩:=h.open_
 clear hl h1 h2 h
 generalize G.rows*G.AB=n0 at*
 generalize PG.Er G r c n p=GH at*
 unfold gv pv at*
 go_enter Tryz.func197,Tryz.ntmps197
 go_wp2_with (
  go_at_call 209
  obtain⟨x0,x1,x2,bw⟩:=Ci (w:=w) (t0:=37) (t1:=38) (t2:=37) (cs:= #[.int .i64 G.rows,.int .i64 G.AB,.slice A n0 cp]) (ds:= #[.int .i64 p.1,.int .i64 p.2.1,.int .i64 p.2.2]) (es:= #[.int .i64 0,.int .i64 0,.slice none 0 0])
  go_must (refine(C.out _ bw).mono ?_)
  rintro e w1 ⟨v1,rfl,⟨s,rfl,o1⟩,b1⟩
  obtain⟨A1,c1,rfl,_⟩:=Bo o1
  have x2:=x2.below b1 x2.lt
  have bb:=bw.trans (b1.mono bw.size)
  unfold gv
  obtain⟨j0,j1,j2,f0,f1,f2⟩:=x2.three
  have F:=hide (IG o1 x2 bb (show w.heap.size<=w.heap.size+1+1 by omega))
  have X2:=x2.Cq (.int .i64 GH.rows) (.int .i64 GH.AB) (.slice A1 (GH.rows*GH.AB) c1)
  obtain⟨i0',i1',i2',_⟩:=X2.three
  clear x0 x1 bw b1 C o1 bb X2 x2)
 refine bodyPost_ret (v:=.agg #[.int .i64 GH.rows,.int .i64 GH.AB,.slice A1 (GH.rows*GH.AB) c1]) (by simp [results,Tryz.results197,go_sem,i0',i1',i2']) rfl F.out
theorem ZU {G:PG.Gr} {v:Value} {w:World} (hG:PG.BL G) (h:IsG w G v) (r c n:Int) (p:PG.Pn) (hn:0<=n/\n<=65535):Calls Tryz.prog 209 #[.func (.func 146) #[] #[],v,.int .i64 r,.int .i64 c,.int .i64 n,pv p] w (DN w (PG.Er G r c (-n) p)):=by
 by_cases hi:0<=r/\r<G.rows/\0<=c/\c<G.AB
 ·obtain⟨r',rfl⟩:=Int.eq_ofNat_of_zero_le hi.1
  obtain⟨c',rfl⟩:=Int.eq_ofNat_of_zero_le (show 0<=c by omega)
  have e:PG.Er G r' c' (-n) p=PG.Cb G r' c' (-n) p:=by unfold PG.Er;rw [if_pos (by omega)];rfl
  rw [e]
  exact Td hG h r' c' n p (by omega) (by omega) hn.1 hn.2
 ·rw [PG.Mg hi]
  exact Oc hG h _ r c n p hi
theorem ZV {G:PG.Gr} {v:Value} {w:World} (hG:PG.BL G) (h:IsG w G v) (r c n:Int) (p:PG.Pn) (hp:PG.Cc p) (hr: -1000<=r/\r<=1000) (hc: -1000<=c/\c<=1000) (hn:0<=n/\n<=65535):Calls Tryz.prog 198 #[v,.int .i64 r,.int .i64 c,.int .i64 n,pv p] w (DN w (PG.Er G r c (-n) p)):=by
 have C:=hide (fun w' (hb':Below w.heap.size w w')=>ZU hG (h.low hb') r c n p hn)
 obtain⟨A,cp,rfl,hl,h1,h2⟩:=h.open_
 clear hl h1 h2 h
 generalize G.rows*G.AB=n0 at*
 generalize PG.Er G r c (-n) p=GH at*
 unfold gv pv at*
 go_enter Tryz.func198,Tryz.ntmps198
 go_wp2_with (
  go_at_call 209
  obtain⟨x0,x1,x2,bw⟩:=Ci (w:=w) (t0:=37) (t1:=38) (t2:=37) (cs:= #[.int .i64 G.rows,.int .i64 G.AB,.slice A n0 cp]) (ds:= #[.int .i64 p.1,.int .i64 p.2.1,.int .i64 p.2.2]) (es:= #[.int .i64 0,.int .i64 0,.slice none 0 0])
  go_must (refine(C.out _ bw).mono ?_)
  rintro e w1 ⟨v1,rfl,⟨s,rfl,o1⟩,b1⟩
  obtain⟨A1,c1,rfl,_⟩:=Bo o1
  have x2:=x2.below b1 x2.lt
  have bb:=bw.trans (b1.mono bw.size)
  unfold gv
  obtain⟨j0,j1,j2,f0,f1,f2⟩:=x2.three
  have F:=hide (IG o1 x2 bb (show w.heap.size<=w.heap.size+1+1 by omega))
  have X2:=x2.Cq (.int .i64 GH.rows) (.int .i64 GH.AB) (.slice A1 (GH.rows*GH.AB) c1)
  obtain⟨i0',i1',i2',_⟩:=X2.three
  clear x0 x1 bw b1 C o1 bb X2 x2)
 refine bodyPost_ret (v:=.agg #[.int .i64 GH.rows,.int .i64 GH.AB,.slice A1 (GH.rows*GH.AB) c1]) (by simp [results,Tryz.results198,go_sem,i0',i1',i2']) rfl F.out
theorem up_c {G:PG.Gr} {v:Value} {w:World} (hG:PG.BL G) (h:IsG w G v) (t b n:Int) (p:PG.Pn) (hn:0<=n/\n<=65535):Calls Tryz.prog 145 #[.func (.func 146) #[] #[],v,.int .i64 t,.int .i64 b,.int .i64 n,pv p] w (DN w (PG.DF G t b n p)):=by
 by_cases hi:0<=t/\t<=b/\b<G.rows
 ·obtain⟨r',rfl⟩:=Int.eq_ofNat_of_zero_le hi.1
  obtain⟨c',rfl⟩:=Int.eq_ofNat_of_zero_le (show 0<=b by omega)
  have e:PG.DF G r' c' n p=PG.Ay G r' c' n p:=by unfold PG.DF;rw [if_pos (by omega)];rfl
  rw [e]
  exact Tf hG h r' c' n p (by omega) (by omega) hn.1 hn.2
 ·rw [PG.LG hi]
  exact Od hG h _ t b n p hi
theorem jU {G:PG.Gr} {v:Value} {w:World} (hG:PG.BL G) (h:IsG w G v) (t b n:Int) (p:PG.Pn) (hp:PG.Cc p) (hr: -1000<=t/\t<=1000) (hc: -1000<=b/\b<=1000) (hn:0<=n/\n<=65535):Calls Tryz.prog 110 #[v,.int .i64 t,.int .i64 b,.int .i64 n,pv p] w (DN w (PG.DF G t b n p)):=by
 have C:=hide (fun w' (hb':Below w.heap.size w w')=>up_c hG (h.low hb') t b n p hn)
 obtain⟨A,cp,rfl,hl,h1,h2⟩:=h.open_
 clear hl h1 h2 h
 generalize G.rows*G.AB=n0 at*
 generalize PG.DF G t b n p=GH at*
 unfold gv pv at*
 go_enter Tryz.func110,Tryz.ntmps110
 go_wp2_with (
  go_at_call 145
  obtain⟨x0,x1,x2,bw⟩:=Ci (w:=w) (t0:=37) (t1:=38) (t2:=37) (cs:= #[.int .i64 G.rows,.int .i64 G.AB,.slice A n0 cp]) (ds:= #[.int .i64 p.1,.int .i64 p.2.1,.int .i64 p.2.2]) (es:= #[.int .i64 0,.int .i64 0,.slice none 0 0])
  go_must (refine(C.out _ bw).mono ?_)
  rintro e w1 ⟨v1,rfl,⟨s,rfl,o1⟩,b1⟩
  obtain⟨A1,c1,rfl,_⟩:=Bo o1
  have x2:=x2.below b1 x2.lt
  have bb:=bw.trans (b1.mono bw.size)
  unfold gv
  obtain⟨j0,j1,j2,f0,f1,f2⟩:=x2.three
  have F:=hide (IG o1 x2 bb (show w.heap.size<=w.heap.size+1+1 by omega))
  have X2:=x2.Cq (.int .i64 GH.rows) (.int .i64 GH.AB) (.slice A1 (GH.rows*GH.AB) c1)
  obtain⟨i0',i1',i2',_⟩:=X2.three
  clear x0 x1 bw b1 C o1 bb X2 x2)
 refine bodyPost_ret (v:=.agg #[.int .i64 GH.rows,.int .i64 GH.AB,.slice A1 (GH.rows*GH.AB) c1]) (by simp [results,Tryz.results110,go_sem,i0',i1',i2']) rfl F.out
theorem jV {G:PG.Gr} {v:Value} {w:World} (hG:PG.BL G) (h:IsG w G v) (t b n:Int) (p:PG.Pn) (hn:0<=n/\n<=65535):Calls Tryz.prog 145 #[.func (.func 208) #[] #[],v,.int .i64 t,.int .i64 b,.int .i64 n,pv p] w (DN w (PG.DF G t b (-n) p)):=by
 by_cases hi:0<=t/\t<=b/\b<G.rows
 ·obtain⟨r',rfl⟩:=Int.eq_ofNat_of_zero_le hi.1
  obtain⟨c',rfl⟩:=Int.eq_ofNat_of_zero_le (show 0<=b by omega)
  have e:PG.DF G r' c' (-n) p=PG.Ay G r' c' (-n) p:=by unfold PG.DF;rw [if_pos (by omega)];rfl
  rw [e]
  exact Te hG h r' c' n p (by omega) (by omega) hn.1 hn.2
 ·rw [PG.LG hi]
  exact Od hG h _ t b n p hi
theorem Ti {G:PG.Gr} {v:Value} {w:World} (hG:PG.BL G) (h:IsG w G v) (t b n:Int) (p:PG.Pn) (hp:PG.Cc p) (hr: -1000<=t/\t<=1000) (hc: -1000<=b/\b<=1000) (hn:0<=n/\n<=65535):Calls Tryz.prog 190 #[v,.int .i64 t,.int .i64 b,.int .i64 n,pv p] w (DN w (PG.DF G t b (-n) p)):=by
 have C:=hide (fun w' (hb':Below w.heap.size w w')=>jV hG (h.low hb') t b n p hn)
 obtain⟨A,cp,rfl,hl,h1,h2⟩:=h.open_
 clear hl h1 h2 h
 generalize G.rows*G.AB=n0 at*
 generalize PG.DF G t b (-n) p=GH at*
 unfold gv pv at*
 go_enter Tryz.func190,Tryz.ntmps190
 go_wp2_with (
  go_at_call 145
  obtain⟨x0,x1,x2,bw⟩:=Ci (w:=w) (t0:=37) (t1:=38) (t2:=37) (cs:= #[.int .i64 G.rows,.int .i64 G.AB,.slice A n0 cp]) (ds:= #[.int .i64 p.1,.int .i64 p.2.1,.int .i64 p.2.2]) (es:= #[.int .i64 0,.int .i64 0,.slice none 0 0])
  go_must (refine(C.out _ bw).mono ?_)
  rintro e w1 ⟨v1,rfl,⟨s,rfl,o1⟩,b1⟩
  obtain⟨A1,c1,rfl,_⟩:=Bo o1
  have x2:=x2.below b1 x2.lt
  have bb:=bw.trans (b1.mono bw.size)
  unfold gv
  obtain⟨j0,j1,j2,f0,f1,f2⟩:=x2.three
  have F:=hide (IG o1 x2 bb (show w.heap.size<=w.heap.size+1+1 by omega))
  have X2:=x2.Cq (.int .i64 GH.rows) (.int .i64 GH.AB) (.slice A1 (GH.rows*GH.AB) c1)
  obtain⟨i0',i1',i2',_⟩:=X2.three
  clear x0 x1 bw b1 C o1 bb X2 x2)
 refine bodyPost_ret (v:=.agg #[.int .i64 GH.rows,.int .i64 GH.AB,.slice A1 (GH.rows*GH.AB) c1]) (by simp [results,Tryz.results190,go_sem,i0',i1',i2']) rfl F.out
end Go.Proofs.YtoaabebgmdbjeaaGreatDoor
namespace Go.Proofs.YtoaabebgmdbjeaaGreatDoor
open Go.RowKit
theorem PG.JN {g:PG.Gr} {r c k:Int} {p:PG.Pn} (h: ¬((0<=r/\r<g.rows/\0<=c/\c<g.AB)/\0<=k/\k<=2)):PG.Bq g r c k p=g:=if_neg h
theorem PG.M8 {g:PG.Gr} {r c k:Int} {p:PG.Pn} (h: ¬((0<=r/\r<g.rows/\0<=c/\c<g.AB)/\0<=k/\k<=2)):PG.GD g r c k p=g:=if_neg h
theorem PG.dh {g:PG.Gr} {r c:Int} {p:PG.Pn} (hi:0<=r/\r<g.rows/\0<=c/\c<g.AB):PG.Bq g r c 0 p=PG.J9 g r c g.AB p:=by
 unfold PG.Bq PG.J9
 rw [if_pos ⟨hi,by decide,by decide⟩,if_pos hi.1,if_pos rfl,if_neg (by decide)]
 rw [show(max (c:Int) 0).toNat=c.toNat by omega,show(min (g.AB:Int) g.AB).toNat=g.AB by omega]
theorem PG.dw {g:PG.Gr} {r c:Int} {p:PG.Pn} (hi:0<=r/\r<g.rows/\0<=c/\c<g.AB):PG.Bq g r c 1 p=PG.J9 g r 0 (c+1) p:=by
 unfold PG.Bq PG.J9
 rw [if_pos ⟨hi,by decide,by decide⟩,if_pos hi.1,if_neg (by decide),if_pos rfl]
 rw [show(max (0:Int) 0).toNat=0 by omega,show(min ((c+1):Int) g.AB).toNat=c.toNat+1 by omega]
theorem PG.dx {g:PG.Gr} {r c:Int} {p:PG.Pn} (hi:0<=r/\r<g.rows/\0<=c/\c<g.AB):PG.Bq g r c 2 p=PG.J9 g r 0 g.AB p:=by
 unfold PG.Bq PG.J9
 rw [if_pos ⟨hi,by decide,by decide⟩,if_pos hi.1,if_neg (by decide),if_neg (by decide)]
 rw [show(max (0:Int) 0).toNat=0 by omega,show(min (g.AB:Int) g.AB).toNat=g.AB by omega]
theorem Kr {G:PG.Gr} {v:Value} {w:World} (hG:PG.BL G) (h:IsG w G v) (r c k:Int) (p:PG.Pn) (hr: -1000<=r/\r<=1000) (hc: -1000<=c/\c<=1000):Calls Tryz.prog 195 #[v,.int .i64 r,.int .i64 c,.int .i64 k,pv p] w (GR w (PG.Bq G r c k p)):=by
 have hIP:=fun w' (hb:Below w.heap.size w w') b hb'=>CW hG (h.low hb) r c b hb'
 have hcK:=hG.2.2.2.1
 obtain⟨A,cp,rfl,hl,h1,h2⟩:=h.open_
 clear hl h1 h2
 generalize G.rows*G.AB=n0 at*
 obtain⟨GH,hGH⟩: ∃GH,PG.Bq G r c k p=GH:=⟨_,rfl⟩
 rw [hGH]
 have hcon:=hide hGH
 by_cases hi: ¬(0<=r/\r<G.rows/\0<=c/\c<G.AB)
 ·have IP:=hide (fun w' hb=>hIP w' hb false (.inr ⟨rfl,hi⟩))
  have CN:=hide (fun w' (hb:Below w.heap.size w w')=>(show Calls Tryz.prog 179 #[gv G.rows G.AB (.slice A n0 cp)] w' (GR w' GH) by rw [<- hGH,PG.JN (by rintro ⟨x,_⟩;exact hi x)];exact VN hG (h.low hb)))
  unfold gv pv at*
  clear hIP hcon hG h hGH
  go_enter Tryz.func195,Tryz.ntmps195
  go_wp2_with (first
   | (go_at_call 180
      obtain⟨x0,x1,x2,bw⟩:=Ci (w:=w) (t0:=37) (t1:=38) (t2:=37) (cs:= #[.int .i64 G.rows,.int .i64 G.AB,.slice A n0 cp]) (ds:= #[.int .i64 p.1,.int .i64 p.2.1,.int .i64 p.2.2]) (es:= #[.int .i64 0,.int .i64 0,.slice none 0 0])
      go_must (refine(IP.out _ bw).mono ?_)
      rintro e w1 ⟨rfl,b1⟩
      have x0:=x0.below b1 x0.lt
      have x1:=x1.below b1 x1.lt
      have x2:=x2.below b1 x2.lt
      have bb:=bw.trans (b1.mono bw.size)
      obtain⟨s0,s1,s2,_⟩:=x0.three
      obtain⟨t0,t1,t2,_⟩:=x1.three
      clear b1 IP bw)
   | (go_at_call 179
      go_must (refine(CN.out _ bb).mono ?_)
      rintro e w2 ⟨s,rfl,o2,b2⟩
      obtain⟨A1,c1,rfl,_⟩:=Bo o2
      have x2:=x2.below b2 x2.lt
      have b3:=bb.trans (b2.mono bb.size)
      unfold gv
      obtain⟨j0,j1,j2,f0,f1,f2⟩:=x2.three
      have F:=hide (DW o2 bb.size x2 b3 (show w.heap.size<=w.heap.size+1+1 by omega))
      have X2:=x2.Cq (.int .i64 GH.rows) (.int .i64 GH.AB) (.slice A1 (GH.rows*GH.AB) c1)
      obtain⟨i0',i1',i2',_⟩:=X2.three
      clear b2 CN o2 X2 x2 bb b3))
  refine bodyPost_ret (v:=.agg #[.int .i64 GH.rows,.int .i64 GH.AB,.slice A1 (GH.rows*GH.AB) c1]) (by simp [results,Tryz.results195,go_sem,i0',i1',i2']) rfl F.out
 have hi:0<=r/\r<G.rows/\0<=c/\c<G.AB:=Classical.not_not.1 hi
 have IP:=hide (fun w' hb=>hIP w' hb true (.inl ⟨rfl,hi⟩))
 by_cases hk0:k=0
 ·subst hk0
  have CN:=hide (fun w' (hb:Below w.heap.size w w')=>(show Calls Tryz.prog 199 #[gv G.rows G.AB (.slice A n0 cp),.int .i64 r,.int .i64 c,.int .i64 G.AB,pv p] w' (GR w' GH) by
   rw [<- hGH,PG.dh hi]
   exact Tg hG (h.low hb) r c G.AB p (by omega) (by omega) (by omega)))
  unfold gv pv at*
  clear hIP hcon hG h hGH
  go_enter Tryz.func195,Tryz.ntmps195
  go_wp2_with (first
   | (go_at_call 180
      obtain⟨x0,x1,x2,bw⟩:=Ci (w:=w) (t0:=37) (t1:=38) (t2:=37) (cs:= #[.int .i64 G.rows,.int .i64 G.AB,.slice A n0 cp]) (ds:= #[.int .i64 p.1,.int .i64 p.2.1,.int .i64 p.2.2]) (es:= #[.int .i64 0,.int .i64 0,.slice none 0 0])
      go_must (refine(IP.out _ bw).mono ?_)
      rintro e w1 ⟨rfl,b1⟩
      have x0:=x0.below b1 x0.lt
      have x1:=x1.below b1 x1.lt
      have x2:=x2.below b1 x2.lt
      have bb:=bw.trans (b1.mono bw.size)
      obtain⟨s0,s1,s2,_⟩:=x0.three
      obtain⟨t0,t1,t2,_⟩:=x1.three
      clear b1 IP bw)
   | (go_at_call 199
      go_must (refine(CN.out _ bb).mono ?_)
      rintro e w2 ⟨s,rfl,o2,b2⟩
      obtain⟨A1,c1,rfl,_⟩:=Bo o2
      have x2:=x2.below b2 x2.lt
      have b3:=bb.trans (b2.mono bb.size)
      unfold gv
      obtain⟨j0,j1,j2,f0,f1,f2⟩:=x2.three
      have F:=hide (DW o2 bb.size x2 b3 (show w.heap.size<=w.heap.size+1+1 by omega))
      have X2:=x2.Cq (.int .i64 GH.rows) (.int .i64 GH.AB) (.slice A1 (GH.rows*GH.AB) c1)
      obtain⟨i0',i1',i2',_⟩:=X2.three
      clear b2 CN o2 X2 x2 bb b3))
  refine bodyPost_ret (v:=.agg #[.int .i64 GH.rows,.int .i64 GH.AB,.slice A1 (GH.rows*GH.AB) c1]) (by simp [results,Tryz.results195,go_sem,i0',i1',i2']) rfl F.out
 by_cases hk1:k=1
 ·subst hk1
  have CN:=hide (fun w' (hb:Below w.heap.size w w')=>(show Calls Tryz.prog 199 #[gv G.rows G.AB (.slice A n0 cp),.int .i64 r,.int .i64 0,.int .i64 (c+1),pv p] w' (GR w' GH) by
   rw [<- hGH,PG.dw hi]
   exact Tg hG (h.low hb) r 0 (c+1) p (by omega) (by omega) (by omega)))
  unfold gv pv at*
  clear hIP hcon hG h hGH
  go_enter Tryz.func195,Tryz.ntmps195
  go_wp2_with (first
   | (go_at_call 180
      obtain⟨x0,x1,x2,bw⟩:=Ci (w:=w) (t0:=37) (t1:=38) (t2:=37) (cs:= #[.int .i64 G.rows,.int .i64 G.AB,.slice A n0 cp]) (ds:= #[.int .i64 p.1,.int .i64 p.2.1,.int .i64 p.2.2]) (es:= #[.int .i64 0,.int .i64 0,.slice none 0 0])
      go_must (refine(IP.out _ bw).mono ?_)
      rintro e w1 ⟨rfl,b1⟩
      have x0:=x0.below b1 x0.lt
      have x1:=x1.below b1 x1.lt
      have x2:=x2.below b1 x2.lt
      have bb:=bw.trans (b1.mono bw.size)
      obtain⟨s0,s1,s2,_⟩:=x0.three
      obtain⟨t0,t1,t2,_⟩:=x1.three
      clear b1 IP bw)
   | (go_at_call 199
      go_must (refine(CN.out _ bb).mono ?_)
      rintro e w2 ⟨s,rfl,o2,b2⟩
      obtain⟨A1,c1,rfl,_⟩:=Bo o2
      have x2:=x2.below b2 x2.lt
      have b3:=bb.trans (b2.mono bb.size)
      unfold gv
      obtain⟨j0,j1,j2,f0,f1,f2⟩:=x2.three
      have F:=hide (DW o2 bb.size x2 b3 (show w.heap.size<=w.heap.size+1+1 by omega))
      have X2:=x2.Cq (.int .i64 GH.rows) (.int .i64 GH.AB) (.slice A1 (GH.rows*GH.AB) c1)
      obtain⟨i0',i1',i2',_⟩:=X2.three
      clear b2 CN o2 X2 x2 bb b3))
  refine bodyPost_ret (v:=.agg #[.int .i64 GH.rows,.int .i64 GH.AB,.slice A1 (GH.rows*GH.AB) c1]) (by simp [results,Tryz.results195,go_sem,i0',i1',i2']) rfl F.out
 by_cases hk2:k=2
 ·subst hk2
  have CN:=hide (fun w' (hb:Below w.heap.size w w')=>(show Calls Tryz.prog 199 #[gv G.rows G.AB (.slice A n0 cp),.int .i64 r,.int .i64 0,.int .i64 G.AB,pv p] w' (GR w' GH) by
   rw [<- hGH,PG.dx hi]
   exact Tg hG (h.low hb) r 0 G.AB p (by omega) (by omega) (by omega)))
  unfold gv pv at*
  clear hIP hcon hG h hGH
  go_enter Tryz.func195,Tryz.ntmps195
  go_wp2_with (first
   | (go_at_call 180
      obtain⟨x0,x1,x2,bw⟩:=Ci (w:=w) (t0:=37) (t1:=38) (t2:=37) (cs:= #[.int .i64 G.rows,.int .i64 G.AB,.slice A n0 cp]) (ds:= #[.int .i64 p.1,.int .i64 p.2.1,.int .i64 p.2.2]) (es:= #[.int .i64 0,.int .i64 0,.slice none 0 0])
      go_must (refine(IP.out _ bw).mono ?_)
      rintro e w1 ⟨rfl,b1⟩
      have x0:=x0.below b1 x0.lt
      have x1:=x1.below b1 x1.lt
      have x2:=x2.below b1 x2.lt
      have bb:=bw.trans (b1.mono bw.size)
      obtain⟨s0,s1,s2,_⟩:=x0.three
      obtain⟨t0,t1,t2,_⟩:=x1.three
      clear b1 IP bw)
   | (go_at_call 199
      go_must (refine(CN.out _ bb).mono ?_)
      rintro e w2 ⟨s,rfl,o2,b2⟩
      obtain⟨A1,c1,rfl,_⟩:=Bo o2
      have x2:=x2.below b2 x2.lt
      have b3:=bb.trans (b2.mono bb.size)
      unfold gv
      obtain⟨j0,j1,j2,f0,f1,f2⟩:=x2.three
      have F:=hide (DW o2 bb.size x2 b3 (show w.heap.size<=w.heap.size+1+1 by omega))
      have X2:=x2.Cq (.int .i64 GH.rows) (.int .i64 GH.AB) (.slice A1 (GH.rows*GH.AB) c1)
      obtain⟨i0',i1',i2',_⟩:=X2.three
      clear b2 CN o2 X2 x2 bb b3))
  refine bodyPost_ret (v:=.agg #[.int .i64 GH.rows,.int .i64 GH.AB,.slice A1 (GH.rows*GH.AB) c1]) (by simp [results,Tryz.results195,go_sem,i0',i1',i2']) rfl F.out
 have q0:(k==0)=false:=by simpa using hk0
 have q1:(k==1)=false:=by simpa using hk1
 have q2:(k==2)=false:=by simpa using hk2
 ·have CN:=hide (fun w' (hb:Below w.heap.size w w')=>(show Calls Tryz.prog 179 #[gv G.rows G.AB (.slice A n0 cp)] w' (GR w' GH) by rw [<- hGH,PG.JN (by rintro ⟨_,x1,x2⟩;omega)];exact VN hG (h.low hb)))
  unfold gv pv at*
  clear hIP hcon hG h hGH
  go_enter Tryz.func195,Tryz.ntmps195
  go_wp2_with (first
   | (go_at_call 180
      obtain⟨x0,x1,x2,bw⟩:=Ci (w:=w) (t0:=37) (t1:=38) (t2:=37) (cs:= #[.int .i64 G.rows,.int .i64 G.AB,.slice A n0 cp]) (ds:= #[.int .i64 p.1,.int .i64 p.2.1,.int .i64 p.2.2]) (es:= #[.int .i64 0,.int .i64 0,.slice none 0 0])
      go_must (refine(IP.out _ bw).mono ?_)
      rintro e w1 ⟨rfl,b1⟩
      have x0:=x0.below b1 x0.lt
      have x1:=x1.below b1 x1.lt
      have x2:=x2.below b1 x2.lt
      have bb:=bw.trans (b1.mono bw.size)
      obtain⟨s0,s1,s2,_⟩:=x0.three
      obtain⟨t0,t1,t2,_⟩:=x1.three
      clear b1 IP bw)
   | (go_at_call 179
      go_must (refine(CN.out _ bb).mono ?_)
      rintro e w2 ⟨s,rfl,o2,b2⟩
      obtain⟨A1,c1,rfl,_⟩:=Bo o2
      have x2:=x2.below b2 x2.lt
      have b3:=bb.trans (b2.mono bb.size)
      unfold gv
      obtain⟨j0,j1,j2,f0,f1,f2⟩:=x2.three
      have F:=hide (DW o2 bb.size x2 b3 (show w.heap.size<=w.heap.size+1+1 by omega))
      have X2:=x2.Cq (.int .i64 GH.rows) (.int .i64 GH.AB) (.slice A1 (GH.rows*GH.AB) c1)
      obtain⟨i0',i1',i2',_⟩:=X2.three
      clear b2 CN o2 X2 x2 bb b3))
  refine bodyPost_ret (v:=.agg #[.int .i64 GH.rows,.int .i64 GH.AB,.slice A1 (GH.rows*GH.AB) c1]) (by simp [results,Tryz.results195,go_sem,i0',i1',i2']) rfl F.out
end Go.Proofs.YtoaabebgmdbjeaaGreatDoor
namespace Go.Proofs.YtoaabebgmdbjeaaGreatDoor
open Go.RowKit
def EEr (w:World) (R K n cp:Nat) (A:Option Addr) (g cap gb:Nat) (p:PG.Pn) (l:List PG.Cl) (wx:World):Prop:=
 Box wx w.heap.size 37 #[.int .i64 R,.int .i64 K,.slice A n cp] /\Box wx (w.heap.size+1) 38 #[.int .i64 p.1,.int .i64 p.2.1,.int .i64 p.2.2] /\Box wx (w.heap.size+1+1) 37 #[.int .i64 0,.int .i64 0,.slice none 0 0] /\
 Box wx gb 37 #[.int .i64 R,.int .i64 K,.slice (some ⟨g,0,none⟩) n cap] /\w.heap.size+1+1<gb/\wx.ownsRow w.heap.size 66 5 (.slice (some ⟨g,0,none⟩) n cap) n (Ag l)/\Below w.heap.size w wx
section
variable {w wx wy:World} {R K n cp g cap gb:Nat} {A:Option Addr} {p:PG.Pn} {l l2:List PG.Cl}
theorem EEr.call (h:EEr w R K n cp A g cap gb p l wx) (b:Below wx.heap.size wx wy):EEr w R K n cp A g cap gb p l wy:=
 ⟨h.1.below b h.1.lt,h.2.1.below b h.2.1.lt,h.2.2.1.below b h.2.2.1.lt,h.2.2.2.1.below b h.2.2.2.1.lt,h.2.2.2.2.1,h.2.2.2.2.2.1.kept (BS b none) (by simp [Value.ownBlock]),h.2.2.2.2.2.2.trans (b.mono h.2.2.2.2.2.2.size)⟩
theorem EEr.drew (h:EEr w R K n cp A g cap gb p l wx):EEr w R K n cp A g cap gb p l wx.drew:=⟨h.1.drew,h.2.1.drew,h.2.2.1.drew,h.2.2.2.1.drew,h.2.2.2.2.1,h.2.2.2.2.2.1,h.2.2.2.2.2.2.drew⟩
theorem EEr.wrote (h:EEr w R K n cp A g cap gb p l wx) (o:wy.ownsRow w.heap.size 66 5 (.slice (some ⟨g,0,none⟩) n cap) n (Ag l2)) (k:Kept [some g] wx wy):EEr w R K n cp A g cap gb p l2 wy:=by
 have ho:=h.2.2.2.2.2.1
 have hb:=h.2.2.2.2.2.2
 have n0:=Ac ho h.1 (by decide)
 have n1:=Ac ho h.2.1 (by decide)
 have n2:=Ac ho h.2.2.1 (by decide)
 have n3:=Ac ho h.2.2.2.1 (by decide)
 have lt:=(ho.lt g rfl).1
 have hn: ∀q,(Value.slice (some ⟨g,0,none⟩) n cap).ownBlock≠some q->some q∉ [some g] :=fun q hq hm=>hq (by
  simp only [List.mem_singleton,Option.some.injEq] at hm
  rw [hm]
  rfl)
 exact⟨h.1.kept k (hn _ n0),h.2.1.kept k (hn _ n1),h.2.2.1.kept k (hn _ n2),h.2.2.2.1.kept k (hn _ n3),h.2.2.2.2.1,o,hb.trans (k.toBelow hb.size (fun q hq=>by simp at hq;omega))⟩
end
namespace PG
theorem dz {g:Gr} {r c:Nat} {p:Pn} (hr:r<g.rows):spl (cells (DL g r c g.AB p)) ((r+1)*g.AB) (List.replicate ((g.rows-(r+1))*g.AB) (blank p))=cells (CQ g r c 0 p):=by
 have hs:=DI g r c g.AB p
 have e:=M7 (g:=DL g r c g.AB p) (t:=r+1) (b:=g.rows) (p:=p) (by omega) (by rw [hs.1];exact Nat.le_refl _)
 rw [hs.2,hs.1] at e
 rw [e]
 refine DJ ⟨rfl,rfl,fun i j hi hj=>?_⟩
 have hi:i<g.rows:=hi
 unfold CQ DL
 rw [if_pos hr]
 show(if r+1<=i/\i<g.rows then blank p else if i=r then mend (FU (g.f r) c g.AB p) g.AB j else g.f i j)=if (0:Nat)=2\/(0:Nat)=0/\r<i\/(0:Nat)=1/\i<r then blank p else if i=r then mend (FU (g.f r) (if (0:Nat)=0 then c else 0) (if (0:Nat)=1 then c+1 else g.AB) p) g.AB j else g.f i j
 by_cases h:r<i
 ·rw [if_pos (by omega),if_pos (by omega)]
 ·rw [if_neg (show¬(r+1<=i/\i<g.rows) by omega),if_neg (show¬((0:Nat)=2\/(0:Nat)=0/\r<i\/(0:Nat)=1/\i<r) by omega)]
  rfl
theorem d9 {g:Gr} {r c:Nat} {p:Pn} (hr:r<g.rows):spl (cells (DL g r 0 (c+1) p)) 0 (List.replicate (r*g.AB) (blank p))=cells (CQ g r c 1 p):=by
 have hs:=DI g r 0 (c+1) p
 have e:=M7 (g:=DL g r 0 (c+1) p) (t:=0) (b:=r) (p:=p) (by omega) (by rw [hs.1];omega)
 rw [hs.2,hs.1,Nat.zero_mul,Nat.sub_zero] at e
 rw [e]
 refine DJ ⟨rfl,rfl,fun i j hi hj=>?_⟩
 unfold CQ DL
 rw [if_pos hr]
 show(if 0<=i/\i<r then blank p else if i=r then mend (FU (g.f r) 0 (c+1) p) g.AB j else g.f i j)=if (1:Nat)=2\/(1:Nat)=0/\r<i\/(1:Nat)=1/\i<r then blank p else if i=r then mend (FU (g.f r) (if (1:Nat)=0 then c else 0) (if (1:Nat)=1 then c+1 else g.AB) p) g.AB j else g.f i j
 by_cases h:i<r
 ·rw [if_pos (by omega),if_pos (by omega)]
 ·rw [if_neg (show¬(0<=i/\i<r) by omega),if_neg (show¬((1:Nat)=2\/(1:Nat)=0/\r<i\/(1:Nat)=1/\i<r) by omega)]
  rfl
theorem eB {g:Gr} {r c:Nat} {p:Pn} (l:List Cl) (hl:l.length=g.rows*g.AB):spl l 0 (List.replicate (g.rows*g.AB) (blank p))=cells (CQ g r c 2 p):=by
 rw [U2 (by rw [List.length_replicate,hl]),OP]
 exact(DJ (WS g r c p)).symm
theorem FC (g:Gr) (r c k:Int) (p:Pn):(Bq g r c k p).rows=g.rows/\(Bq g r c k p).AB=g.AB:=Ji g r c k p
end PG
theorem RH {G:PG.Gr} {v:Value} {w:World} (hG:PG.BL G) (h:IsG w G v) (r c k:Int) (p:PG.Pn) (hr: -1000<=r/\r<=1000) (hc: -1000<=c/\c<=1000) (hi: ¬(0<=r/\r<G.rows/\0<=c/\c<G.AB)):Calls Tryz.prog 193 #[v,.int .i64 r,.int .i64 c,.int .i64 k,pv p] w (GR w (PG.Bq G r c k p)):=by
 have hR:=hG.2.1
 have hK:=hG.2.2.2.1
 have hK0:=hG.2.2.1
 have h24:=size_le hG
 have hnn:0*G.AB+0<G.rows*G.AB:=PG.Ca hG.1 hG.2.2.1
 have hIP:=fun w' (hb:Below w.heap.size w w')=>CW hG (h.low hb) r c false (.inr ⟨rfl,hi⟩)
 have HS:=hide (show(PG.Bq G r c k p).rows=G.rows/\(PG.Bq G r c k p).AB=G.AB from PG.FC G r c k p)
 have HL:=hide (PG.FC G r c k p)
 have hCN:=fun w' (hb:Below w.heap.size w w')=>(Kr hG (h.low hb) r c k p (by omega) (by omega)).mono (R':=fun e w''=> ∃g cap,e=.returned (gv G.rows G.AB (.slice (some ⟨g,0,none⟩) (G.rows*G.AB) cap))/\G.rows*G.AB<=cap/\cap<=maxLen/\w''.ownsRow w'.heap.size 66 5 (.slice (some ⟨g,0,none⟩) (G.rows*G.AB) cap) (G.rows*G.AB) (Ag (PG.cells (PG.Bq G r c k p)))/\Below w'.heap.size w' w'') (fun e w'' hm=>by
  obtain⟨s,rfl,o,b⟩:=hm
  rw [HL.out.1,HL.out.2] at o
  obtain⟨g,cap,rfl,hgb,hnc,hcm⟩:=GA o (by omega)
  rw [HL.out.1,HL.out.2]
  exact⟨g,cap,rfl,hnc,hcm,o,b⟩)
 have GOT: ∀(g cap n gb:Nat) (cp:Nat) (A:Option Addr) (w3:World),n=G.rows*G.AB->EEr w G.rows G.AB n cp A g cap gb p (PG.cells (PG.Bq G r c k p)) w3->GR w (PG.Bq G r c k p) (.returned (gv G.rows G.AB (.slice (some ⟨g,0,none⟩) n cap))) (((w3.setCell ⟨w.heap.size+1+1,0,none⟩ (.int .i64 G.rows)).setCell ⟨w.heap.size+1+1,1,none⟩ (.int .i64 G.AB)).setCell ⟨w.heap.size+1+1,2,none⟩ (.slice (some ⟨g,0,none⟩) n cap)):=fun g cap n gb cp A w3 hn H=>by
  have F:=DW (w:=w) (H:=PG.Bq G r c k p) (A:=some ⟨g,0,none⟩) (n:=n) (c:=cap) (B:=w.heap.size) (by rw [HS.out.1,HS.out.2, <- hn];exact H.2.2.2.2.2.1) (Nat.le_refl _) H.2.2.1 H.2.2.2.2.2.2 (show w.heap.size<=w.heap.size+1+1 by omega)
  rw [HS.out.1,HS.out.2] at F
  exact F
 obtain⟨A,cp,rfl,hl,h1,h2⟩:=h.open_
 generalize PG.cells (PG.Bq G r c k p)=l1 at*
 obtain⟨l2,hl2⟩: ∃l2,l2=l1:=⟨_,rfl⟩
 clear hl h1 h2 h
 have IP:=hide hIP
 have CN:=hide hCN
 clear hIP hCN
 have GOT:=hide (fun g cap gb cp A w3=>GOT g cap _ gb cp A w3 rfl)
 generalize G.rows*G.AB=n at*
 unfold gv pv at*
 go_enter Tryz.func193,Tryz.ntmps193
 go_upto_region 2 with (
   go_at_call 195
   obtain⟨x0,x1,x2,bw⟩:=Ci (w:=w) (t0:=37) (t1:=38) (t2:=37) (cs:= #[.int .i64 G.rows,.int .i64 G.AB,.slice A n cp]) (ds:= #[.int .i64 p.1,.int .i64 p.2.1,.int .i64 p.2.2]) (es:= #[.int .i64 0,.int .i64 0,.slice none 0 0])
   go_must (refine(CN.out _ bw).mono ?_)
   rintro e w1 ⟨g,cap,rfl,hnc,hcm,o1,b1⟩
   have sz:w.heap.size+1+1<w1.heap.size:=Nat.lt_of_lt_of_le x2.lt b1.size
   have H:=hide (show EEr w G.rows G.AB n cp A g cap w1.heap.size p l1 (w1.alloc (.cells #[.int .i64 G.rows,.int .i64 G.AB,.slice (some ⟨g,0,none⟩) n cap] 37)) from
    ⟨(x0.below b1 x0.lt).alloc _,(x1.below b1 x1.lt).alloc _,(x2.below b1 x2.lt).alloc _,Box.new w1 _ _,sz,D6 (own_base' o1 bw.size) _,(bw.trans (b1.mono bw.size)).alloc (Nat.le_trans bw.size b1.size) _⟩)
   clear x0 x1 x2 bw b1 o1 CN)
 generalize w1.alloc (.cells #[.int .i64 G.rows,.int .i64 G.AB,.slice (some ⟨g,0,none⟩) n cap] 37)=w2 at*
 generalize w1.heap.size=gb at*
 have hsz:=H.out.2.2.2.2.1
 obtain⟨s0,s1,s2,_⟩:=H.out.1.three
 subst hl2
 go_wp2_with (
      go_at_call 180
      go_must (refine(IP.out _ H.out.2.2.2.2.2.2).mono ?_)
      rintro e w3 ⟨rfl,b3⟩
      have H:=hide (H.out.call b3)
      obtain⟨a0,a1,a2,a3,a4,a5⟩:=H.out.2.2.2.1.three
      obtain⟨j0,j1,j2,f0,f1,f2⟩:=H.out.2.2.1.three
      obtain⟨s0,s1,s2,_⟩:=H.out.1.three
      obtain⟨t0,t1,t2,_⟩:=H.out.2.1.three
      clear b3 IP)
 have X2:=H.out.2.2.1.Cq (.int .i64 G.rows) (.int .i64 G.AB) (.slice (some ⟨g,0,none⟩) n cap)
 obtain⟨i0',i1',i2',_⟩:=X2.three
 refine bodyPost_ret (v:=.agg #[.int .i64 G.rows,.int .i64 G.AB,.slice (some ⟨g,0,none⟩) n cap]) (by simp [results,Tryz.results193,go_sem,i0',i1',i2']) rfl (GOT.out g cap gb cp A _ H.out)
theorem Tj {G:PG.Gr} {v:Value} {w:World} (hG:PG.BL G) (h:IsG w G v) (r c k:Int) (p:PG.Pn) (hr: -1000<=r/\r<=1000) (hc: -1000<=c/\c<=1000) (hi:0<=r/\r<G.rows/\0<=c/\c<G.AB) (hk: ¬(0<=k/\k<=2)):Calls Tryz.prog 193 #[v,.int .i64 r,.int .i64 c,.int .i64 k,pv p] w (GR w (PG.Bq G r c k p)):=by
 have hR:=hG.2.1
 have hK:=hG.2.2.2.1
 have hK0:=hG.2.2.1
 have h24:=size_le hG
 have hnn:0*G.AB+0<G.rows*G.AB:=PG.Ca hG.1 hG.2.2.1
 have hIP:=fun w' (hb:Below w.heap.size w w')=>CW hG (h.low hb) r c true (.inl ⟨rfl,hi⟩)
 have HS:=hide (show(PG.Bq G r c k p).rows=G.rows/\(PG.Bq G r c k p).AB=G.AB from PG.FC G r c k p)
 have HL:=hide (PG.FC G r c k p)
 have hCN:=fun w' (hb:Below w.heap.size w w')=>(Kr hG (h.low hb) r c k p (by omega) (by omega)).mono (R':=fun e w''=> ∃g cap,e=.returned (gv G.rows G.AB (.slice (some ⟨g,0,none⟩) (G.rows*G.AB) cap))/\G.rows*G.AB<=cap/\cap<=maxLen/\w''.ownsRow w'.heap.size 66 5 (.slice (some ⟨g,0,none⟩) (G.rows*G.AB) cap) (G.rows*G.AB) (Ag (PG.cells (PG.Bq G r c k p)))/\Below w'.heap.size w' w'') (fun e w'' hm=>by
  obtain⟨s,rfl,o,b⟩:=hm
  rw [HL.out.1,HL.out.2] at o
  obtain⟨g,cap,rfl,hgb,hnc,hcm⟩:=GA o (by omega)
  rw [HL.out.1,HL.out.2]
  exact⟨g,cap,rfl,hnc,hcm,o,b⟩)
 have GOT: ∀(g cap n gb:Nat) (cp:Nat) (A:Option Addr) (w3:World),n=G.rows*G.AB->EEr w G.rows G.AB n cp A g cap gb p (PG.cells (PG.Bq G r c k p)) w3->GR w (PG.Bq G r c k p) (.returned (gv G.rows G.AB (.slice (some ⟨g,0,none⟩) n cap))) (((w3.setCell ⟨w.heap.size+1+1,0,none⟩ (.int .i64 G.rows)).setCell ⟨w.heap.size+1+1,1,none⟩ (.int .i64 G.AB)).setCell ⟨w.heap.size+1+1,2,none⟩ (.slice (some ⟨g,0,none⟩) n cap)):=fun g cap n gb cp A w3 hn H=>by
  have F:=DW (w:=w) (H:=PG.Bq G r c k p) (A:=some ⟨g,0,none⟩) (n:=n) (c:=cap) (B:=w.heap.size) (by rw [HS.out.1,HS.out.2, <- hn];exact H.2.2.2.2.2.1) (Nat.le_refl _) H.2.2.1 H.2.2.2.2.2.2 (show w.heap.size<=w.heap.size+1+1 by omega)
  rw [HS.out.1,HS.out.2] at F
  exact F
 obtain⟨A,cp,rfl,hl,h1,h2⟩:=h.open_
 generalize PG.cells (PG.Bq G r c k p)=l1 at*
 obtain⟨l2,hl2⟩: ∃l2,l2=l1:=⟨_,rfl⟩
 clear hl h1 h2 h
 have IP:=hide hIP
 have CN:=hide hCN
 clear hIP hCN
 have GOT:=hide (fun g cap gb cp A w3=>GOT g cap _ gb cp A w3 rfl)
 generalize G.rows*G.AB=n at*
 unfold gv pv at*
 go_enter Tryz.func193,Tryz.ntmps193
 go_upto_region 2 with (
   go_at_call 195
   obtain⟨x0,x1,x2,bw⟩:=Ci (w:=w) (t0:=37) (t1:=38) (t2:=37) (cs:= #[.int .i64 G.rows,.int .i64 G.AB,.slice A n cp]) (ds:= #[.int .i64 p.1,.int .i64 p.2.1,.int .i64 p.2.2]) (es:= #[.int .i64 0,.int .i64 0,.slice none 0 0])
   go_must (refine(CN.out _ bw).mono ?_)
   rintro e w1 ⟨g,cap,rfl,hnc,hcm,o1,b1⟩
   have sz:w.heap.size+1+1<w1.heap.size:=Nat.lt_of_lt_of_le x2.lt b1.size
   have H:=hide (show EEr w G.rows G.AB n cp A g cap w1.heap.size p l1 (w1.alloc (.cells #[.int .i64 G.rows,.int .i64 G.AB,.slice (some ⟨g,0,none⟩) n cap] 37)) from
    ⟨(x0.below b1 x0.lt).alloc _,(x1.below b1 x1.lt).alloc _,(x2.below b1 x2.lt).alloc _,Box.new w1 _ _,sz,D6 (own_base' o1 bw.size) _,(bw.trans (b1.mono bw.size)).alloc (Nat.le_trans bw.size b1.size) _⟩)
   clear x0 x1 x2 bw b1 o1 CN)
 generalize w1.alloc (.cells #[.int .i64 G.rows,.int .i64 G.AB,.slice (some ⟨g,0,none⟩) n cap] 37)=w2 at*
 generalize w1.heap.size=gb at*
 have hsz:=H.out.2.2.2.2.1
 obtain⟨s0,s1,s2,_⟩:=H.out.1.three
 subst hl2
 have k0:(k==0)=false:=by simp;omega
 have k1:(k==1)=false:=by simp;omega
 have k2:(k==2)=false:=by simp;omega
 clear hk
 go_wp2_with (
      go_at_call 180
      go_must (refine(IP.out _ H.out.2.2.2.2.2.2).mono ?_)
      rintro e w3 ⟨rfl,b3⟩
      have H:=hide (H.out.call b3)
      obtain⟨a0,a1,a2,a3,a4,a5⟩:=H.out.2.2.2.1.three
      obtain⟨j0,j1,j2,f0,f1,f2⟩:=H.out.2.2.1.three
      obtain⟨s0,s1,s2,_⟩:=H.out.1.three
      obtain⟨t0,t1,t2,_⟩:=H.out.2.1.three
      clear b3 IP)
 have X2:=H.out.2.2.1.Cq (.int .i64 G.rows) (.int .i64 G.AB) (.slice (some ⟨g,0,none⟩) n cap)
 obtain⟨i0',i1',i2',_⟩:=X2.three
 refine bodyPost_ret (v:=.agg #[.int .i64 G.rows,.int .i64 G.AB,.slice (some ⟨g,0,none⟩) n cap]) (by simp [results,Tryz.results193,go_sem,i0',i1',i2']) rfl (GOT.out g cap gb cp A _ H.out)
theorem Wx {G:PG.Gr} {v:Value} {w:World} (hG:PG.BL G) (h:IsG w G v) (r c:Nat) (p:PG.Pn) (hr:r<G.rows) (hc:c<G.AB):Calls Tryz.prog 193 #[v,.int .i64 r,.int .i64 c,.int .i64 2,pv p] w (GR w (PG.CQ G r c 2 p)):=by
 have hR:=hG.2.1
 have hK:=hG.2.2.2.1
 have hK0:=hG.2.2.1
 have h24:=size_le hG
 have hnn:0*G.AB+0<G.rows*G.AB:=PG.Ca hG.1 hG.2.2.1
 have hIP:=fun w' (hb:Below w.heap.size w w')=>CW hG (h.low hb) r c true (.inl ⟨rfl,by omega,by omega,by omega,by omega⟩)
 have HS:=hide (show(PG.CQ G r c 2 p).rows=G.rows/\(PG.CQ G r c 2 p).AB=G.AB from⟨rfl,rfl⟩)
 have HL:=hide (PG.FC G r c 2 p)
 have hCN:=fun w' (hb:Below w.heap.size w w')=>(Kr hG (h.low hb) r c 2 p (by omega) (by omega)).mono (R':=fun e w''=> ∃g cap,e=.returned (gv G.rows G.AB (.slice (some ⟨g,0,none⟩) (G.rows*G.AB) cap))/\G.rows*G.AB<=cap/\cap<=maxLen/\w''.ownsRow w'.heap.size 66 5 (.slice (some ⟨g,0,none⟩) (G.rows*G.AB) cap) (G.rows*G.AB) (Ag (PG.cells (PG.Bq G r c 2 p)))/\Below w'.heap.size w' w'') (fun e w'' hm=>by
  obtain⟨s,rfl,o,b⟩:=hm
  rw [HL.out.1,HL.out.2] at o
  obtain⟨g,cap,rfl,hgb,hnc,hcm⟩:=GA o (by omega)
  rw [HL.out.1,HL.out.2]
  exact⟨g,cap,rfl,hnc,hcm,o,b⟩)
 have GOT: ∀(g cap n gb:Nat) (cp:Nat) (A:Option Addr) (w3:World),n=G.rows*G.AB->EEr w G.rows G.AB n cp A g cap gb p (PG.cells (PG.CQ G r c 2 p)) w3->GR w (PG.CQ G r c 2 p) (.returned (gv G.rows G.AB (.slice (some ⟨g,0,none⟩) n cap))) (((w3.setCell ⟨w.heap.size+1+1,0,none⟩ (.int .i64 G.rows)).setCell ⟨w.heap.size+1+1,1,none⟩ (.int .i64 G.AB)).setCell ⟨w.heap.size+1+1,2,none⟩ (.slice (some ⟨g,0,none⟩) n cap)):=fun g cap n gb cp A w3 hn H=>by
  have F:=DW (w:=w) (H:=PG.CQ G r c 2 p) (A:=some ⟨g,0,none⟩) (n:=n) (c:=cap) (B:=w.heap.size) (by rw [HS.out.1,HS.out.2, <- hn];exact H.2.2.2.2.2.1) (Nat.le_refl _) H.2.2.1 H.2.2.2.2.2.2 (show w.heap.size<=w.heap.size+1+1 by omega)
  rw [HS.out.1,HS.out.2] at F
  exact F
 obtain⟨A,cp,rfl,hl,h1,h2⟩:=h.open_
 have e2:=PG.eB (g:=G) (r:=r) (c:=c) (p:=p) (PG.cells (PG.Bq G r c 2 p)) (by rw [PG.BH,HL.out.1,HL.out.2])
 generalize PG.cells (PG.Bq G r c 2 p)=l1 at*
 generalize PG.cells (PG.CQ G r c 2 p)=l2 at*
 clear hl h1 h2 h
 have IP:=hide hIP
 have CN:=hide hCN
 clear hIP hCN
 have GOT:=hide (fun g cap gb cp A w3=>GOT g cap _ gb cp A w3 rfl)
 generalize G.rows*G.AB=n at*
 unfold gv pv at*
 go_enter Tryz.func193,Tryz.ntmps193
 go_upto_region 2 with (
   go_at_call 195
   obtain⟨x0,x1,x2,bw⟩:=Ci (w:=w) (t0:=37) (t1:=38) (t2:=37) (cs:= #[.int .i64 G.rows,.int .i64 G.AB,.slice A n cp]) (ds:= #[.int .i64 p.1,.int .i64 p.2.1,.int .i64 p.2.2]) (es:= #[.int .i64 0,.int .i64 0,.slice none 0 0])
   go_must (refine(CN.out _ bw).mono ?_)
   rintro e w1 ⟨g,cap,rfl,hnc,hcm,o1,b1⟩
   have sz:w.heap.size+1+1<w1.heap.size:=Nat.lt_of_lt_of_le x2.lt b1.size
   have H:=hide (show EEr w G.rows G.AB n cp A g cap w1.heap.size p l1 (w1.alloc (.cells #[.int .i64 G.rows,.int .i64 G.AB,.slice (some ⟨g,0,none⟩) n cap] 37)) from
    ⟨(x0.below b1 x0.lt).alloc _,(x1.below b1 x1.lt).alloc _,(x2.below b1 x2.lt).alloc _,Box.new w1 _ _,sz,D6 (own_base' o1 bw.size) _,(bw.trans (b1.mono bw.size)).alloc (Nat.le_trans bw.size b1.size) _⟩)
   clear x0 x1 x2 bw b1 o1 CN)
 generalize w1.alloc (.cells #[.int .i64 G.rows,.int .i64 G.AB,.slice (some ⟨g,0,none⟩) n cap] 37)=w2 at*
 generalize w1.heap.size=gb at*
 have hsz:=H.out.2.2.2.2.1
 obtain⟨s0,s1,s2,_⟩:=H.out.1.three
 have EB:=hide (fun cp' w' (ho:w'.ownsRow w.heap.size 66 5 (.slice (some ⟨g,0,none⟩) n cap) n (Ag l1))=>(show Calls Tryz.prog 183 #[.slice (some ⟨g,0,none⟩) n cp',.agg #[.int .i64 p.1,.int .i64 p.2.1,.int .i64 p.2.2]] w' fun e w''=>e=.returned (.tuple #[])/\w''.ownsRow w.heap.size 66 5 (.slice (some ⟨g,0,none⟩) n cap) n (Ag l2)/\Kept [some g] w' w'' by
  have h:=GN 0 n cp' n cap g w.heap.size (some ⟨g,0,none⟩) l1 p w' ho (by omega) (by omega) (fun _=>rfl)
  rw [e2] at h
  exact h))
 go_wp2_with (first
  | (go_at_call 180
     go_must (refine(IP.out _ H.out.2.2.2.2.2.2).mono ?_)
     rintro e w3 ⟨rfl,b3⟩
     have H:=hide (H.out.call b3)
     obtain⟨a0,a1,a2,a3,a4,a5⟩:=H.out.2.2.2.1.three
     obtain⟨j0,j1,j2,f0,f1,f2⟩:=H.out.2.2.1.three
     obtain⟨s0,s1,s2,_⟩:=H.out.1.three
     obtain⟨t0,t1,t2,_⟩:=H.out.2.1.three
     clear b3 IP)
  | (go_at_call 183
     go_must (refine(EB.out _ _ H.out.2.2.2.2.2.1).mono ?_)
     rintro e w4 ⟨rfl,o4,k4⟩
     have H:=hide (H.out.wrote o4 k4)
     obtain⟨a0,a1,a2,a3,a4,a5⟩:=H.out.2.2.2.1.three
     obtain⟨j0,j1,j2,f0,f1,f2⟩:=H.out.2.2.1.three
     clear o4 k4 EB))
 have X2:=H.out.2.2.1.Cq (.int .i64 G.rows) (.int .i64 G.AB) (.slice (some ⟨g,0,none⟩) n cap)
 obtain⟨i0',i1',i2',_⟩:=X2.three
 refine bodyPost_ret (v:=.agg #[.int .i64 G.rows,.int .i64 G.AB,.slice (some ⟨g,0,none⟩) n cap]) (by simp [results,Tryz.results193,go_sem,i0',i1',i2']) rfl (GOT.out g cap gb cp A _ H.out)
theorem Wy {G:PG.Gr} {v:Value} {w:World} (hG:PG.BL G) (h:IsG w G v) (r c:Nat) (p:PG.Pn) (hr:r<G.rows) (hc:c<G.AB):Calls Tryz.prog 193 #[v,.int .i64 r,.int .i64 c,.int .i64 0,pv p] w (GR w (PG.CQ G r c 0 p)):=by
 have hR:=hG.2.1
 have hK:=hG.2.2.2.1
 have hK0:=hG.2.2.1
 have h24:=size_le hG
 have hnn:0*G.AB+0<G.rows*G.AB:=PG.Ca hG.1 hG.2.2.1
 have hIP:=fun w' (hb:Below w.heap.size w w')=>CW hG (h.low hb) r c true (.inl ⟨rfl,by omega,by omega,by omega,by omega⟩)
 have HS:=hide (show(PG.CQ G r c 0 p).rows=G.rows/\(PG.CQ G r c 0 p).AB=G.AB from⟨rfl,rfl⟩)
 have HL:=hide (PG.FC G r c 0 p)
 have hCN:=fun w' (hb:Below w.heap.size w w')=>(Kr hG (h.low hb) r c 0 p (by omega) (by omega)).mono (R':=fun e w''=> ∃g cap,e=.returned (gv G.rows G.AB (.slice (some ⟨g,0,none⟩) (G.rows*G.AB) cap))/\G.rows*G.AB<=cap/\cap<=maxLen/\w''.ownsRow w'.heap.size 66 5 (.slice (some ⟨g,0,none⟩) (G.rows*G.AB) cap) (G.rows*G.AB) (Ag (PG.cells (PG.Bq G r c 0 p)))/\Below w'.heap.size w' w'') (fun e w'' hm=>by
  obtain⟨s,rfl,o,b⟩:=hm
  rw [HL.out.1,HL.out.2] at o
  obtain⟨g,cap,rfl,hgb,hnc,hcm⟩:=GA o (by omega)
  rw [HL.out.1,HL.out.2]
  exact⟨g,cap,rfl,hnc,hcm,o,b⟩)
 have GOT: ∀(g cap n gb:Nat) (cp:Nat) (A:Option Addr) (w3:World),n=G.rows*G.AB->EEr w G.rows G.AB n cp A g cap gb p (PG.cells (PG.CQ G r c 0 p)) w3->GR w (PG.CQ G r c 0 p) (.returned (gv G.rows G.AB (.slice (some ⟨g,0,none⟩) n cap))) (((w3.setCell ⟨w.heap.size+1+1,0,none⟩ (.int .i64 G.rows)).setCell ⟨w.heap.size+1+1,1,none⟩ (.int .i64 G.AB)).setCell ⟨w.heap.size+1+1,2,none⟩ (.slice (some ⟨g,0,none⟩) n cap)):=fun g cap n gb cp A w3 hn H=>by
  have F:=DW (w:=w) (H:=PG.CQ G r c 0 p) (A:=some ⟨g,0,none⟩) (n:=n) (c:=cap) (B:=w.heap.size) (by rw [HS.out.1,HS.out.2, <- hn];exact H.2.2.2.2.2.1) (Nat.le_refl _) H.2.2.1 H.2.2.2.2.2.2 (show w.heap.size<=w.heap.size+1+1 by omega)
  rw [HS.out.1,HS.out.2] at F
  exact F
 obtain⟨A,cp,rfl,hl,h1,h2⟩:=h.open_
 have e2:=PG.dz (g:=G) (r:=r) (c:=c) (p:=p) hr
 have eL:PG.cells (PG.Bq G r c 0 p)=PG.cells (PG.DL G r c G.AB p):=by
  unfold PG.Bq
  rw [if_pos ⟨⟨by omega,by omega,by omega,by omega⟩,by decide,by decide⟩]
  rfl
 rw [<- eL] at e2
 have hle:(r+1)*G.AB+(G.rows-(r+1))*G.AB=G.rows*G.AB:=by rw [<- Nat.add_mul];congr 1;omega
 have hle2:G.rows*G.AB<=G.rows*G.AB:=Nat.le_refl _
 have RW:=fun g cap (h1:G.rows*G.AB<=cap) (h2:cap<=maxLen) wx=>(show Calls Tryz.prog 181 #[gv G.rows G.AB (.slice (some ⟨g,0,none⟩) (G.rows*G.AB) cap),.int .i64 ((r:Int)+1),.int .i64 G.rows] wx fun e w'=>e=.returned (LQ g ((r+1)*G.AB) ((G.rows-(r+1))*G.AB) cap)/\Below wx.heap.size wx w' from
  Kq G.rows G.AB (G.rows*G.AB) cap g (r+1) G.rows ((r+1)*G.AB) ((G.rows-(r+1))*G.AB) wx rfl hle rfl (Nat.le_refl _) hR hK h1 h2)
 generalize PG.cells (PG.Bq G r c 0 p)=l1 at*
 generalize PG.cells (PG.CQ G r c 0 p)=l2 at*
 clear hl h1 h2 h
 have IP:=hide hIP
 have CN:=hide hCN
 clear hIP hCN
 have GOT:=hide (fun g cap gb cp A w3=>GOT g cap _ gb cp A w3 rfl)
 generalize G.rows*G.AB=n at*
 unfold gv pv at*
 go_enter Tryz.func193,Tryz.ntmps193
 go_upto_region 2 with (
   go_at_call 195
   obtain⟨x0,x1,x2,bw⟩:=Ci (w:=w) (t0:=37) (t1:=38) (t2:=37) (cs:= #[.int .i64 G.rows,.int .i64 G.AB,.slice A n cp]) (ds:= #[.int .i64 p.1,.int .i64 p.2.1,.int .i64 p.2.2]) (es:= #[.int .i64 0,.int .i64 0,.slice none 0 0])
   go_must (refine(CN.out _ bw).mono ?_)
   rintro e w1 ⟨g,cap,rfl,hnc,hcm,o1,b1⟩
   have sz:w.heap.size+1+1<w1.heap.size:=Nat.lt_of_lt_of_le x2.lt b1.size
   have H:=hide (show EEr w G.rows G.AB n cp A g cap w1.heap.size p l1 (w1.alloc (.cells #[.int .i64 G.rows,.int .i64 G.AB,.slice (some ⟨g,0,none⟩) n cap] 37)) from
    ⟨(x0.below b1 x0.lt).alloc _,(x1.below b1 x1.lt).alloc _,(x2.below b1 x2.lt).alloc _,Box.new w1 _ _,sz,D6 (own_base' o1 bw.size) _,(bw.trans (b1.mono bw.size)).alloc (Nat.le_trans bw.size b1.size) _⟩)
   clear x0 x1 x2 bw b1 o1 CN)
 generalize w1.alloc (.cells #[.int .i64 G.rows,.int .i64 G.AB,.slice (some ⟨g,0,none⟩) n cap] 37)=w2 at*
 generalize w1.heap.size=gb at*
 have hsz:=H.out.2.2.2.2.1
 obtain⟨s0,s1,s2,_⟩:=H.out.1.three
 go_upto_region 6 with (
      go_at_call 180
      go_must (refine(IP.out _ H.out.2.2.2.2.2.2).mono ?_)
      rintro e w3 ⟨rfl,b3⟩
      have H:=hide (H.out.call b3)
      obtain⟨a0,a1,a2,a3,a4,a5⟩:=H.out.2.2.2.1.three
      obtain⟨j0,j1,j2,f0,f1,f2⟩:=H.out.2.2.1.three
      obtain⟨s0,s1,s2,_⟩:=H.out.1.three
      obtain⟨t0,t1,t2,_⟩:=H.out.2.1.three
      clear b3 IP)
 obtain⟨A2,c2,hrv,hA2,hm2,hcm2⟩:=M0 (g:=g) (x:=(r+1)*G.AB) (m:=(G.rows-(r+1))*G.AB) (cp:=cap) (n:=n) (by omega) hnc hcm
 have RW:=hide (fun wx=>RW g cap hnc hcm wx)
 rw [hrv] at RW
 have EB:=hide (fun w' (ho:w'.ownsRow w.heap.size 66 5 (.slice (some ⟨g,0,none⟩) n cap) n (Ag l1))=>(show Calls Tryz.prog 183 #[.slice A2 ((G.rows-(r+1))*G.AB) c2,.agg #[.int .i64 p.1,.int .i64 p.2.1,.int .i64 p.2.2]] w' fun e w''=>e=.returned (.tuple #[])/\w''.ownsRow w.heap.size 66 5 (.slice (some ⟨g,0,none⟩) n cap) n (Ag l2)/\Kept [some g] w' w'' by
  have h:=GN ((r+1)*G.AB) ((G.rows-(r+1))*G.AB) c2 n cap g w.heap.size A2 l1 p w' ho (by omega) (by omega) hA2
  rw [e2] at h
  exact h))
 clear hrv hA2 e2
 generalize (G.rows-(r+1))*G.AB=M at*
 have qr:IntKind.i64.wrap ((r:Int)+1)=(r:Int)+1:=IntWalk.i64_in _ (by omega)
 have ST:=hide (show∀(b:Bool) (x y:World),EEr w G.rows G.AB n cp A g cap gb p (if b=true then l2 else l1) x->Below x.heap.size x y->EEr w G.rows G.AB n cp A g cap gb p (if b=true then l2 else l1) y from fun b x y h hb=>h.call hb)
 have FIN:=hide (show∀(x y:World),EEr w G.rows G.AB n cp A g cap gb p (if false=true then l2 else l1) x->(y.ownsRow w.heap.size 66 5 (.slice (some ⟨g,0,none⟩) n cap) n (Ag l2)/\Kept [some g] x y)->EEr w G.rows G.AB n cp A g cap gb p (if true=true then l2 else l1) y from fun x y h h2=>EEr.wrote h h2.1 h2.2)
 have H0:=hide (show EEr w G.rows G.AB n cp A g cap gb p (if false=true then l2 else l1) _ from H.out.drew)
 clear a0 a1 a2 a3 a4 a5 j0 j1 j2 f0 f1 f2 s0 s1 s2 t0 t1 t2
 refine Cz (n:=49) (TJ 7 (fun b wx=>EEr w G.rows G.AB n cp A g cap gb p (if b=true then l2 else l1) wx) (fun j=> [(.agg #[.int .i64 G.rows,.int .i64 G.AB,.slice (some ⟨g,0,none⟩) n cap]),(.int .i64 r),(.int .i64 ((r:Int)+1)),(.pointer (some ⟨w.heap.size,0,none⟩)),(.int .i64 G.rows),(.slice A2 M c2),(.agg #[.int .i64 p.1,.int .i64 p.2.1,.int .i64 p.2.2])].getD j undef)) (by kernel_rfl) (by kernel_rfl) (by kernel_rfl) rfl (fun L u u' wx he hj=>hj.same he) (SQ ⟨?_,?_,?_,?_,?_,?_,?_,?_⟩) ?_ ⟨H0.out,fun j _ h=>by cases h⟩
 ·intro L a w' hL hsame hsz hJ AJ hcl
  have e0:a.eval (.tmp 11)=(.pointer (some ⟨gb,0,none⟩)):=AY hsame (by kernel_rfl)
  obtain⟨q0,q1,q2,_⟩:=hJ.put.2.2.2.1.three
  refine Step.val _ rfl rfl (AX rfl) (.agg #[.int .i64 G.rows,.int .i64 G.AB,.slice (some ⟨g,0,none⟩) n cap]) w' (fun ρ hρ=>?_) (hJ.val ST.out (by decide) (Below.refl _ _) _ rfl)
  rw [hρ] at e0
  clear hJ hsame AJ hcl hρ hsz
  go_simp
 ·intro L a w' hL hsame hsz hJ AJ hcl
  have e0:a.eval (.tmp 1)=(.int .i64 r):=AY hsame (by kernel_rfl)
  refine Step.val _ rfl rfl (AX rfl) (.int .i64 r) w' (fun ρ hρ=>?_) (hJ.val ST.out (by decide) (Below.refl _ _) _ rfl)
  rw [hρ] at e0
  clear hJ hsame AJ hcl hρ hsz
  go_simp
 ·intro L a w' hL hsame hsz hJ AJ hcl
  have e0:a.eval (.tmp 28)=(.int .i64 r):=AV (j:=1) (by kernel_rfl) (hJ.all 1 (by decide) (AZ AJ 1 (by kernel_rfl)))
  refine Step.val _ rfl rfl (AX rfl) (.int .i64 ((r:Int)+1)) w' (fun ρ hρ=>?_) (hJ.val ST.out (by decide) (Below.refl _ _) _ rfl)
  rw [hρ] at e0
  have ec1:ρ (.const (.int .i64 1))=(.int .i64 1):=(hρ _).symm
  clear hJ hsame AJ hcl hρ hsz
  go_simp
 ·intro L a w' hL hsame hsz hJ AJ hcl
  have e0:a.eval (.tmp 5)=(.pointer (some ⟨w.heap.size,0,none⟩)):=AY hsame (by kernel_rfl)
  refine Step.val _ rfl rfl (AX rfl) (.pointer (some ⟨w.heap.size,0,none⟩)) w' (fun ρ hρ=>?_) (hJ.val ST.out (by decide) (Below.refl _ _) _ rfl)
  rw [hρ] at e0
  clear hJ hsame AJ hcl hρ hsz
  go_simp
 ·intro L a w' hL hsame hsz hJ AJ hcl
  have e0:a.eval (.tmp 30)=(.pointer (some ⟨w.heap.size,0,none⟩)):=AV (j:=3) (by kernel_rfl) (hJ.all 3 (by decide) (AZ AJ 3 (by kernel_rfl)))
  obtain⟨q0,q1,q2,_⟩:=hJ.put.1.three
  refine Step.val _ rfl rfl (AX rfl) (.int .i64 G.rows) w' (fun ρ hρ=>?_) (hJ.val ST.out (by decide) (Below.refl _ _) _ rfl)
  rw [hρ] at e0
  clear hJ hsame AJ hcl hρ hsz
  go_simp
 ·intro L a w' hL hsame hsz hJ AJ hcl
  have e0:a.eval (.tmp 27)=(.agg #[.int .i64 G.rows,.int .i64 G.AB,.slice (some ⟨g,0,none⟩) n cap]):=AV (j:=0) (by kernel_rfl) (hJ.all 0 (by decide) (AZ AJ 0 (by kernel_rfl)))
  have e1:a.eval (.tmp 29)=(.int .i64 ((r:Int)+1)):=AV (j:=2) (by kernel_rfl) (hJ.all 2 (by decide) (AZ AJ 2 (by kernel_rfl)))
  have e2:a.eval (.tmp 31)=(.int .i64 G.rows):=AV (j:=4) (by kernel_rfl) (hJ.all 4 (by decide) (AZ AJ 4 (by kernel_rfl)))
  refine Step.call _ rfl rfl (AX rfl) 181 #[.agg #[.int .i64 G.rows,.int .i64 G.AB,.slice (some ⟨g,0,none⟩) n cap],.int .i64 ((r:Int)+1),.int .i64 G.rows] (fun ρ hρ=>?_) ?_
  ·skip
   rw [hρ] at e0 e1 e2
   have ef:ρ (.func 181)=.func (.func 181) #[] #[] :=(hρ _).symm
   clear hJ hsame AJ hcl hρ hsz
   go_simp
  ·refine(RW.out w').mono ?_
   rintro e w2 ⟨rfl,bb⟩
   exact⟨_,rfl,hJ.val ST.out (by decide) bb _ rfl⟩
 ·intro L a w' hL hsame hsz hJ AJ hcl
  have e0:a.eval (.tmp 9)=(.pointer (some ⟨w.heap.size+1,0,none⟩)):=AY hsame (by kernel_rfl)
  obtain⟨q0,q1,q2,_⟩:=hJ.put.2.1.three
  refine Step.val _ rfl rfl (AX rfl) (.agg #[.int .i64 p.1,.int .i64 p.2.1,.int .i64 p.2.2]) w' (fun ρ hρ=>?_) (hJ.val ST.out (by decide) (Below.refl _ _) _ rfl)
  rw [hρ] at e0
  clear hJ hsame AJ hcl hρ hsz
  go_simp
 ·intro L a w' hL hsame hsz hJ AJ hcl
  have e0:a.eval (.tmp 32)=(.slice A2 M c2):=AV (j:=5) (by kernel_rfl) (hJ.all 5 (by decide) (AZ AJ 5 (by kernel_rfl)))
  have e1:a.eval (.tmp 33)=(.agg #[.int .i64 p.1,.int .i64 p.2.1,.int .i64 p.2.2]):=AV (j:=6) (by kernel_rfl) (hJ.all 6 (by decide) (AZ AJ 6 (by kernel_rfl)))
  refine Step.call _ rfl rfl (AX rfl) 183 #[.slice A2 M c2,.agg #[.int .i64 p.1,.int .i64 p.2.1,.int .i64 p.2.2]] (fun ρ hρ=>?_) ?_
  ·skip
   rw [hρ] at e0 e1
   have ef:ρ (.func 183)=.func (.func 183) #[] #[] :=(hρ _).symm
   clear hJ hsame AJ hcl hρ hsz
   go_simp
  ·have hL0:L 7=false:=hL
   have hp:=hJ.put
   rw [hL0] at hp
   refine(EB.out w' hp.2.2.2.2.2.1).mono ?_
   rintro e w2 ⟨rfl,h2⟩
   exact⟨_,rfl,hJ.fin _ (FIN.out _ _ hp h2)⟩
 ·intro L a w' hsame hsz hJ hall
  obtain⟨u,hu,ha⟩:=FR hsame
  have h:=hJ.put
  rw [hall 7 (by decide)] at h
  have h:=hide h
  clear hJ hall hsz hu hsame
  subst ha
  change Exit.inBlock _ _ Exit.normal (Act.put (Act.put (Act.put (Act.put (Act.put (Act.put (Act.put (Act.put (BG _ u 0 _) (some 27) (u 0)) (some 28) (u 1)) (some 29) (u 2)) (some 30) (u 3)) (some 31) (u 4)) (some 32) (u 5)) (some 33) (u 6)) (some 34) (u 7)) _
  simp only [BG]
  generalize u 0=v0
  generalize u 1=v1
  generalize u 2=v2
  generalize u 3=v3
  generalize u 4=v4
  generalize u 5=v5
  generalize u 6=v6
  generalize u 7=v7
  go_simp
  (try simp only [Exit.then,Exit.inBlock])
  have H:=hide h.out
  obtain⟨a0,a1,a2,a3,a4,a5⟩:=H.out.2.2.2.1.three
  obtain⟨j0,j1,j2,f0,f1,f2⟩:=H.out.2.2.1.three
  go_wp2_with fail
  have X2:=H.out.2.2.1.Cq (.int .i64 G.rows) (.int .i64 G.AB) (.slice (some ⟨g,0,none⟩) n cap)
  obtain⟨i0',i1',i2',_⟩:=X2.three
  refine bodyPost_ret (v:=.agg #[.int .i64 G.rows,.int .i64 G.AB,.slice (some ⟨g,0,none⟩) n cap]) (by simp [results,Tryz.results193,go_sem,i0',i1',i2']) rfl (GOT.out g cap gb cp A _ H.out)
theorem Wz {G:PG.Gr} {v:Value} {w:World} (hG:PG.BL G) (h:IsG w G v) (r c:Nat) (p:PG.Pn) (hr:r<G.rows) (hc:c<G.AB):Calls Tryz.prog 193 #[v,.int .i64 r,.int .i64 c,.int .i64 1,pv p] w (GR w (PG.CQ G r c 1 p)):=by
 have hR:=hG.2.1
 have hK:=hG.2.2.2.1
 have hK0:=hG.2.2.1
 have h24:=size_le hG
 have hnn:0*G.AB+0<G.rows*G.AB:=PG.Ca hG.1 hG.2.2.1
 have hIP:=fun w' (hb:Below w.heap.size w w')=>CW hG (h.low hb) r c true (.inl ⟨rfl,by omega,by omega,by omega,by omega⟩)
 have HS:=hide (show(PG.CQ G r c 1 p).rows=G.rows/\(PG.CQ G r c 1 p).AB=G.AB from⟨rfl,rfl⟩)
 have HL:=hide (PG.FC G r c 1 p)
 have hCN:=fun w' (hb:Below w.heap.size w w')=>(Kr hG (h.low hb) r c 1 p (by omega) (by omega)).mono (R':=fun e w''=> ∃g cap,e=.returned (gv G.rows G.AB (.slice (some ⟨g,0,none⟩) (G.rows*G.AB) cap))/\G.rows*G.AB<=cap/\cap<=maxLen/\w''.ownsRow w'.heap.size 66 5 (.slice (some ⟨g,0,none⟩) (G.rows*G.AB) cap) (G.rows*G.AB) (Ag (PG.cells (PG.Bq G r c 1 p)))/\Below w'.heap.size w' w'') (fun e w'' hm=>by
  obtain⟨s,rfl,o,b⟩:=hm
  rw [HL.out.1,HL.out.2] at o
  obtain⟨g,cap,rfl,hgb,hnc,hcm⟩:=GA o (by omega)
  rw [HL.out.1,HL.out.2]
  exact⟨g,cap,rfl,hnc,hcm,o,b⟩)
 have GOT: ∀(g cap n gb:Nat) (cp:Nat) (A:Option Addr) (w3:World),n=G.rows*G.AB->EEr w G.rows G.AB n cp A g cap gb p (PG.cells (PG.CQ G r c 1 p)) w3->GR w (PG.CQ G r c 1 p) (.returned (gv G.rows G.AB (.slice (some ⟨g,0,none⟩) n cap))) (((w3.setCell ⟨w.heap.size+1+1,0,none⟩ (.int .i64 G.rows)).setCell ⟨w.heap.size+1+1,1,none⟩ (.int .i64 G.AB)).setCell ⟨w.heap.size+1+1,2,none⟩ (.slice (some ⟨g,0,none⟩) n cap)):=fun g cap n gb cp A w3 hn H=>by
  have F:=DW (w:=w) (H:=PG.CQ G r c 1 p) (A:=some ⟨g,0,none⟩) (n:=n) (c:=cap) (B:=w.heap.size) (by rw [HS.out.1,HS.out.2, <- hn];exact H.2.2.2.2.2.1) (Nat.le_refl _) H.2.2.1 H.2.2.2.2.2.2 (show w.heap.size<=w.heap.size+1+1 by omega)
  rw [HS.out.1,HS.out.2] at F
  exact F
 obtain⟨A,cp,rfl,hl,h1,h2⟩:=h.open_
 have e2:=PG.d9 (g:=G) (r:=r) (c:=c) (p:=p) hr
 have eL:PG.cells (PG.Bq G r c 1 p)=PG.cells (PG.DL G r 0 (c+1) p):=by
  unfold PG.Bq
  rw [if_pos ⟨⟨by omega,by omega,by omega,by omega⟩,by decide,by decide⟩]
  rfl
 rw [<- eL] at e2
 have hle:0+r*G.AB=r*G.AB:=by omega
 have hle2:r*G.AB<=G.rows*G.AB:=Nat.mul_le_mul_right _ (by omega)
 have RW:=fun g cap (h1:G.rows*G.AB<=cap) (h2:cap<=maxLen) wx=>(show Calls Tryz.prog 181 #[gv G.rows G.AB (.slice (some ⟨g,0,none⟩) (G.rows*G.AB) cap),.int .i64 0,.int .i64 r] wx fun e w'=>e=.returned (LQ g (0) (r*G.AB) cap)/\Below wx.heap.size wx w' from
  Kq G.rows G.AB (G.rows*G.AB) cap g 0 r (0) (r*G.AB) wx (by omega) hle rfl (by omega) hR hK h1 h2)
 generalize PG.cells (PG.Bq G r c 1 p)=l1 at*
 generalize PG.cells (PG.CQ G r c 1 p)=l2 at*
 clear hl h1 h2 h
 have IP:=hide hIP
 have CN:=hide hCN
 clear hIP hCN
 have GOT:=hide (fun g cap gb cp A w3=>GOT g cap _ gb cp A w3 rfl)
 generalize G.rows*G.AB=n at*
 unfold gv pv at*
 go_enter Tryz.func193,Tryz.ntmps193
 go_upto_region 2 with (
   go_at_call 195
   obtain⟨x0,x1,x2,bw⟩:=Ci (w:=w) (t0:=37) (t1:=38) (t2:=37) (cs:= #[.int .i64 G.rows,.int .i64 G.AB,.slice A n cp]) (ds:= #[.int .i64 p.1,.int .i64 p.2.1,.int .i64 p.2.2]) (es:= #[.int .i64 0,.int .i64 0,.slice none 0 0])
   go_must (refine(CN.out _ bw).mono ?_)
   rintro e w1 ⟨g,cap,rfl,hnc,hcm,o1,b1⟩
   have sz:w.heap.size+1+1<w1.heap.size:=Nat.lt_of_lt_of_le x2.lt b1.size
   have H:=hide (show EEr w G.rows G.AB n cp A g cap w1.heap.size p l1 (w1.alloc (.cells #[.int .i64 G.rows,.int .i64 G.AB,.slice (some ⟨g,0,none⟩) n cap] 37)) from
    ⟨(x0.below b1 x0.lt).alloc _,(x1.below b1 x1.lt).alloc _,(x2.below b1 x2.lt).alloc _,Box.new w1 _ _,sz,D6 (own_base' o1 bw.size) _,(bw.trans (b1.mono bw.size)).alloc (Nat.le_trans bw.size b1.size) _⟩)
   clear x0 x1 x2 bw b1 o1 CN)
 generalize w1.alloc (.cells #[.int .i64 G.rows,.int .i64 G.AB,.slice (some ⟨g,0,none⟩) n cap] 37)=w2 at*
 generalize w1.heap.size=gb at*
 have hsz:=H.out.2.2.2.2.1
 obtain⟨s0,s1,s2,_⟩:=H.out.1.three
 go_upto_region 8 with (
      go_at_call 180
      go_must (refine(IP.out _ H.out.2.2.2.2.2.2).mono ?_)
      rintro e w3 ⟨rfl,b3⟩
      have H:=hide (H.out.call b3)
      obtain⟨a0,a1,a2,a3,a4,a5⟩:=H.out.2.2.2.1.three
      obtain⟨j0,j1,j2,f0,f1,f2⟩:=H.out.2.2.1.three
      obtain⟨s0,s1,s2,_⟩:=H.out.1.three
      obtain⟨t0,t1,t2,_⟩:=H.out.2.1.three
      clear b3 IP)
 obtain⟨A2,c2,hrv,hA2,hm2,hcm2⟩:=M0 (g:=g) (x:=0) (m:=r*G.AB) (cp:=cap) (n:=n) (by omega) hnc hcm
 have RW:=hide (fun wx=>RW g cap hnc hcm wx)
 rw [hrv] at RW
 have EB:=hide (fun w' (ho:w'.ownsRow w.heap.size 66 5 (.slice (some ⟨g,0,none⟩) n cap) n (Ag l1))=>(show Calls Tryz.prog 183 #[.slice A2 (r*G.AB) c2,.agg #[.int .i64 p.1,.int .i64 p.2.1,.int .i64 p.2.2]] w' fun e w''=>e=.returned (.tuple #[])/\w''.ownsRow w.heap.size 66 5 (.slice (some ⟨g,0,none⟩) n cap) n (Ag l2)/\Kept [some g] w' w'' by
  have h:=GN (0) (r*G.AB) c2 n cap g w.heap.size A2 l1 p w' ho (by omega) (by omega) hA2
  rw [e2] at h
  exact h))
 clear hrv hA2 e2
 generalize r*G.AB=M at*
 have qr:IntKind.i64.wrap ((r:Int)+1)=(r:Int)+1:=IntWalk.i64_in _ (by omega)
 have ST:=hide (show∀(b:Bool) (x y:World),EEr w G.rows G.AB n cp A g cap gb p (if b=true then l2 else l1) x->Below x.heap.size x y->EEr w G.rows G.AB n cp A g cap gb p (if b=true then l2 else l1) y from fun b x y h hb=>h.call hb)
 have FIN:=hide (show∀(x y:World),EEr w G.rows G.AB n cp A g cap gb p (if false=true then l2 else l1) x->(y.ownsRow w.heap.size 66 5 (.slice (some ⟨g,0,none⟩) n cap) n (Ag l2)/\Kept [some g] x y)->EEr w G.rows G.AB n cp A g cap gb p (if true=true then l2 else l1) y from fun x y h h2=>EEr.wrote h h2.1 h2.2)
 have H0:=hide (show EEr w G.rows G.AB n cp A g cap gb p (if false=true then l2 else l1) _ from H.out.drew)
 clear a0 a1 a2 a3 a4 a5 j0 j1 j2 f0 f1 f2 s0 s1 s2 t0 t1 t2
 refine Cz (n:=49) (TJ 4 (fun b wx=>EEr w G.rows G.AB n cp A g cap gb p (if b=true then l2 else l1) wx) (fun j=> [(.agg #[.int .i64 G.rows,.int .i64 G.AB,.slice (some ⟨g,0,none⟩) n cap]),(.int .i64 r),(.slice A2 M c2),(.agg #[.int .i64 p.1,.int .i64 p.2.1,.int .i64 p.2.2])].getD j undef)) (by kernel_rfl) (by kernel_rfl) (by kernel_rfl) rfl (fun L u u' wx he hj=>hj.same he) (SL ⟨?_,?_,?_,?_,?_⟩) ?_ ⟨H0.out,fun j _ h=>by cases h⟩
 ·intro L a w' hL hsame hsz hJ AJ hcl
  have e0:a.eval (.tmp 11)=(.pointer (some ⟨gb,0,none⟩)):=AY hsame (by kernel_rfl)
  obtain⟨q0,q1,q2,_⟩:=hJ.put.2.2.2.1.three
  refine Step.val _ rfl rfl (AX rfl) (.agg #[.int .i64 G.rows,.int .i64 G.AB,.slice (some ⟨g,0,none⟩) n cap]) w' (fun ρ hρ=>?_) (hJ.val ST.out (by decide) (Below.refl _ _) _ rfl)
  rw [hρ] at e0
  clear hJ hsame AJ hcl hρ hsz
  go_simp
 ·intro L a w' hL hsame hsz hJ AJ hcl
  have e0:a.eval (.tmp 1)=(.int .i64 r):=AY hsame (by kernel_rfl)
  refine Step.val _ rfl rfl (AX rfl) (.int .i64 r) w' (fun ρ hρ=>?_) (hJ.val ST.out (by decide) (Below.refl _ _) _ rfl)
  rw [hρ] at e0
  clear hJ hsame AJ hcl hρ hsz
  go_simp
 ·intro L a w' hL hsame hsz hJ AJ hcl
  have e0:a.eval (.tmp 37)=(.agg #[.int .i64 G.rows,.int .i64 G.AB,.slice (some ⟨g,0,none⟩) n cap]):=AV (j:=0) (by kernel_rfl) (hJ.all 0 (by decide) (AZ AJ 0 (by kernel_rfl)))
  have e2:a.eval (.tmp 38)=(.int .i64 r):=AV (j:=1) (by kernel_rfl) (hJ.all 1 (by decide) (AZ AJ 1 (by kernel_rfl)))
  refine Step.call _ rfl rfl (AX rfl) 181 #[.agg #[.int .i64 G.rows,.int .i64 G.AB,.slice (some ⟨g,0,none⟩) n cap],.int .i64 0,.int .i64 r] (fun ρ hρ=>?_) ?_
  ·skip
   rw [hρ] at e0 e2
   have ec1:ρ (.const (.int .i64 0))=(.int .i64 0):=(hρ _).symm
   have ef:ρ (.func 181)=.func (.func 181) #[] #[] :=(hρ _).symm
   clear hJ hsame AJ hcl hρ hsz
   go_simp
  ·refine(RW.out w').mono ?_
   rintro e w2 ⟨rfl,bb⟩
   exact⟨_,rfl,hJ.val ST.out (by decide) bb _ rfl⟩
 ·intro L a w' hL hsame hsz hJ AJ hcl
  have e0:a.eval (.tmp 9)=(.pointer (some ⟨w.heap.size+1,0,none⟩)):=AY hsame (by kernel_rfl)
  obtain⟨q0,q1,q2,_⟩:=hJ.put.2.1.three
  refine Step.val _ rfl rfl (AX rfl) (.agg #[.int .i64 p.1,.int .i64 p.2.1,.int .i64 p.2.2]) w' (fun ρ hρ=>?_) (hJ.val ST.out (by decide) (Below.refl _ _) _ rfl)
  rw [hρ] at e0
  clear hJ hsame AJ hcl hρ hsz
  go_simp
 ·intro L a w' hL hsame hsz hJ AJ hcl
  have e0:a.eval (.tmp 39)=(.slice A2 M c2):=AV (j:=2) (by kernel_rfl) (hJ.all 2 (by decide) (AZ AJ 2 (by kernel_rfl)))
  have e1:a.eval (.tmp 40)=(.agg #[.int .i64 p.1,.int .i64 p.2.1,.int .i64 p.2.2]):=AV (j:=3) (by kernel_rfl) (hJ.all 3 (by decide) (AZ AJ 3 (by kernel_rfl)))
  refine Step.call _ rfl rfl (AX rfl) 183 #[.slice A2 M c2,.agg #[.int .i64 p.1,.int .i64 p.2.1,.int .i64 p.2.2]] (fun ρ hρ=>?_) ?_
  ·skip
   rw [hρ] at e0 e1
   have ef:ρ (.func 183)=.func (.func 183) #[] #[] :=(hρ _).symm
   clear hJ hsame AJ hcl hρ hsz
   go_simp
  ·have hL0:L 4=false:=hL
   have hp:=hJ.put
   rw [hL0] at hp
   refine(EB.out w' hp.2.2.2.2.2.1).mono ?_
   rintro e w2 ⟨rfl,h2⟩
   exact⟨_,rfl,hJ.fin _ (FIN.out _ _ hp h2)⟩
 ·intro L a w' hsame hsz hJ hall
  obtain⟨u,hu,ha⟩:=FR hsame
  have h:=hJ.put
  rw [hall 4 (by decide)] at h
  have h:=hide h
  clear hJ hall hsz hu hsame
  subst ha
  change Exit.inBlock _ _ Exit.normal (Act.put (Act.put (Act.put (Act.put (Act.put (BG _ u 0 _) (some 37) (u 0)) (some 38) (u 1)) (some 39) (u 2)) (some 40) (u 3)) (some 41) (u 4)) _
  simp only [BG]
  generalize u 0=v0
  generalize u 1=v1
  generalize u 2=v2
  generalize u 3=v3
  generalize u 4=v4
  go_simp
  (try simp only [Exit.then,Exit.inBlock])
  have H:=hide h.out
  obtain⟨a0,a1,a2,a3,a4,a5⟩:=H.out.2.2.2.1.three
  obtain⟨j0,j1,j2,f0,f1,f2⟩:=H.out.2.2.1.three
  go_wp2_with fail
  have X2:=H.out.2.2.1.Cq (.int .i64 G.rows) (.int .i64 G.AB) (.slice (some ⟨g,0,none⟩) n cap)
  obtain⟨i0',i1',i2',_⟩:=X2.three
  refine bodyPost_ret (v:=.agg #[.int .i64 G.rows,.int .i64 G.AB,.slice (some ⟨g,0,none⟩) n cap]) (by simp [results,Tryz.results193,go_sem,i0',i1',i2']) rfl (GOT.out g cap gb cp A _ H.out)
end Go.Proofs.YtoaabebgmdbjeaaGreatDoor
namespace Go.Proofs.YtoaabebgmdbjeaaGreatDoor
open Go.RowKit
section
variable {G:PG.Gr} {v:Value} {w:World}
theorem jW (hG:PG.BL G) (h:IsG w G v) (r c k:Int) (p:PG.Pn) (hp:PG.Cc p) (hr: -1000<=r/\r<=1000) (hc: -1000<=c/\c<=1000):Calls Tryz.prog 195 #[v,.int .i64 r,.int .i64 c,.int .i64 k,pv p] w (DN w (PG.Bq G r c k p)):=
 (Kr hG h r c k p hr hc).mono fun e w' hm=>hm.got
theorem eD (hG:PG.BL G) (h:IsG w G v) (r c k:Int) (p:PG.Pn) (hp:PG.Cc p) (hr: -1000<=r/\r<=1000) (hc: -1000<=c/\c<=1000):Calls Tryz.prog 193 #[v,.int .i64 r,.int .i64 c,.int .i64 k,pv p] w (DN w (PG.GD G r c k p)):=by
 by_cases hi:0<=r/\r<G.rows/\0<=c/\c<G.AB
 ·by_cases hk:0<=k/\k<=2
  ·obtain⟨r',rfl⟩:=Int.eq_ofNat_of_zero_le hi.1
   obtain⟨c',rfl⟩:=Int.eq_ofNat_of_zero_le hi.2.2.1
   obtain⟨k',rfl⟩:=Int.eq_ofNat_of_zero_le hk.1
   have e:PG.GD G r' c' k' p=PG.CQ G r' c' k' p:=if_pos ⟨hi,hk⟩
   rw [e]
   obtain rfl | rfl | rfl:k'=0\/k'=1\/k'=2:=by omega
   ·exact(Wy hG h r' c' p (by omega) (by omega)).mono fun e w' hm=>hm.got
   ·exact(Wz hG h r' c' p (by omega) (by omega)).mono fun e w' hm=>hm.got
   ·exact(Wx hG h r' c' p (by omega) (by omega)).mono fun e w' hm=>hm.got
  ·rw [(PG.M8 (fun x=>hk x.2)).trans (PG.JN (g:=G) (r:=r) (c:=c) (p:=p) (fun x=>hk x.2)).symm]
   exact(Tj hG h r c k p hr hc hi hk).mono fun e w' hm=>hm.got
 ·rw [(PG.M8 (fun x=>hi x.1)).trans (PG.JN (g:=G) (k:=k) (p:=p) (fun x=>hi x.1)).symm]
  exact(RH hG h r c k p hr hc hi).mono fun e w' hm=>hm.got
end
end Go.Proofs.YtoaabebgmdbjeaaGreatDoor
