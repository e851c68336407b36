/- A part of the proof: ScreenFit, CursorRef. -/
import Derived.Test.YtoaabebgmdbjeaaGreatDoorRp11
import Derived.Test.YtoaabebgmdbjeaaGreatDoorRp09
set_option maxRecDepth 100000
set_option maxHeartbeats 16000000
set_option linter.unusedVariables false
namespace Go.Proofs.YtoaabebgmdbjeaaGreatDoor
open Go.RowKit
def SN.Sc.fit (s:SN.Sc):SN.Sc:=((s.u6 0).u7 (s.g.rows-1)).u11 (TB.news s.g.AB)
theorem Vj (s:SN.Sc) (A:Option Addr) (n cp:Nat) (h1:1<=s.g.rows) (h2:s.g.rows<=40) (h4:s.g.AB<=60) (w:World):
  Calls Tryz.prog 51 #[.agg (scA (.slice A n cp) s)] w fun e w'=>e=.returned (.agg (scA (.slice A n cp) s.fit))/\Below w.heap.size w w':=by
 have TBS:=hide (fun w'=>ak (s.g.AB:Nat) (TB.news s.g.AB) (by simp) w' (by omega) (by omega))
 obtain⟨b,hb,hb'⟩: ∃b:Nat,(s.g.rows:Int)-1=(b:Int)/\s.g.rows-1=b:=⟨s.g.rows-1,by omega,rfl⟩
 obtain⟨tb,htb⟩: ∃tb,TB.news s.g.AB=tb:=⟨_,rfl⟩
 rw [htb] at TBS
 have HS:=hide (show((s.u6 0).u7 b).u11 tb=s.fit by unfold SN.Sc.fit;rw [hb',htb])
 have EB:=hide hb
 clear hb hb' htb
 go_enter Tryz.func51,Tryz.ntmps51
 go_upto_region 1 with (first | (refine Ak rfl _ rfl rfl ?_;intro g w1 hB hb1 hg1) | (refine BQ rfl rfl ?_;intro gR w2 csR hR hsR hb2 hgR))
 have hB2:=hB.below hb2 hB.lt
 have hW2:=hb1.trans (hb2.mono hb1.size)
 have lZ:=hb1.size
 have hne:gR≠g:=by have:=hB.lt;omega
 have Ai:w.heap.size<=gR:=by omega
 have k0:=hB2.c0
 have k6:=hB2.c6
 have k7:=hB2.c7
 have z6:=hB2.fz 6
 have z7:=hB2.fz 7
 clear hB hb1 hb2
 go_upto_region 2 with fail
 simp only [EB.out]
 have HB4:=hide ((hB2.aZ 0).Iy b)
 have HR4:=hide ((hR.far (p:=⟨g,6,none⟩) hne (.int .i64 (0:Nat))).far (p:=⟨g,7,none⟩) hne (.int .i64 (b:Nat)))
 have HW4:=hide ((hW2.setCell (p:=⟨g,6,none⟩) hg1 (.int .i64 (0:Nat))).setCell (p:=⟨g,7,none⟩) hg1 (.int .i64 (b:Nat)))
 generalize ((w2.setCell ⟨g,6,none⟩ (.int .i64 (0:Nat))).setCell ⟨g,7,none⟩ (.int .i64 (b:Nat)))=w4 at HB4 HR4 HW4⊢
 clear k0 k6 k7 z6 z7 hB2 hR hW2
 have k1:w4.cell? ⟨g,1,none⟩=some (.int .i64 (s.g.AB:Nat)):=HB4.out.c1
 have k11:=HB4.out.c11
 have z11:=HB4.out.fz 11
 go_wp2_with fail
 refine(TBS.out _).mono ?_
 rintro e w' ⟨rfl,rfl⟩
 go_upto_region 3 with fail
 have HB5:=hide (HB4.out.Xy tb)
 have HR5:=hide (HR4.out.far (p:=⟨g,11,none⟩) hne (.int .u64 (tb:Nat)))
 have HW5:=hide (HW4.out.setCell (p:=⟨g,11,none⟩) hg1 (.int .u64 (tb:Nat)))
 generalize (w4.setCell ⟨g,11,none⟩ (.int .u64 (tb:Nat)))=w5 at HB5 HR5 HW5⊢
 clear k1 k11 z11 HB4 HR4 HW4
 go_wp2_with (first | (refine AX HB5.out rfl _ rfl rfl ?_) | (refine AV HR5.out hsR rfl _ _ rfl rfl rfl rfl ?_;intro w8 hB8 hk8 hs8))
 refine bodyPost_ret (CR rfl rfl hB8) rfl ⟨by rw [HS.out],HW5.out.trans (hk8.toBelow HW5.out.size (fun k hk=>by simp at hk;omega))⟩
def GotC (w:World) (S:SN.Sc) (e:Ending) (w':World):Prop:= ∃x,e=.returned (.agg (scA x S))/\w'.ownsRow w.heap.size 66 5 x (S.g.rows*S.g.AB) (Af (PG.cells S.g))/\Below w.heap.size w w'
theorem YQ (s:SN.Sc) (v:Value) (hs:PG.BH s.g) (w:World) (h:IsS w s v):Calls Tryz.prog 14 #[v] w (GotC w s):=by
 obtain⟨x,rfl,hg⟩:=h
 obtain⟨A,cp,rfl⟩:=Ac hg
 have hsz:=size_le hs
 have hpos:0<s.g.rows*s.g.AB:=Nat.mul_pos hs.1 hs.2.2.1
 obtain⟨ad,rfl⟩: ∃ad,A=some ad:=by
  obtain⟨hl,_,_⟩:=Jh hg
  obtain⟨ad,h0,_⟩:=hl.at_ (k:=0) (c:=(PG.cells s.g)[0]'(by rw [PG.Az];exact hpos)) (by simp)
  exact⟨ad,h0⟩
 have SC:=hide (fun w' (hb:Below w.heap.size w w')=>Ld (s.g.rows*s.g.AB) cp w.heap.size ad (PG.cells s.g) w' ((Jh hg).1.below hb) hb.size (by omega))
 have hlen:(PG.cells s.g).length=s.g.rows*s.g.AB:=PG.Az _
 go_enter Tryz.func14,Tryz.ntmps14
 go_upto_region 1 with (first | (refine Ak rfl _ rfl rfl ?_;intro g w1 hB hb1 hg1) | (refine BQ rfl rfl ?_;intro gR w2 csR hR hsR hb2 hgR))
 have HB2:=hide (hB.below hb2 hB.lt)
 have HW2:=hide (hb1.trans (hb2.mono hb1.size))
 have HR2:=hide hR
 have lZ:=hb1.size
 have hne:gR≠g:=by have:=hB.lt;omega
 have Ai:w.heap.size<=gR:=by omega
 have k2:=HB2.out.c2
 clear hB hb1 hb2 hR
 go_wp2_with fail
 refine(SC.out _ HW2.out).mono ?_
 rintro e w3 ⟨v3,rfl,hown3,hb3⟩
 obtain⟨A3,c3,rfl,_⟩:=CJ hown3
 have HO3:=hide hown3
 have HB3:=hide (HB2.out.below hb3 HB2.out.lt)
 have HR3:=hide (HR2.out.below hb3 HR2.out.lt)
 have HW3:=hide (HW2.out.trans (hb3.mono HW2.out.size))
 have k2:=HB3.out.c2
 have z2:=HB3.out.fz 2
 have HW2s:w.heap.size<=w2.heap.size:=HW2.out.size
 clear hown3 hb3 HB2 HR2 HW2
 go_upto_region 2 with fail
 have HB5:=hide (show Aj (w3.setCell ⟨g,2,none⟩ (.slice A3 (s.g.rows*s.g.AB) c3)) g (.slice A3 (s.g.rows*s.g.AB) c3) s from Box.set HB3.out 2 _)
 have HR5:=hide (HR3.out.far (p:=⟨g,2,none⟩) hne (.slice A3 (s.g.rows*s.g.AB) c3))
 have HW5:=hide (HW3.out.setCell (p:=⟨g,2,none⟩) hg1 (.slice A3 (s.g.rows*s.g.AB) c3))
 have HO5:=hide (own_base' (DT HO3.out ((Kept.refl [some g] w3).setCell (p:=⟨g,2,none⟩) (From.mem (by simp)) (.slice A3 (s.g.rows*s.g.AB) c3)) (fun b hb hm=>Ad HO3.out HB3.out (by decide) (by simp at hm;rw [hb,hm]))) HW2s)
 generalize (w3.setCell ⟨g,2,none⟩ (.slice A3 (s.g.rows*s.g.AB) c3))=w5 at HB5 HR5 HW5 HO5⊢
 clear k2 z2 HB3 HR3 HW3 HO3
 go_wp2_with (first | (refine AX HB5.out rfl _ rfl rfl ?_) | (refine AV HR5.out hsR rfl _ _ rfl rfl rfl rfl ?_;intro w8 hB8 hk8 hs8))
 refine bodyPost_ret (CR rfl rfl hB8) rfl ⟨_,rfl,DT HO5.out hk8 (fun b hb hm=>Ad HO5.out HR5.out (by decide) (by simp at hm;rw [hb,hm])),HW5.out.trans (hk8.toBelow HW5.out.size (fun k hk=>by simp at hk;omega))⟩
theorem IY (s:SN.Sc) (x:Value) (w:World):Calls Tryz.prog 111 #[.agg (scA x s)] w fun e w'=>e=.returned (.agg #[.int .i64 (-1),.int .i64 s.pen.2.1,.int .i64 0])/\Below w.heap.size w w':=by
 go_enter Tryz.func111,Tryz.ntmps111
 go_upto_region 1 with (first | (refine Ak rfl _ rfl rfl ?_;intro g w1 hB hb1 hg1))
 have k9:=fun o=>(hB.alloc o).c9
 have X:=Box.new w1 38 #[.int .i64 0,.int .i64 0,.int .i64 0]
 obtain⟨x0,x1,x2,y0,y1,y2⟩:=X.three
 go_wp2_with fail
 refine bodyPost_ret (v:=.agg #[.int .i64 (-1),.int .i64 s.pen.2.1,.int .i64 0]) (by simp [results,Tryz.results111,go_sem]) rfl ⟨rfl,hb1.alloc hb1.size _⟩
end Go.Proofs.YtoaabebgmdbjeaaGreatDoor
namespace Go.Proofs.YtoaabebgmdbjeaaGreatDoor
open Go.RowKit
def ES (G:PG.Gr) (v:Value) (w:World):Prop:= ∃A c,v=gv G.rows G.AB (.slice A (G.rows*G.AB) c)/\w.ownsRow 0 66 5 (.slice A (G.rows*G.AB) c) (G.rows*G.AB) (Af (PG.cells G))
theorem ES.stays {Ts:List TypeId} {G:PG.Gr} (h:Ts.all (fun x=>x !=66)=true):FP Ts (ES G):=
 ⟨fun v w w' ⟨A,c,h1,h2⟩ hb=>⟨A,c,h1,Gu h2 hb⟩,fun v w w' g' T' cs' ⟨A,c,h1,h2⟩ hb hT hk=>⟨A,c,h1,DT h2 hk (fun b hb' hm=>Ad h2 hb (fun e=>by
  have:=List.all_eq_true.1 h _ hT
  simp [e] at this) (by simp at hm;rw [hb',hm]))⟩⟩
def QJ (G:PG.Gr) (S:SN.Sc) (v:Value) (w:World):Prop:= ∃A c,v=.agg (scA (.slice A (G.rows*G.AB) c) S)/\w.ownsRow 0 66 5 (.slice A (G.rows*G.AB) c) (G.rows*G.AB) (Af (PG.cells G))
theorem QJ.stays {Ts:List TypeId} {G:PG.Gr} {S:SN.Sc} (h:Ts.all (fun x=>x !=66)=true):FP Ts (QJ G S):=
 ⟨fun v w w' ⟨A,c,h1,h2⟩ hb=>⟨A,c,h1,Gu h2 hb⟩,fun v w w' g' T' cs' ⟨A,c,h1,h2⟩ hb hT hk=>⟨A,c,h1,DT h2 hk (fun b hb' hm=>Ad h2 hb (fun e=>by
  have:=List.all_eq_true.1 h _ hT
  simp [e] at this) (by simp at hm;rw [hb',hm]))⟩⟩
theorem Ip {z:Int} {m R:Nat} (hm:1<=m) (h:SN.cut z m=R):((R=1/\z<1)\/((R:Int)=z/\1<=z/\z<=m)\/(R=m/\(m:Int)<z))/\1<=R/\R<=m:=by
 unfold SN.cut at h
 omega
theorem lq (r c:Int) (R K:Nat) (w:World) (hR:SN.cut r 40=R) (hK:SN.cut c 60=K) (hr: -1099511627776<=r/\r<=1099511627776) (hc: -1099511627776<=c/\c<=1099511627776):
  Calls Tryz.prog 52 #[.int .i64 r,.int .i64 c,pv PG.plain] w (C8 w (PG.newG R K PG.plain)):=
 (aS r c R K PG.plain w (by omega) (by omega) (by omega) (by omega) (Ip (by omega) hR).1 (Ip (by omega) hK).1).mono fun e w' h=>Jg h (PG.NT R K PG.plain) rfl rfl
theorem UN (r c:Int) (R K:Nat) (hR:SN.cut r 40=R) (hK:SN.cut c 60=K) (hr: -1099511627776<=r/\r<=1099511627776) (hc: -1099511627776<=c/\c<=1099511627776) (w:World):
  Calls Tryz.prog 21 #[.int .i64 r,.int .i64 c] w (Au w (SN.full R K)):=by
 obtain⟨_,hR1,hR2⟩:=Ip (by omega) hR
 obtain⟨_,hK1,hK2⟩:=Ip (by omega) hK
 have NW:=hide (fun w'=>(show Calls Tryz.prog 52 #[.int .i64 r,.int .i64 c,.agg #[.int .i64 (-1),.int .i64 (-1),.int .i64 0]] w' (C8 w' (PG.newG R K PG.plain)) from lq r c R K w' hR hK hr hc))
 have PL:=hide (fun w'=>(Uy w').mono fun e w'' (h:_/\_)=>(⟨h.1,h.2▸(Below.refl w'.heap.size w').alloc (Nat.le_refl _) _⟩:e=.returned (.agg #[.int .i64 (-1),.int .i64 (-1),.int .i64 0])/\Below w'.heap.size w' w''))
 have FT:=hide (fun A n cp w'=>Vj ⟨PG.newG R K PG.plain,0,0,false,0,0,PG.plain,0,66,66,0,true,false,true,false,false,⟨0,0,PG.plain,66,66,0,false⟩⟩ A n cp (show 1<=R from hR1) (show R<=40 from hR2) (show K<=60 from hK2) w')
 have HGE:=hide (show(SN.full R K).g=PG.newG R K PG.plain from rfl)
 rw [show SN.Sc.fit ⟨PG.newG R K PG.plain,0,0,false,0,0,PG.plain,0,66,66,0,true,false,true,false,false,⟨0,0,PG.plain,66,66,0,false⟩⟩=SN.full R K from rfl] at FT
 generalize PG.newG R K PG.plain=G at NW FT HGE
 obtain⟨S0,hS0⟩: ∃S0:SN.Sc,S0=⟨G,0,0,false,0,0,PG.plain,0,66,66,0,true,false,true,false,false,⟨0,0,PG.plain,66,66,0,false⟩⟩:=⟨_,rfl⟩
 rw [<- hS0] at FT
 have HSE:=hide hS0
 generalize SN.full R K=T at FT HGE⊢
 clear hS0 hR hK hr hc
 go_enter Tryz.func21,Tryz.ntmps21
 go_upto_region 2 with (first | (refine BQ rfl rfl ?_;intro gR w1 csR hR hsR hb1 hgR))
 have HA:=hide (Box.new w1 39 #[.int .u8 66,.int .u8 66])
 have HR:=hide (hR.alloc (.cells #[.int .u8 66,.int .u8 66] 39))
 have HW:=hide (hb1.alloc hb1.size (.cells #[.int .u8 66,.int .u8 66] 39))
 generalize w1.heap.size=gA at HA⊢
 generalize w1.alloc (.cells #[.int .u8 66,.int .u8 66] 39)=w2 at HA HR HW⊢
 clear hR hb1
 refine BO (n:=18) 11 [] (fun _=> #[]) [(0,0,0,0,0),(0,0,0,0,0),(0,0,0,0,0),(1,0,0,0,0),(0,0,0,0,0),(0,0,0,0,0),(0,0,0,0,0),(0,0,0,0,0),(0,0,0,0,0),(1,0,0,0,0),(1,0,0,0,0),(0,0,0,0,0)] (fun j=> [(.int .i64 r),(.int .i64 c),(.agg #[.int .i64 (-1),.int .i64 (-1),.int .i64 0]),undef,(.agg #[.int .i64 (-1),.int .i64 (-1),.int .i64 0]),(.agg #[.int .u8 66,.int .u8 66]),(.agg #[.int .i64 (-1),.int .i64 (-1),.int .i64 0]),(.agg #[.int .u8 66,.int .u8 66]),(.agg #[.int .i64 0,.int .i64 0,.int .i64 (-1),.int .i64 (-1),.int .i64 0,.int .u8 66,.int .u8 66,.int .i64 0,.bool false]),undef,undef,undef].getD j undef) [none,none,none,some (ES G),none,none,none,none,none,some (QJ G S0),some (QJ G T)] (fun _=>0) (by kernel_rfl) (by kernel_rfl) (by kernel_rfl) rfl (by kernel_rfl) (by kernel_rfl) (Cy rfl) (fun i j h=>by revert h;exact Cy (p:=fun _=>_) rfl i) (Ag.none_ (Ag.none_ (Ag.none_ (Ag.some_ (ES.stays (by kernel_rfl)) (Ag.none_ (Ag.none_ (Ag.none_ (Ag.none_ (Ag.none_ (Ag.some_ (QJ.stays (by kernel_rfl)) (Ag.some_ (QJ.stays (by kernel_rfl)) (Ag.nil _)))))))))))) (fun hGS=>JV ⟨?_,?_,?_,?_,?_,?_,?_,?_,?_,?_,?_⟩) ?_
 ·intro L a w' hL hsame hsz hJ AJ hcl
  refine Aw hJ hGS hcl hL 0 (.int .i64 r) (.int .i64 r) (AZ hsame (by kernel_rfl)) _ rfl rfl rfl rfl rfl fun ρ _ e0=>?_
  clear hJ hsame AJ hcl hsz
  go_simp
 ·intro L a w' hL hsame hsz hJ AJ hcl
  refine Aw hJ hGS hcl hL 1 (.int .i64 c) (.int .i64 c) (AZ hsame (by kernel_rfl)) _ rfl rfl rfl rfl rfl fun ρ _ e0=>?_
  clear hJ hsame AJ hcl hsz
  go_simp
 ·intro L a w' hL hsame hsz hJ AJ hcl
  have hb:=hJ.kept.toBelow (Nat.le_refl _) (by simp)
  refine Step.call _ rfl rfl (AU rfl) 53 #[] (fun ρ hρ=>?_) ?_
  ·skip
   have ef:ρ (.func 53)=.func (.func 53) #[] #[] :=(hρ _).symm
   clear hJ hsame AJ hcl hρ hsz hb
   go_simp
  ·refine(PL.out _).mono ?_
   rintro e w2 ⟨rfl,bb⟩
   exact⟨_,rfl,hJ.val hGS hcl hL rfl bb _ rfl⟩
 ·intro L a w' hL hsame hsz hJ AJ hcl
  have hb:=hJ.kept.toBelow (Nat.le_refl _) (by simp)
  have e0:a.eval (.tmp 7)=(.int .i64 r):=AQ (j:=0) (by kernel_rfl) (hJ.valOf (by decide) (AY AJ 0 (by kernel_rfl)) rfl rfl)
  have e1:a.eval (.tmp 8)=(.int .i64 c):=AQ (j:=1) (by kernel_rfl) (hJ.valOf (by decide) (AY AJ 1 (by kernel_rfl)) rfl rfl)
  have e2:a.eval (.tmp 9)=(.agg #[.int .i64 (-1),.int .i64 (-1),.int .i64 0]):=AQ (j:=2) (by kernel_rfl) (hJ.valOf (by decide) (AY AJ 2 (by kernel_rfl)) rfl rfl)
  refine Step.call _ rfl rfl (AU rfl) 52 #[.int .i64 r,.int .i64 c,.agg #[.int .i64 (-1),.int .i64 (-1),.int .i64 0]] (fun ρ hρ=>?_) ?_
  ·skip
   rw [hρ] at e0 e1 e2
   have ef:ρ (.func 52)=.func (.func 52) #[] #[] :=(hρ _).symm
   clear hJ hsame AJ hcl hρ hsz hb
   go_simp
  ·refine(NW.out _).mono ?_
   rintro e w2 ⟨v,rfl,⟨y,rfl,ho⟩,bb⟩
   obtain⟨A3,c3,rfl⟩:=Ac (G:=G) ⟨_,rfl,ho⟩
   exact⟨_,rfl,hJ.pred hGS hcl hL rfl bb _ ⟨A3,c3,rfl,ho⟩⟩
 ·intro L a w' hL hsame hsz hJ AJ hcl
  have hb:=hJ.kept.toBelow (Nat.le_refl _) (by simp)
  refine Step.call _ rfl rfl (AU rfl) 53 #[] (fun ρ hρ=>?_) ?_
  ·skip
   have ef:ρ (.func 53)=.func (.func 53) #[] #[] :=(hρ _).symm
   clear hJ hsame AJ hcl hρ hsz hb
   go_simp
  ·refine(PL.out _).mono ?_
   rintro e w2 ⟨rfl,bb⟩
   exact⟨_,rfl,hJ.val hGS hcl hL rfl bb _ rfl⟩
 ·intro L a w' hL hsame hsz hJ AJ hcl
  have hx:=hJ.Ah (HA.out) (by simp)
  have q0:w'.cell? ⟨gA,0,none⟩=some (.int .u8 66):=hx.cell 0
  have q1:w'.cell? ⟨gA,1,none⟩=some (.int .u8 66):=hx.cell 1
  refine Aw hJ hGS hcl hL 5 (.pointer (some ⟨gA,0,none⟩)) (.agg #[.int .u8 66,.int .u8 66]) (AZ hsame (by kernel_rfl)) _ rfl rfl rfl rfl rfl fun ρ _ e0=>?_
  clear hJ hsame AJ hcl hsz hx
  go_simp
 ·intro L a w' hL hsame hsz hJ AJ hcl
  have hb:=hJ.kept.toBelow (Nat.le_refl _) (by simp)
  refine Step.call _ rfl rfl (AU rfl) 53 #[] (fun ρ hρ=>?_) ?_
  ·skip
   have ef:ρ (.func 53)=.func (.func 53) #[] #[] :=(hρ _).symm
   clear hJ hsame AJ hcl hρ hsz hb
   go_simp
  ·refine(PL.out _).mono ?_
   rintro e w2 ⟨rfl,bb⟩
   exact⟨_,rfl,hJ.val hGS hcl hL rfl bb _ rfl⟩
 ·intro L a w' hL hsame hsz hJ AJ hcl
  have hx:=hJ.Ah (HA.out) (by simp)
  have q0:w'.cell? ⟨gA,0,none⟩=some (.int .u8 66):=hx.cell 0
  have q1:w'.cell? ⟨gA,1,none⟩=some (.int .u8 66):=hx.cell 1
  refine Aw hJ hGS hcl hL 5 (.pointer (some ⟨gA,0,none⟩)) (.agg #[.int .u8 66,.int .u8 66]) (AZ hsame (by kernel_rfl)) _ rfl rfl rfl rfl rfl fun ρ _ e0=>?_
  clear hJ hsame AJ hcl hsz hx
  go_simp
 ·intro L a w' hL hsame hsz hJ AJ hcl
  refine kI hJ hGS hcl hL 13 14 (.agg #[.int .i64 (-1),.int .i64 (-1),.int .i64 0]) (.agg #[.int .u8 66,.int .u8 66]) (.agg #[.int .i64 0,.int .i64 0,.int .i64 (-1),.int .i64 (-1),.int .i64 0,.int .u8 66,.int .u8 66,.int .i64 0,.bool false]) (gslot hJ AJ 6 (by kernel_rfl) (by kernel_rfl) (by decide) rfl rfl) (gslot hJ AJ 7 (by kernel_rfl) (by kernel_rfl) (by decide) rfl rfl) _ rfl rfl rfl rfl rfl fun ρ _ e0 e1=>?_
  clear hJ hsame AJ hcl hsz
  go_simp
 ·intro L a w' hL hsame hsz hJ AJ hcl
  have hb:=hJ.kept.toBelow (Nat.le_refl _) (by simp)
  obtain⟨A3,c3,hv3,ho3⟩:=(show(ES G) (valOf _ 3 a) w' from hJ.Bc (by decide) (AY AJ 3 (by kernel_rfl)) rfl)
  have e0:a.eval (.tmp 10)=.agg #[.int .i64 (G.rows:Nat),.int .i64 (G.AB:Nat),.slice A3 (G.rows*G.AB) c3] :=AQ (j:=3) (by kernel_rfl) hv3
  have e1:a.eval (.tmp 11)=(.agg #[.int .i64 (-1),.int .i64 (-1),.int .i64 0]):=AQ (j:=4) (by kernel_rfl) (hJ.valOf (by decide) (AY AJ 4 (by kernel_rfl)) rfl rfl)
  have e2:a.eval (.tmp 12)=(.agg #[.int .u8 66,.int .u8 66]):=AQ (j:=5) (by kernel_rfl) (hJ.valOf (by decide) (AY AJ 5 (by kernel_rfl)) rfl rfl)
  have e5:a.eval (.tmp 15)=(.agg #[.int .i64 0,.int .i64 0,.int .i64 (-1),.int .i64 (-1),.int .i64 0,.int .u8 66,.int .u8 66,.int .i64 0,.bool false]):=AQ (j:=8) (by kernel_rfl) (hJ.valOf (by decide) (AY AJ 8 (by kernel_rfl)) rfl rfl)
  refine Step.val _ rfl rfl (AU rfl) (.agg (scA (.slice A3 (G.rows*G.AB) c3) S0)) (w') (fun ρ hρ=>?_) (hJ.pred hGS hcl hL rfl (Below.refl _ _) _ (⟨A3,c3,rfl,ho3⟩))
  rw [hρ] at e0 e1 e2 e5
  have ec0:ρ (.const (.bool true))=(.bool true):=(hρ _).symm
  clear hJ hsame AJ hcl hρ hsz hb
  go_simp
  rw [HSE.out]
  rfl
 ·intro L a w' hL hsame hsz hJ AJ hcl
  have hb:=hJ.kept.toBelow (Nat.le_refl _) (by simp)
  obtain⟨A9,c9,hv9,ho9⟩:=(show(QJ G S0) (valOf _ 9 a) w' from hJ.Bc (by decide) (AY AJ 9 (by kernel_rfl)) rfl)
  have e0:a.eval (.tmp 16)=.agg (scA (.slice A9 (G.rows*G.AB) c9) S0):=AQ (j:=9) (by kernel_rfl) hv9
  refine Step.call _ rfl rfl (AU rfl) 51 #[.agg (scA (.slice A9 (G.rows*G.AB) c9) S0)] (fun ρ hρ=>?_) ?_
  ·skip
   rw [hρ] at e0
   have ef:ρ (.func 51)=.func (.func 51) #[] #[] :=(hρ _).symm
   clear hJ hsame AJ hcl hρ hsz hb
   go_simp
  ·refine(FT.out _ _ _ _).mono ?_
   rintro e w2 ⟨rfl,bb⟩
   exact⟨_,rfl,hJ.pred hGS hcl hL rfl bb _ ⟨A9,c9,rfl,Gu ho9 bb⟩⟩
 ·intro L u w' hF hall
  change wpList _ _ _ _ (Act.put (Act.put (Act.put (Act.put (Act.put (Act.put (Act.put (Act.put (Act.put (Act.put (Act.put (Act.put (Aq _ u 0 _) (some 7) (u 0)) (some 8) (u 1)) (some 9) (u 2)) (some 10) (u 3)) (some 11) (u 4)) (some 12) (u 5)) (some 13) (u 6)) (some 14) (u 7)) (some 15) (u 8)) (some 16) (u 9)) (some 17) (u 10)) none (u 11)) _
  simp only [Aq]
  obtain⟨A4,c4,f10,ho4⟩:=(show QJ G T (u 10) w' from hF.Bc (j:=10) (by decide) (hall 10 (by decide)) rfl)
  have hk:=hF.kept.toBelow (Nat.le_refl _) (by simp)
  clear hF
  generalize u 0=z0
  generalize u 1=z1
  generalize u 2=z2
  generalize u 3=z3
  generalize u 4=z4
  generalize u 5=z5
  generalize u 6=z6
  generalize u 7=z7
  generalize u 8=z8
  generalize u 9=z9
  generalize u 10=z10 at f10⊢
  generalize u 11=z11
  subst f10
  simp only [List.drop_succ_cons,List.drop_zero]
  refine AV (x:=.slice A4 (G.rows*G.AB) c4) (s:=T) (HR.out.below hk HR.out.lt) hsR rfl _ _ rfl (by go_simp) (by go_simp) rfl ?_
  intro w8 hB8 hk8 hs8
  change Exit.then _ _ Exit.normal _ _
  go_simp
  go_step
  refine wp_ret ?_
  (try simp only [Exit.then,Exit.inBlock])
  have hw:=HW.out.trans (hk.mono HW.out.size)
  refine bodyPost_ret (CR rfl rfl hB8) rfl ⟨_,rfl,⟨_,rfl,?_⟩,hw.trans (hk8.toBelow hw.size (fun k hh=>by simp at hh;omega))⟩
  rw [HGE.out]
  exact IsG.kept (G:=G) ⟨_,rfl,ho4⟩ (HR.out.below hk HR.out.lt) (by decide) hk8
end Go.Proofs.YtoaabebgmdbjeaaGreatDoor
namespace Go.Proofs.YtoaabebgmdbjeaaGreatDoor
open Go.RowKit
theorem Vk:(Tryz.prog.info? 37).map (·.size)=some 3:=by kernel_rfl
theorem CU {ops:Array Oper} {rest:List Oper} {o:Oper} {a:Act} {w:World} {Q:Exit->Act->World->Prop} {x y:Value} {s:SN.Sc} {g:Nat} {G:PG.Gr} (h:Aj w g x s) (hgd:o.guard=none) (p z:Operand) (ho:o.op=.store 37 p z) (hx:a.eval p=.pointer (some ⟨g,0,none⟩))
  (hy:a.eval z=.agg #[.int .i64 G.rows,.int .i64 G.AB,y]) (h1:y.oneCell'=true)
  (hk: ∀w',Aj w' g y (s.uG G)->Kept [some g] w w'->w'.heap.size=w.heap.size->wpList Tryz.prog ops Q rest (a.put o.dst undef) w'):wpList Tryz.prog ops Q (o::rest) a w:=
 Fj 0 h (by show 0+3<=(scA x s).size;rw [Le];decide) hgd _ p z ho hx hy Vk (by cases y<;>first | (simp [Value.oneCell'];done) | (simp [Value.oneCell'] at h1)) (fun w' h1 h2 h3=>hk w' (by
  have e:=Xw x y s G
  show Box w' g _ _
  rw [<- e]
  exact h1) h2 h3)
end Go.Proofs.YtoaabebgmdbjeaaGreatDoor
