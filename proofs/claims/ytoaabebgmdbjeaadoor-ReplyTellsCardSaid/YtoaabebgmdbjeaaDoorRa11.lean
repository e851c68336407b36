/- A part of the proof: ScreenFit, CursorRef, EditMem, GridEdit, ScreenEq, ScreenYes, CursorUse, ModesUse, TailTwo. -/
import Derived.Test.YtoaabebgmdbjeaaDoorRa10
set_option maxRecDepth 100000
set_option maxHeartbeats 16000000
set_option linter.unusedVariables false
namespace Go.Proofs.YtoaabebgmdbjeaaDoor
open Go.RowKit
def SN.Sc.fit (s:SN.Sc):SN.Sc:=((s.u6 0).u7 (s.g.rows-1)).u11 (TB.news s.g.AO)
theorem Li (s:SN.Sc) (A:Option Addr) (n cp:Nat) (h1:1<=s.g.rows) (h2:s.g.rows<=40) (h4:s.g.AO<=60) (w:World):
  Calls Tryd.prog 13 #[.agg (scA (.slice A n cp) s)] w fun e w'=>e=.returned (.agg (scA (.slice A n cp) s.fit))/\Below w.heap.size w w':=by
 have TBS:=hide (fun w'=>OT (s.g.AO:Nat) (TB.news s.g.AO) (by simp) w' (by omega) (by omega))
 obtain⟨b,hb,hb'⟩: ∃b:Nat,(s.g.rows:Int)-1=(b:Int)/\s.g.rows-1=b:=⟨s.g.rows-1,by omega,rfl⟩
 obtain⟨tb,htb⟩: ∃tb,TB.news s.g.AO=tb:=⟨_,rfl⟩
 rw [htb] at TBS
 have HS:=hide (show((s.u6 0).u7 b).u11 tb=s.fit by unfold SN.Sc.fit;rw [hb',htb])
 have EB:=hide hb
 clear hb hb' htb
 go_enter Tryd.func13,Tryd.ntmps13
 go_upto_region 1 with (first | (refine Ah rfl _ rfl rfl ?_;intro g w1 hB hb1 hg1) | (refine Bc rfl rfl ?_;intro gR w2 csR hR hsR hb2 hgR))
 have hB2:=hB.below hb2 hB.lt
 have hW2:=hb1.trans (hb2.mono hb1.size)
 have hb1s:=hb1.size
 have hne:gR≠g:=by have:=hB.lt;omega
 have hgR':w.heap.size<=gR:=by omega
 have k0:=hB2.c0
 have k6:=hB2.c6
 have k7:=hB2.c7
 have z6:=hB2.fz 6
 have z7:=hB2.fz 7
 clear hB hb1 hb2
 go_upto_region 2 with fail
 simp only [EB.out]
 have HB4:=hide ((hB2.QA 0).Dt b)
 have HR4:=hide ((hR.far (p:=⟨g,6,none⟩) hne (.int .i64 (0:Nat))).far (p:=⟨g,7,none⟩) hne (.int .i64 (b:Nat)))
 have HW4:=hide ((hW2.setCell (p:=⟨g,6,none⟩) hg1 (.int .i64 (0:Nat))).setCell (p:=⟨g,7,none⟩) hg1 (.int .i64 (b:Nat)))
 generalize ((w2.setCell ⟨g,6,none⟩ (.int .i64 (0:Nat))).setCell ⟨g,7,none⟩ (.int .i64 (b:Nat)))=w4 at HB4 HR4 HW4⊢
 clear k0 k6 k7 z6 z7 hB2 hR hW2
 have k1:w4.cell? ⟨g,1,none⟩=some (.int .i64 (s.g.AO:Nat)):=HB4.out.c1
 have k11:=HB4.out.c11
 have z11:=HB4.out.fz 11
 go_wp2_with fail
 refine(TBS.out _).mono ?_
 rintro e w' ⟨rfl,rfl⟩
 go_upto_region 3 with fail
 have HB5:=hide (HB4.out.QB tb)
 have HR5:=hide (HR4.out.far (p:=⟨g,11,none⟩) hne (.int .u64 (tb:Nat)))
 have HW5:=hide (HW4.out.setCell (p:=⟨g,11,none⟩) hg1 (.int .u64 (tb:Nat)))
 generalize (w4.setCell ⟨g,11,none⟩ (.int .u64 (tb:Nat)))=w5 at HB5 HR5 HW5⊢
 clear k1 k11 z11 HB4 HR4 HW4
 go_wp2_with (first | (refine BA HB5.out rfl _ rfl rfl ?_) | (refine BO HR5.out hsR rfl _ _ rfl rfl rfl rfl ?_;intro w8 hB8 hk8 hs8))
 refine bodyPost_ret (EC rfl rfl hB8) rfl ⟨by rw [HS.out],HW5.out.trans (hk8.toBelow HW5.out.size (fun k hk=>by simp at hk;omega))⟩
end Go.Proofs.YtoaabebgmdbjeaaDoor
namespace Go.Proofs.YtoaabebgmdbjeaaDoor
open Go.RowKit
def M0 (G:PG.Gr) (v:Value) (w:World):Prop:= ∃A c,v=gv G.rows G.AO (.slice A (G.rows*G.AO) c)/\w.ownsRow 0 66 5 (.slice A (G.rows*G.AO) c) (G.rows*G.AO) (AU (PG.cells G))
theorem M0.stays {Ts:List TypeId} {G:PG.Gr} (h:Ts.all (fun x=>x !=66)=true):C9 Ts (M0 G):=
 ⟨fun v w w' ⟨A,c,h1,h2⟩ hb=>⟨A,c,h1,Dr h2 hb⟩,fun v w w' g' T' cs' ⟨A,c,h1,h2⟩ hb hT hk=>⟨A,c,h1,Ch h2 hk (fun b hb' hm=>AP h2 hb (fun e=>by
  have:=List.all_eq_true.1 h _ hT
  simp [e] at this) (by simp at hm;rw [hb',hm]))⟩⟩
def Jj (G:PG.Gr) (S:SN.Sc) (v:Value) (w:World):Prop:= ∃A c,v=.agg (scA (.slice A (G.rows*G.AO) c) S)/\w.ownsRow 0 66 5 (.slice A (G.rows*G.AO) c) (G.rows*G.AO) (AU (PG.cells G))
theorem Jj.stays {Ts:List TypeId} {G:PG.Gr} {S:SN.Sc} (h:Ts.all (fun x=>x !=66)=true):C9 Ts (Jj G S):=
 ⟨fun v w w' ⟨A,c,h1,h2⟩ hb=>⟨A,c,h1,Dr h2 hb⟩,fun v w w' g' T' cs' ⟨A,c,h1,h2⟩ hb hT hk=>⟨A,c,h1,Ch h2 hk (fun b hb' hm=>AP h2 hb (fun e=>by
  have:=List.all_eq_true.1 h _ hT
  simp [e] at this) (by simp at hm;rw [hb',hm]))⟩⟩
theorem EW {z:Int} {m R:Nat} (hm:1<=m) (h:SN.cut z m=R):((R=1/\z<1)\/((R:Int)=z/\1<=z/\z<=m)\/(R=m/\(m:Int)<z))/\1<=R/\R<=m:=by
 unfold SN.cut at h
 omega
theorem Qd (r c:Int) (R K:Nat) (w:World) (hR:SN.cut r 40=R) (hK:SN.cut c 60=K) (hr: -1099511627776<=r/\r<=1099511627776) (hc: -1099511627776<=c/\c<=1099511627776):
  Calls Tryd.prog 14 #[.int .i64 r,.int .i64 c,pv PG.plain] w (KA w (PG.newG R K PG.plain)):=
 (OG r c R K PG.plain w (by omega) (by omega) (by omega) (by omega) (EW (by omega) hR).1 (EW (by omega) hK).1).mono fun e w' h=>MX h (PG.K9 R K PG.plain) rfl rfl
theorem OZ (r c:Int) (R K:Nat) (hR:SN.cut r 40=R) (hK:SN.cut c 60=K) (hr: -1099511627776<=r/\r<=1099511627776) (hc: -1099511627776<=c/\c<=1099511627776) (w:World):
  Calls Tryd.prog 5 #[.int .i64 r,.int .i64 c] w (Md w (SN.full R K)):=by
 obtain⟨_,hR1,hR2⟩:=EW (by omega) hR
 obtain⟨_,hK1,hK2⟩:=EW (by omega) hK
 have NW:=hide (fun w'=>(show Calls Tryd.prog 14 #[.int .i64 r,.int .i64 c,.agg #[.int .i64 (-1),.int .i64 (-1),.int .i64 0]] w' (KA w' (PG.newG R K PG.plain)) from Qd r c R K w' hR hK hr hc))
 have PL:=hide (fun w'=>(K7 w').mono fun e w'' (h:_/\_)=>(⟨h.1,h.2▸(Below.refl w'.heap.size w').alloc (Nat.le_refl _) _⟩:e=.returned (.agg #[.int .i64 (-1),.int .i64 (-1),.int .i64 0])/\Below w'.heap.size w' w''))
 have FT:=hide (fun A n cp w'=>Li ⟨PG.newG R K PG.plain,0,0,false,0,0,PG.plain,0,66,66,0,true,false,true,false,false,⟨0,0,PG.plain,66,66,0,false⟩⟩ A n cp (show 1<=R from hR1) (show R<=40 from hR2) (show K<=60 from hK2) w')
 have HGE:=hide (show(SN.full R K).g=PG.newG R K PG.plain from rfl)
 rw [show SN.Sc.fit ⟨PG.newG R K PG.plain,0,0,false,0,0,PG.plain,0,66,66,0,true,false,true,false,false,⟨0,0,PG.plain,66,66,0,false⟩⟩=SN.full R K from rfl] at FT
 generalize PG.newG R K PG.plain=G at NW FT HGE
 obtain⟨S0,hS0⟩: ∃S0:SN.Sc,S0=⟨G,0,0,false,0,0,PG.plain,0,66,66,0,true,false,true,false,false,⟨0,0,PG.plain,66,66,0,false⟩⟩:=⟨_,rfl⟩
 rw [<- hS0] at FT
 have HSE:=hide hS0
 generalize SN.full R K=T at FT HGE⊢
 clear hS0 hR hK hr hc
 go_enter Tryd.func5,Tryd.ntmps5
 go_upto_region 2 with (first | (refine Bc rfl rfl ?_;intro gR w1 csR hR hsR hb1 hgR))
 have HA:=hide (Box.new w1 28 #[.int .u8 66,.int .u8 66])
 have HR:=hide (hR.alloc (.cells #[.int .u8 66,.int .u8 66] 28))
 have HW:=hide (hb1.alloc hb1.size (.cells #[.int .u8 66,.int .u8 66] 28))
 generalize w1.heap.size=gA at HA⊢
 generalize w1.alloc (.cells #[.int .u8 66,.int .u8 66] 28)=w2 at HA HR HW⊢
 clear hR hb1
 refine Dq (n:=18) 11 [] (fun _=> #[]) [(0,0,0,0,0),(0,0,0,0,0),(0,0,0,0,0),(1,0,0,0,0),(0,0,0,0,0),(0,0,0,0,0),(0,0,0,0,0),(0,0,0,0,0),(0,0,0,0,0),(1,0,0,0,0),(1,0,0,0,0),(0,0,0,0,0)] (fun j=> [(.int .i64 r),(.int .i64 c),(.agg #[.int .i64 (-1),.int .i64 (-1),.int .i64 0]),undef,(.agg #[.int .i64 (-1),.int .i64 (-1),.int .i64 0]),(.agg #[.int .u8 66,.int .u8 66]),(.agg #[.int .i64 (-1),.int .i64 (-1),.int .i64 0]),(.agg #[.int .u8 66,.int .u8 66]),(.agg #[.int .i64 0,.int .i64 0,.int .i64 (-1),.int .i64 (-1),.int .i64 0,.int .u8 66,.int .u8 66,.int .i64 0,.bool false]),undef,undef,undef].getD j undef) [none,none,none,some (M0 G),none,none,none,none,none,some (Jj G S0),some (Jj G T)] (fun _=>0) (by kernel_rfl) (by kernel_rfl) (by kernel_rfl) rfl (by kernel_rfl) (by kernel_rfl) (Fv rfl) (fun i j h=>by revert h;exact Fv (p:=fun _=>_) rfl i) (Az.none_ (Az.none_ (Az.none_ (Az.some_ (M0.stays (by kernel_rfl)) (Az.none_ (Az.none_ (Az.none_ (Az.none_ (Az.none_ (Az.some_ (Jj.stays (by kernel_rfl)) (Az.some_ (Jj.stays (by kernel_rfl)) (Az.nil _)))))))))))) (fun hGS=>F3 ⟨?_,?_,?_,?_,?_,?_,?_,?_,?_,?_,?_⟩) ?_
 ·intro L a w' hL hsame hsz hJ AA hcl
  refine Bh hJ hGS hcl hL 0 (.int .i64 r) (.int .i64 r) (Aa hsame (by kernel_rfl)) _ rfl rfl rfl rfl rfl fun ρ _ e0=>?_
  clear hJ hsame AA hcl hsz
  go_simp
 ·intro L a w' hL hsame hsz hJ AA hcl
  refine Bh hJ hGS hcl hL 1 (.int .i64 c) (.int .i64 c) (Aa hsame (by kernel_rfl)) _ rfl rfl rfl rfl rfl fun ρ _ e0=>?_
  clear hJ hsame AA hcl hsz
  go_simp
 ·intro L a w' hL hsame hsz hJ AA hcl
  have hb:=hJ.kept.toBelow (Nat.le_refl _) (by simp)
  refine Step.call _ rfl rfl (AJ rfl) 15 #[] (fun ρ hρ=>?_) ?_
  ·skip
   have ef:ρ (.func 15)=.func (.func 15) #[] #[] :=(hρ _).symm
   clear hJ hsame AA hcl hρ hsz hb
   go_simp
  ·refine(PL.out _).mono ?_
   rintro e w2 ⟨rfl,bb⟩
   exact⟨_,rfl,hJ.val hGS hcl hL rfl bb _ rfl⟩
 ·intro L a w' hL hsame hsz hJ AA hcl
  have hb:=hJ.kept.toBelow (Nat.le_refl _) (by simp)
  have e0:a.eval (.tmp 7)=(.int .i64 r):=AB (j:=0) (by kernel_rfl) (hJ.valOf (by decide) (AL AA 0 (by kernel_rfl)) rfl rfl)
  have e1:a.eval (.tmp 8)=(.int .i64 c):=AB (j:=1) (by kernel_rfl) (hJ.valOf (by decide) (AL AA 1 (by kernel_rfl)) rfl rfl)
  have e2:a.eval (.tmp 9)=(.agg #[.int .i64 (-1),.int .i64 (-1),.int .i64 0]):=AB (j:=2) (by kernel_rfl) (hJ.valOf (by decide) (AL AA 2 (by kernel_rfl)) rfl rfl)
  refine Step.call _ rfl rfl (AJ rfl) 14 #[.int .i64 r,.int .i64 c,.agg #[.int .i64 (-1),.int .i64 (-1),.int .i64 0]] (fun ρ hρ=>?_) ?_
  ·skip
   rw [hρ] at e0 e1 e2
   have ef:ρ (.func 14)=.func (.func 14) #[] #[] :=(hρ _).symm
   clear hJ hsame AA hcl hρ hsz hb
   go_simp
  ·refine(NW.out _).mono ?_
   rintro e w2 ⟨v,rfl,⟨y,rfl,ho⟩,bb⟩
   obtain⟨A3,c3,rfl⟩:=Dk (G:=G) ⟨_,rfl,ho⟩
   exact⟨_,rfl,hJ.pred hGS hcl hL rfl bb _ ⟨A3,c3,rfl,ho⟩⟩
 ·intro L a w' hL hsame hsz hJ AA hcl
  have hb:=hJ.kept.toBelow (Nat.le_refl _) (by simp)
  refine Step.call _ rfl rfl (AJ rfl) 15 #[] (fun ρ hρ=>?_) ?_
  ·skip
   have ef:ρ (.func 15)=.func (.func 15) #[] #[] :=(hρ _).symm
   clear hJ hsame AA hcl hρ hsz hb
   go_simp
  ·refine(PL.out _).mono ?_
   rintro e w2 ⟨rfl,bb⟩
   exact⟨_,rfl,hJ.val hGS hcl hL rfl bb _ rfl⟩
 ·intro L a w' hL hsame hsz hJ AA hcl
  have hx:=hJ.BJ (HA.out) (by simp)
  have q0:w'.cell? ⟨gA,0,none⟩=some (.int .u8 66):=hx.cell 0
  have q1:w'.cell? ⟨gA,1,none⟩=some (.int .u8 66):=hx.cell 1
  refine Bh hJ hGS hcl hL 5 (.pointer (some ⟨gA,0,none⟩)) (.agg #[.int .u8 66,.int .u8 66]) (Aa hsame (by kernel_rfl)) _ rfl rfl rfl rfl rfl fun ρ _ e0=>?_
  clear hJ hsame AA hcl hsz hx
  go_simp
 ·intro L a w' hL hsame hsz hJ AA hcl
  have hb:=hJ.kept.toBelow (Nat.le_refl _) (by simp)
  refine Step.call _ rfl rfl (AJ rfl) 15 #[] (fun ρ hρ=>?_) ?_
  ·skip
   have ef:ρ (.func 15)=.func (.func 15) #[] #[] :=(hρ _).symm
   clear hJ hsame AA hcl hρ hsz hb
   go_simp
  ·refine(PL.out _).mono ?_
   rintro e w2 ⟨rfl,bb⟩
   exact⟨_,rfl,hJ.val hGS hcl hL rfl bb _ rfl⟩
 ·intro L a w' hL hsame hsz hJ AA hcl
  have hx:=hJ.BJ (HA.out) (by simp)
  have q0:w'.cell? ⟨gA,0,none⟩=some (.int .u8 66):=hx.cell 0
  have q1:w'.cell? ⟨gA,1,none⟩=some (.int .u8 66):=hx.cell 1
  refine Bh hJ hGS hcl hL 5 (.pointer (some ⟨gA,0,none⟩)) (.agg #[.int .u8 66,.int .u8 66]) (Aa hsame (by kernel_rfl)) _ rfl rfl rfl rfl rfl fun ρ _ e0=>?_
  clear hJ hsame AA hcl hsz hx
  go_simp
 ·intro L a w' hL hsame hsz hJ AA hcl
  refine gst2 hJ hGS hcl hL 13 14 (.agg #[.int .i64 (-1),.int .i64 (-1),.int .i64 0]) (.agg #[.int .u8 66,.int .u8 66]) (.agg #[.int .i64 0,.int .i64 0,.int .i64 (-1),.int .i64 (-1),.int .i64 0,.int .u8 66,.int .u8 66,.int .i64 0,.bool false]) (gslot hJ AA 6 (by kernel_rfl) (by kernel_rfl) (by decide) rfl rfl) (gslot hJ AA 7 (by kernel_rfl) (by kernel_rfl) (by decide) rfl rfl) _ rfl rfl rfl rfl rfl fun ρ _ e0 e1=>?_
  clear hJ hsame AA hcl hsz
  go_simp
 ·intro L a w' hL hsame hsz hJ AA hcl
  have hb:=hJ.kept.toBelow (Nat.le_refl _) (by simp)
  obtain⟨A3,c3,hv3,ho3⟩:=(show(M0 G) (valOf _ 3 a) w' from hJ.Ci (by decide) (AL AA 3 (by kernel_rfl)) rfl)
  have e0:a.eval (.tmp 10)=.agg #[.int .i64 (G.rows:Nat),.int .i64 (G.AO:Nat),.slice A3 (G.rows*G.AO) c3] :=AB (j:=3) (by kernel_rfl) hv3
  have e1:a.eval (.tmp 11)=(.agg #[.int .i64 (-1),.int .i64 (-1),.int .i64 0]):=AB (j:=4) (by kernel_rfl) (hJ.valOf (by decide) (AL AA 4 (by kernel_rfl)) rfl rfl)
  have e2:a.eval (.tmp 12)=(.agg #[.int .u8 66,.int .u8 66]):=AB (j:=5) (by kernel_rfl) (hJ.valOf (by decide) (AL AA 5 (by kernel_rfl)) rfl rfl)
  have e5:a.eval (.tmp 15)=(.agg #[.int .i64 0,.int .i64 0,.int .i64 (-1),.int .i64 (-1),.int .i64 0,.int .u8 66,.int .u8 66,.int .i64 0,.bool false]):=AB (j:=8) (by kernel_rfl) (hJ.valOf (by decide) (AL AA 8 (by kernel_rfl)) rfl rfl)
  refine Step.val _ rfl rfl (AJ rfl) (.agg (scA (.slice A3 (G.rows*G.AO) c3) S0)) (w') (fun ρ hρ=>?_) (hJ.pred hGS hcl hL rfl (Below.refl _ _) _ (⟨A3,c3,rfl,ho3⟩))
  rw [hρ] at e0 e1 e2 e5
  have ec0:ρ (.const (.bool true))=(.bool true):=(hρ _).symm
  clear hJ hsame AA hcl hρ hsz hb
  go_simp
  rw [HSE.out]
  rfl
 ·intro L a w' hL hsame hsz hJ AA hcl
  have hb:=hJ.kept.toBelow (Nat.le_refl _) (by simp)
  obtain⟨A9,c9,hv9,ho9⟩:=(show(Jj G S0) (valOf _ 9 a) w' from hJ.Ci (by decide) (AL AA 9 (by kernel_rfl)) rfl)
  have e0:a.eval (.tmp 16)=.agg (scA (.slice A9 (G.rows*G.AO) c9) S0):=AB (j:=9) (by kernel_rfl) hv9
  refine Step.call _ rfl rfl (AJ rfl) 13 #[.agg (scA (.slice A9 (G.rows*G.AO) c9) S0)] (fun ρ hρ=>?_) ?_
  ·skip
   rw [hρ] at e0
   have ef:ρ (.func 13)=.func (.func 13) #[] #[] :=(hρ _).symm
   clear hJ hsame AA hcl hρ hsz hb
   go_simp
  ·refine(FT.out _ _ _ _).mono ?_
   rintro e w2 ⟨rfl,bb⟩
   exact⟨_,rfl,hJ.pred hGS hcl hL rfl bb _ ⟨A9,c9,rfl,Dr ho9 bb⟩⟩
 ·intro L u w' hF hall
  change wpList _ _ _ _ (Act.put (Act.put (Act.put (Act.put (Act.put (Act.put (Act.put (Act.put (Act.put (Act.put (Act.put (Act.put (BH _ u 0 _) (some 7) (u 0)) (some 8) (u 1)) (some 9) (u 2)) (some 10) (u 3)) (some 11) (u 4)) (some 12) (u 5)) (some 13) (u 6)) (some 14) (u 7)) (some 15) (u 8)) (some 16) (u 9)) (some 17) (u 10)) none (u 11)) _
  simp only [BH]
  obtain⟨A4,c4,f10,ho4⟩:=(show Jj G T (u 10) w' from hF.Ci (j:=10) (by decide) (hall 10 (by decide)) rfl)
  have hk:=hF.kept.toBelow (Nat.le_refl _) (by simp)
  clear hF
  generalize u 0=z0
  generalize u 1=z1
  generalize u 2=z2
  generalize u 3=z3
  generalize u 4=z4
  generalize u 5=z5
  generalize u 6=z6
  generalize u 7=z7
  generalize u 8=z8
  generalize u 9=z9
  generalize u 10=z10 at f10⊢
  generalize u 11=z11
  subst f10
  simp only [List.drop_succ_cons,List.drop_zero]
  refine BO (x:=.slice A4 (G.rows*G.AO) c4) (s:=T) (HR.out.below hk HR.out.lt) hsR rfl _ _ rfl (by go_simp) (by go_simp) rfl ?_
  intro w8 hB8 hk8 hs8
  change Exit.then _ _ Exit.normal _ _
  go_simp
  go_step
  refine wp_ret ?_
  (try simp only [Exit.then,Exit.inBlock])
  have hw:=HW.out.trans (hk.mono HW.out.size)
  refine bodyPost_ret (EC rfl rfl hB8) rfl ⟨_,rfl,⟨_,rfl,?_⟩,hw.trans (hk8.toBelow hw.size (fun k hh=>by simp at hh;omega))⟩
  rw [HGE.out]
  exact IsG.kept (G:=G) ⟨_,rfl,ho4⟩ (HR.out.below hk HR.out.lt) (by decide) hk8
end Go.Proofs.YtoaabebgmdbjeaaDoor
namespace Go.Proofs.YtoaabebgmdbjeaaDoor
open Go.RowKit
end Go.Proofs.YtoaabebgmdbjeaaDoor
namespace Go.Proofs.YtoaabebgmdbjeaaDoor
open Go.RowKit
end Go.Proofs.YtoaabebgmdbjeaaDoor
namespace Go.Proofs.YtoaabebgmdbjeaaDoor
open Go.RowKit
end Go.Proofs.YtoaabebgmdbjeaaDoor
namespace Go.Proofs.YtoaabebgmdbjeaaDoor.PG
end Go.Proofs.YtoaabebgmdbjeaaDoor.PG
namespace Go.Proofs.YtoaabebgmdbjeaaDoor
open Go.RowKit
structure TJ (m:Nat) (E:Bool->World->Prop) (vals:Nat->Value) (L:Nat->Bool) (u:Nat->Value) (wx:World):Prop where
 put:E (L m) wx
 all: ∀j,j<m->L j=true->u j=vals j
section
variable {m:Nat} {E:Bool->World->Prop} {vals:Nat->Value} {L:Nat->Bool} {u u':Nat->Value} {wx wy:World}
theorem TJ.val (h:TJ m E vals L u wx) (st: ∀b x y,E b x->Below x.heap.size x y->E b y) {i:Nat} (hi:i<m) (b:Below wx.heap.size wx wy) (v:Value) (hv:vals i=v):TJ m E vals (mark L i) (upd u i v) wy:=by
 refine⟨?_,fun j hj hl=>?_⟩
 ·rw [Cq (show m≠i by omega)]
  exact st _ _ _ h.put b
 ·by_cases e:j=i
  ·subst e
   rw [CU]
   exact hv.symm
  ·rw [Cz e]
   rw [Cq e] at hl
   exact h.all j hj hl
theorem TJ.same (he: ∀j,j<m+1->u j=u' j) (h:TJ m E vals L u wx):TJ m E vals L u' wx:=⟨h.put,fun j hj hl=>(he j (by omega)).symm.trans (h.all j hj hl)⟩
end
def EIn (w:World) (R K n g cap:Nat) (p:PG.Pn) (l:List PG.Cl) (wx:World):Prop:=
 Box wx w.heap.size 24 #[.int .i64 R,.int .i64 K,.slice (some ⟨g,0,none⟩) n cap] /\Box wx (w.heap.size+1) 26 #[.int .i64 p.1,.int .i64 p.2.1,.int .i64 p.2.2] /\Box wx (w.heap.size+1+1) 24 #[.int .i64 0,.int .i64 0,.slice none 0 0] /\
 wx.ownsRow w.heap.size 66 5 (.slice (some ⟨g,0,none⟩) n cap) n (AU l)/\Below w.heap.size w wx
section
variable {w wx wy:World} {R K n g cap:Nat} {p:PG.Pn} {l l2:List PG.Cl}
theorem EIn.call (h:EIn w R K n g cap p l wx) (b:Below wx.heap.size wx wy):EIn w R K n g cap p l wy:=
 ⟨h.1.below b h.1.lt,h.2.1.below b h.2.1.lt,h.2.2.1.below b h.2.2.1.lt,h.2.2.2.1.kept (Ce b none) (by simp [Value.ownBlock]),h.2.2.2.2.trans (b.mono h.2.2.2.2.size)⟩
theorem EIn.drew (h:EIn w R K n g cap p l wx):EIn w R K n g cap p l wx.drew:=⟨h.1.drew,h.2.1.drew,h.2.2.1.drew,h.2.2.2.1,h.2.2.2.2.drew⟩
theorem EIn.wrote (h:EIn w R K n g cap p l wx) (o:wy.ownsRow w.heap.size 66 5 (.slice (some ⟨g,0,none⟩) n cap) n (AU l2)) (k:Kept [some g] wx wy):EIn w R K n g cap p l2 wy:=by
 have n0:=AP h.2.2.2.1 h.1 (by decide)
 have n1:=AP h.2.2.2.1 h.2.1 (by decide)
 have n2:=AP h.2.2.2.1 h.2.2.1 (by decide)
 have lt:=(h.2.2.2.1.lt g rfl).1
 have hn: ∀q,(Value.slice (some ⟨g,0,none⟩) n cap).ownBlock≠some q->some q∉ [some g] :=fun q hq hm=>hq (by
  simp only [List.mem_singleton,Option.some.injEq] at hm
  rw [hm]
  rfl)
 exact⟨h.1.kept k (hn _ n0),h.2.1.kept k (hn _ n1),h.2.2.1.kept k (hn _ n2),o,h.2.2.2.2.trans (k.toBelow h.2.2.2.2.size (fun q hq=>by simp at hq;omega))⟩
theorem EIn.grown (h:EIn w R K n g cap p l wx) (o:wy.ownsRow w.heap.size 66 5 (.slice (some ⟨g,0,none⟩) n cap) n (AU l2)) (k:wx.grownBy wy (some g)):EIn w R K n g cap p l2 wy:=h.wrote o (Kept.JO k)
end
section
variable {G:PG.Gr} (hG:PG.D5 G) {r c n cp cap g base:Nat} {w:World}
include hG
end
end Go.Proofs.YtoaabebgmdbjeaaDoor
namespace Go.Proofs.YtoaabebgmdbjeaaDoor
open Go.RowKit
end Go.Proofs.YtoaabebgmdbjeaaDoor
namespace Go.Proofs.YtoaabebgmdbjeaaDoor
open Go.RowKit
end Go.Proofs.YtoaabebgmdbjeaaDoor
namespace Go.Proofs.YtoaabebgmdbjeaaDoor
open Go.RowKit
end Go.Proofs.YtoaabebgmdbjeaaDoor
namespace Go.Proofs.YtoaabebgmdbjeaaDoor
open Go.RowKit
end Go.Proofs.YtoaabebgmdbjeaaDoor
namespace Go.Proofs.YtoaabebgmdbjeaaDoor
open Go.RowKit
def EEr (w:World) (R K n cp:Nat) (A:Option Addr) (g cap gb:Nat) (p:PG.Pn) (l:List PG.Cl) (wx:World):Prop:=
 Box wx w.heap.size 24 #[.int .i64 R,.int .i64 K,.slice A n cp] /\Box wx (w.heap.size+1) 26 #[.int .i64 p.1,.int .i64 p.2.1,.int .i64 p.2.2] /\Box wx (w.heap.size+1+1) 24 #[.int .i64 0,.int .i64 0,.slice none 0 0] /\
 Box wx gb 24 #[.int .i64 R,.int .i64 K,.slice (some ⟨g,0,none⟩) n cap] /\w.heap.size+1+1<gb/\wx.ownsRow w.heap.size 66 5 (.slice (some ⟨g,0,none⟩) n cap) n (AU l)/\Below w.heap.size w wx
section
variable {w wx wy:World} {R K n cp g cap gb:Nat} {A:Option Addr} {p:PG.Pn} {l l2:List PG.Cl}
theorem EEr.call (h:EEr w R K n cp A g cap gb p l wx) (b:Below wx.heap.size wx wy):EEr w R K n cp A g cap gb p l wy:=
 ⟨h.1.below b h.1.lt,h.2.1.below b h.2.1.lt,h.2.2.1.below b h.2.2.1.lt,h.2.2.2.1.below b h.2.2.2.1.lt,h.2.2.2.2.1,h.2.2.2.2.2.1.kept (Ce b none) (by simp [Value.ownBlock]),h.2.2.2.2.2.2.trans (b.mono h.2.2.2.2.2.2.size)⟩
theorem EEr.drew (h:EEr w R K n cp A g cap gb p l wx):EEr w R K n cp A g cap gb p l wx.drew:=⟨h.1.drew,h.2.1.drew,h.2.2.1.drew,h.2.2.2.1.drew,h.2.2.2.2.1,h.2.2.2.2.2.1,h.2.2.2.2.2.2.drew⟩
theorem EEr.wrote (h:EEr w R K n cp A g cap gb p l wx) (o:wy.ownsRow w.heap.size 66 5 (.slice (some ⟨g,0,none⟩) n cap) n (AU l2)) (k:Kept [some g] wx wy):EEr w R K n cp A g cap gb p l2 wy:=by
 have ho:=h.2.2.2.2.2.1
 have hb:=h.2.2.2.2.2.2
 have n0:=AP ho h.1 (by decide)
 have n1:=AP ho h.2.1 (by decide)
 have n2:=AP ho h.2.2.1 (by decide)
 have n3:=AP ho h.2.2.2.1 (by decide)
 have lt:=(ho.lt g rfl).1
 have hn: ∀q,(Value.slice (some ⟨g,0,none⟩) n cap).ownBlock≠some q->some q∉ [some g] :=fun q hq hm=>hq (by
  simp only [List.mem_singleton,Option.some.injEq] at hm
  rw [hm]
  rfl)
 exact⟨h.1.kept k (hn _ n0),h.2.1.kept k (hn _ n1),h.2.2.1.kept k (hn _ n2),h.2.2.2.1.kept k (hn _ n3),h.2.2.2.2.1,o,hb.trans (k.toBelow hb.size (fun q hq=>by simp at hq;omega))⟩
end
namespace PG
end PG
end Go.Proofs.YtoaabebgmdbjeaaDoor
namespace Go.Proofs.YtoaabebgmdbjeaaDoor
open Go.RowKit
section
variable {G:PG.Gr} {v:Value} {w:World}
end
end Go.Proofs.YtoaabebgmdbjeaaDoor
namespace Go.Proofs.YtoaabebgmdbjeaaDoor
open Go Go.RowKit
end Go.Proofs.YtoaabebgmdbjeaaDoor
namespace Go.Proofs.YtoaabebgmdbjeaaDoor
open Go.RowKit
end Go.Proofs.YtoaabebgmdbjeaaDoor
namespace Go.Proofs.YtoaabebgmdbjeaaDoor
open Go.RowKit
theorem DZ {w:World} {g:Nat} {cs:Array Value} (h:Box w g 32 cs) (hs:cs.size=29) (ρ:Operand->Value) (o:Oper) {y:Operand} (ho:o.op=.load 32 y) (hy:ρ y=.pointer (some ⟨g,0,none⟩)):
  (execOp ρ o).run Tryd.prog w=.ok (.value (.agg cs)) w:=by
 obtain⟨d,hu,hd⟩:=Eo
 have e:(.agg cs:Value)=.agg cs.toList.toArray:=by simp
 unfold execOp
 simp only [ho,hy,Instr.loadAt,Instr.sureAddr,Sem.run_bind,Sem.run_pure,Result.andThen_ok,run_loadVar_mid w g 0 32 cs.toList d h.rangeAt hu hd (by rw [DR];simp [hs])]
def Qe (S:SN.Sc) (v:Value) (w:World):Prop:= ∃A c,v=.agg (scA (.slice A (S.g.rows*S.g.AO) c) S)/\IsG w S.g (gv S.g.rows S.g.AO (.slice A (S.g.rows*S.g.AO) c))
theorem Qe.stays {Ts:List TypeId} {S:SN.Sc} (h:Ts.all (fun x=>x !=66)=true):C9 Ts (Qe S):=
 ⟨fun v w w' ⟨A,c,h1,h2⟩ hb=>⟨A,c,h1,h2.low hb⟩,fun v w w' g' T' cs' ⟨A,c,h1,h2⟩ hb hT hk=>⟨A,c,h1,h2.kept hb (fun e=>by
  have:=List.all_eq_true.1 h _ hT
  simp [e] at this) hk⟩⟩
end Go.Proofs.YtoaabebgmdbjeaaDoor
namespace Go.Proofs.YtoaabebgmdbjeaaDoor
open Go.RowKit
namespace SN
end SN
end Go.Proofs.YtoaabebgmdbjeaaDoor
namespace Go.Proofs.YtoaabebgmdbjeaaDoor
open Go.RowKit
end Go.Proofs.YtoaabebgmdbjeaaDoor
namespace Go.Proofs.YtoaabebgmdbjeaaDoor
open Go.RowKit
end Go.Proofs.YtoaabebgmdbjeaaDoor
namespace Go.Proofs.YtoaabebgmdbjeaaDoor
open Go Go.RowKit
end Go.Proofs.YtoaabebgmdbjeaaDoor
namespace Go.Proofs.YtoaabebgmdbjeaaDoor
open Go Go.RowKit
def Bl:Array Value:= #[.int .i64 1,.int .i64 6,.int .i64 7,.int .i64 25]
def EL (w:World):Prop:= ∃t,w.heap[0]? =some (.cells Bl t (0,0))
theorem EL.lt {w:World} (h:EL w):0<w.heap.size:=by
 obtain⟨t,h⟩:=h
 exact(Array.getElem?_eq_some_iff.1 h).1
theorem EL.below {w w':World} {B:Nat} (h:EL w) (hb:Below B w w') (hB:0<B):EL w':=by
 obtain⟨t,h⟩:=h
 exact⟨t,(hb.block _ hB).trans h⟩
theorem EL.keep {w w':World} (h:EL w) (hb:Below w.heap.size w w'):EL w':=h.below hb h.lt
theorem Pf:Tryd.prog.globalNamed "linguist/modes.known" =some 0:=by kernel_rfl
theorem Pg:(Tryd.prog.globals[0]?).map (·.type)=some 90:=by kernel_rfl
theorem KL:tiled Tryd.prog 4 90=true:=by kernel_rfl
theorem Lj:flat (H:=Unit) Rows.laid_linguist_modes_known=some Bl.toList:=by rfl
theorem Gl {w:World} {l:List (String × DataW Unit)} (h:laidMet Tryd.prog l w) (hm:("linguist/modes.known",Rows.laid_linguist_modes_known)∈l):EL w:=by
 obtain⟨t,ht⟩:=DW 4 Pf Pg KL Lj (by simp [Bl]) h hm
 exact⟨t,by simpa using ht⟩
theorem Qf (w:World):(Instr.index 90 (.agg Bl) (.int .i64 0)).run Tryd.prog w=.ok (.int .i64 1) w:=by kernel_rfl
theorem Qg (w:World):(Instr.index 90 (.agg Bl) (.int .i64 1)).run Tryd.prog w=.ok (.int .i64 6) w:=by kernel_rfl
theorem Qh (w:World):(Instr.index 90 (.agg Bl) (.int .i64 2)).run Tryd.prog w=.ok (.int .i64 7) w:=by kernel_rfl
theorem Qi (w:World):(Instr.index 90 (.agg Bl) (.int .i64 3)).run Tryd.prog w=.ok (.int .i64 25) w:=by kernel_rfl
theorem KM:(Tryd.prog.info? 90).map (·.size)=some Bl.size:=by kernel_rfl
def FZ (n:Int) (k:Nat):Prop:= ∀j:Nat,j<k->(([1,6,7,25] :List Int).getD j 0)≠n
theorem FZ.next {n:Int} {k:Nat} (h:FZ n k) (hk:(([1,6,7,25] :List Int).getD k 0)≠n):FZ n (k+1):=fun j hj=>by
 by_cases e:j=k
 ·subst e
  exact hk
 ·exact h j (by omega)
theorem FZ.none {n:Int} (h:FZ n 4): ¬SN.BU n:=fun hm=>by
 rcases hm with rfl | rfl | rfl | rfl
 ·exact h 0 (by omega) rfl
 ·exact h 1 (by omega) rfl
 ·exact h 2 (by omega) rfl
 ·exact h 3 (by omega) rfl
theorem Ll (n:Int) (w:World) (hT:EL w):Calls Tryd.prog 44 #[.int .i64 n] w fun e w'=>e=.returned (.bool (decide (SN.BU n)))/\Below w.heap.size w w':=by
 have HY:=hide (fun (b:Bool) (h:b=true->SN.BU n) (h':b=false-> ¬SN.BU n)=>(show Ending.returned (.bool b)=.returned (.bool (decide (SN.BU n))) from by
  cases b
  ·rw [decide_eq_false (h' rfl)]
  ·rw [decide_eq_true (h rfl)]))
 obtain⟨tt,hg⟩:=hT
 have lt:0<w.heap.size:=(Array.getElem?_eq_some_iff.1 hg).1
 have i0:=Qf
 have i1:=Qg
 have i2:=Qh
 have i3:=Qi
 have hsz:Bl.size=4:=rfl
 generalize hcs:Bl=cs at hg hsz i0 i1 i2 i3
 have Kr:(Tryd.prog.info? 90).map (·.size)=some cs.size:=by rw [<- hcs];exact KM
 have SC:=hide Kr
 clear hcs hsz Kr
 go_enter Tryd.func44,Tryd.ntmps44
 go_wp2_with (refine wpList_load_row rfl 90 _ rfl 0 rfl tt cs (0,0) _ hg Tryd.underlying90 rfl SC.out ?_)
 go_loopw [6] (fun i wr=> ∃k:Nat,k<=4/\i=.int .i64 k/\FZ n k/\Below w.heap.size w wr) (fun i _=>4-(intOf i).toNat)
 case atStart=>exact⟨0,by omega,rfl,fun j hj=>absurd hj (by omega),Below.refl _ _⟩
 case round=>
  obtain⟨k,hk,rfl,hf,hbel⟩:=hrel
  have hsz:=hbel.size
  have HF:=hide hf
  clear hf
  obtain hlt | rfl:k<4\/k=4:=by omega
  ·obtain rfl | rfl | rfl | rfl:k=0\/k=1\/k=2\/k=3:=by omega
   ·by_cases ha:n=1
    ·subst ha
     go_wp2
     go_ret
     exact⟨HY.out true (fun _=>by unfold SN.BU;omega) (fun h=>by cases h),hbel⟩
    ·have eq:((1:Int)==n)=false:=by simp;omega
     go_wp2
     go_roundw
     case rel=>exact⟨1,by omega,by go_num,HF.out.next (show(1:Int)≠n by omega),hbel⟩
     case measure=>simp [intOf]
   ·by_cases ha:n=6
    ·subst ha
     go_wp2
     go_ret
     exact⟨HY.out true (fun _=>by unfold SN.BU;omega) (fun h=>by cases h),hbel⟩
    ·have eq:((6:Int)==n)=false:=by simp;omega
     go_wp2
     go_roundw
     case rel=>exact⟨2,by omega,by go_num,HF.out.next (show(6:Int)≠n by omega),hbel⟩
     case measure=>simp [intOf]
   ·by_cases ha:n=7
    ·subst ha
     go_wp2
     go_ret
     exact⟨HY.out true (fun _=>by unfold SN.BU;omega) (fun h=>by cases h),hbel⟩
    ·have eq:((7:Int)==n)=false:=by simp;omega
     go_wp2
     go_roundw
     case rel=>exact⟨3,by omega,by go_num,HF.out.next (show(7:Int)≠n by omega),hbel⟩
     case measure=>simp [intOf]
   ·by_cases ha:n=25
    ·subst ha
     go_wp2
     go_ret
     exact⟨HY.out true (fun _=>by unfold SN.BU;omega) (fun h=>by cases h),hbel⟩
    ·have eq:((25:Int)==n)=false:=by simp;omega
     go_wp2
     go_roundw
     case rel=>exact⟨4,by omega,by go_num,HF.out.next (show(25:Int)≠n by omega),hbel⟩
     case measure=>simp [intOf]
  ·go_wp2
   go_ret
   exact⟨HY.out false (fun h=>by cases h) (fun _=>HF.out.none),hbel⟩
theorem Lm (s:SN.Sc) (v:Value) (n:Int) (w:World) (h:IsS w s v):Calls Tryd.prog 45 #[v,.int .i64 n] w fun e w'=>e=.returned (.bool (SN.Dy s n))/\Below w.heap.size w w':=by
 obtain⟨x,rfl,hg⟩:=h
 obtain⟨A,cp,rfl⟩:=Dk hg
 clear hg
 unfold SN.Dy
 by_cases h1:n=1
 ·rw [if_pos h1]
  subst h1
  go_enter Tryd.func45,Tryd.ntmps45
  go_upto_region 1 with (first | (refine Ah rfl _ rfl rfl ?_;intro g w1 hB hb1 hg1))
  have k18:=hB.c18
  go_wp2_with fail
  go_ret
  exact⟨rfl,hb1⟩
 rw [if_neg h1]
 by_cases h2:n=6
 ·rw [if_pos h2]
  subst h2
  go_enter Tryd.func45,Tryd.ntmps45
  go_upto_region 1 with (first | (refine Ah rfl _ rfl rfl ?_;intro g w1 hB hb1 hg1))
  have k16:=hB.c16
  go_wp2_with fail
  go_ret
  exact⟨rfl,hb1⟩
 rw [if_neg h2]
 by_cases h3:n=7
 ·rw [if_pos h3]
  subst h3
  go_enter Tryd.func45,Tryd.ntmps45
  go_upto_region 1 with (first | (refine Ah rfl _ rfl rfl ?_;intro g w1 hB hb1 hg1))
  have k15:=hB.c15
  go_wp2_with fail
  go_ret
  exact⟨rfl,hb1⟩
 rw [if_neg h3]
 have e1:(n==1)=false:=by simp;omega
 have e2:(n==6)=false:=by simp;omega
 have e3:(n==7)=false:=by simp;omega
 clear h1 h2 h3
 go_enter Tryd.func45,Tryd.ntmps45
 go_upto_region 1 with (first | (refine Ah rfl _ rfl rfl ?_;intro g w1 hB hb1 hg1))
 have k17:=hB.c17
 go_wp2_with fail
 go_ret
 exact⟨rfl,hb1⟩
theorem KO (s:SN.Sc) (v:Value) (n:Int) (w:World) (hT:EL w) (h:IsS w s v):Calls Tryd.prog 29 #[v,.int .i64 n] w fun e w'=>e=.returned (.int .i64 (SN.Ad s n))/\Below w.heap.size w w':=by
 have KN:=hide (fun w' (hb:Below w.heap.size w w')=>Ll n w' (hT.keep hb))
 obtain⟨x,rfl,hg⟩:=h
 obtain⟨A,cp,rfl⟩:=Dk hg
 have HG:=hide hg
 obtain⟨b,hb⟩: ∃b,decide (SN.BU n)=b:=⟨_,rfl⟩
 rw [hb] at KN
 have HV:=hide (fun w' v' h=>Lm s v' n w' h)
 obtain⟨q,hq⟩: ∃q,SN.Dy s n=q:=⟨_,rfl⟩
 rw [hq] at HV
 obtain⟨r,hr⟩: ∃r,SN.Ad s n=r:=⟨_,rfl⟩
 have ER:=hide (show r=if b=true then (if q=true then 1 else 2) else 0 by
  subst hr hb hq
  unfold SN.Ad
  simp only [decide_eq_true_eq])
 rw [hr]
 clear hg hb hq hr hT
 go_enter Tryd.func29,Tryd.ntmps29
 go_upto_region 1 with (first | (refine Ah rfl _ rfl rfl ?_;intro g w1 hB hb1 hg1))
 have HB1:=hide hB
 have HW1:=hide hb1
 have HG1:=hide (HG.out.low HW1.out)
 clear hB hb1 HG
 go_wp2_with fail
 refine(KN.out _ HW1.out).mono ?_
 rintro e w2 ⟨rfl,hb2⟩
 have HB2:=hide (HB1.out.below hb2 HB1.out.lt)
 have HW2:=hide (HW1.out.trans (hb2.mono HW1.out.size))
 have HG2:=hide (HG1.out.low hb2)
 clear hb2 HB1 HW1 HG1
 cases b with
 | false=>
  obtain rfl:r=0:=ER.out
  go_wp2_with fail
  go_ret
  exact⟨rfl,HW2.out⟩
 | true=>
  go_wp2_with (refine BA HB2.out rfl _ rfl rfl ?_)
  refine(HV.out _ _ ⟨_,rfl,HG2.out⟩).mono ?_
  rintro e w3 ⟨rfl,hb3⟩
  have HW3:=hide (HW2.out.trans (hb3.mono HW2.out.size))
  clear hb3 HB2 HW2 HG2
  cases q with
  | false=>
   obtain rfl:r=2:=ER.out
   go_wp2_with fail
   go_ret
   exact⟨rfl,HW3.out⟩
  | true=>
   obtain rfl:r=1:=ER.out
   go_wp2_with fail
   go_ret
   exact⟨rfl,HW3.out⟩
end Go.Proofs.YtoaabebgmdbjeaaDoor
namespace Go.Proofs.YtoaabebgmdbjeaaDoor
open Go Go.RowKit
section
variable {P:Program} {ops:Array Oper} {Q:Exit->Act->World->Prop}
end
end Go.Proofs.YtoaabebgmdbjeaaDoor
