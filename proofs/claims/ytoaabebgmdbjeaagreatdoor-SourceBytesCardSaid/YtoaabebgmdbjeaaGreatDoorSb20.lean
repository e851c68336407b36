/- A part of the proof: SourceExec, TailTwo, GridErase, WipeTo. -/
import Derived.Test.YtoaabebgmdbjeaaGreatDoorSb16
set_option maxRecDepth 100000
set_option maxHeartbeats 16000000
set_option linter.unusedVariables false
namespace Go.Proofs.YtoaabebgmdbjeaaGreatDoor
open Go Go.RowKit
theorem FU (s t:SN.Sc) (v:Value) (w:World) (hs:SN.Ac s) (ht:SN.atS s s.row 0=t) (h:IsS w s v):Calls Tryz.prog 134 #[v] w (BD w t):=by
 obtain⟨x,rfl,hg⟩:=h
 obtain⟨A,cp,rfl⟩:=Ad hg
 have HG:=hide hg
 have hgr:=hs.g.2.1
 have hgc:=hs.g.2.2.2.1
 have hR1:=hs.g.1
 have hK1:=hs.g.2.2.1
 have hrow:=hs.row
 have CJ:=hs.col
 have AT:=hide (fun w' v' h=>(show Calls Tryz.prog 109 #[v',.int .i64 (s.row:Nat),.int .i64 0] w' (BD w' t) from ht▸FH s v' (s.row:Nat) 0 w' hs (by omega) (by omega) h))
 clear ht hs hg
 go_enter Tryz.func134,Tryz.ntmps134
 go_upto_region 1 with (refine Bc HG _ rfl rfl rfl rfl rfl ?_;intro g gR w2 csR hsR HB2 HW2 HR2 HG2 hne hg1 Ai)
 clear HG
 have k3:=HB2.out.c3
 go_wp2_with (refine AX HB2.out rfl _ rfl rfl ?_)
 refine(AT.out _ _ ⟨_,rfl,HG2.out⟩).mono (Al HR2 HW2 fun A7 c7 w7 HR7 HW7 HG7=>?_)
 clear k3
 clear HB2 HR2 HW2 HG2
 go_wp2_with (refine AQ HR7.out hsR rfl _ _ rfl rfl rfl rfl ?_;intro w8 hB8 hk8 hs8)
 exact BX rfl rfl rfl hB8 HG7 HR7 HW7 hk8 Ai
theorem iy (s t:SN.Sc) (v:Value) (w:World) (hs:SN.Ac s) (ht:SN.Fq s 8=t) (h:IsS w s v):Calls Tryz.prog 100 #[v,.int .u8 8] w (BD w t):=by
 obtain⟨x,rfl,hg⟩:=h
 obtain⟨A,cp,rfl⟩:=Ad hg
 have HG:=hide hg
 have hgr:=hs.g.2.1
 have hgc:=hs.g.2.2.2.1
 have hR1:=hs.g.1
 have hK1:=hs.g.2.2.1
 have hrow:=hs.row
 have CJ:=hs.col
 have AT:=hide (fun w' v' h=>(show Calls Tryz.prog 109 #[v',.int .i64 (s.row:Nat),.int .i64 ((s.col:Int)-1)] w' (BD w' t) from ht▸FH s v' (s.row:Nat) ((s.col:Int)-1) w' hs (by omega) (by omega) h))
 clear ht hs hg
 go_enter Tryz.func100,Tryz.ntmps100
 go_upto_region 1 with (refine Bc HG _ rfl rfl rfl rfl rfl ?_;intro g gR w2 csR hsR HB2 HW2 HR2 HG2 hne hg1 Ai)
 clear HG
 have k3:=HB2.out.c3
 have k4:=HB2.out.c4
 go_wp2_with (refine AX HB2.out rfl _ rfl rfl ?_)
 refine(AT.out _ _ ⟨_,rfl,HG2.out⟩).mono (Al HR2 HW2 fun A7 c7 w7 HR7 HW7 HG7=>?_)
 clear k3 k4
 clear HB2 HR2 HW2 HG2
 go_wp2_with (refine AQ HR7.out hsR rfl _ _ rfl rfl rfl rfl ?_;intro w8 hB8 hk8 hs8)
 exact BX rfl rfl rfl hB8 HG7 HR7 HW7 hk8 Ai
theorem jA (s t:SN.Sc) (v:Value) (w:World) (hs:SN.Ac s) (hT:JZ w) (ht:SN.Fq s 9=t) (h:IsS w s v):Calls Tryz.prog 100 #[v,.int .u8 9] w (BD w t):=by
 obtain⟨x,rfl,hg⟩:=h
 obtain⟨A,cp,rfl⟩:=Ad hg
 have HG:=hide hg
 have hgr:=hs.g.2.1
 have hgc:=hs.g.2.2.2.1
 have hR1:=hs.g.1
 have hK1:=hs.g.2.2.1
 have hrow:=hs.row
 have CJ:=hs.col
 obtain⟨nx,hnx⟩: ∃nx,TB.next s.tabs s.col s.g.AB=nx:=⟨_,rfl⟩
 have hn:=TB.bW (t:=s.tabs) (c:=s.col) hK1
 rw [hnx] at hn
 have NX:=hide (fun w' (hb:Below w.heap.size w w')=>YG s.tabs s.col s.g.AB nx hnx w' hs.tabs (hT.keep hb) (by omega) (by omega) (by omega))
 have AT:=hide (fun w' v' h=>(show Calls Tryz.prog 109 #[v',.int .i64 (s.row:Nat),.int .i64 (nx:Nat)] w' (BD w' t) from(show SN.atS s s.row nx=t by rw [<- hnx];exact ht)▸FH s v' (s.row:Nat) (nx:Nat) w' hs (by omega) (by omega) h))
 clear ht hs hg hnx hT
 go_enter Tryz.func100,Tryz.ntmps100
 go_upto_region 1 with (refine Bc HG _ rfl rfl rfl rfl rfl ?_;intro g gR w2 csR hsR HB2 HW2 HR2 HG2 hne hg1 Ai)
 clear HG
 go_upto_region 5 with fail
 have HO:=hide (fun w' (hb:Below w2.heap.size w2 w')=>AT.out w' _ ⟨_,rfl,HG2.out.low hb⟩)
 have NXX:=hide (fun w' (hb:Below w2.heap.size w2 w')=>NX.out w' (HW2.out.trans (hb.mono HW2.out.size)))
 go_simp
 refine Bh (n:=46) 12 [] (fun _=> #[]) [(0,0,0,0,0),(0,0,0,0,0),(0,0,0,0,0),(0,0,0,0,0),(0,0,0,0,0),(0,0,0,0,0),(0,0,0,0,0),(0,0,0,0,0),(0,0,0,0,0),(0,0,0,0,0),(0,0,0,0,0),(1,0,0,0,0),(0,0,0,0,0)] (fun j=> [(.agg (scA (.slice A (s.g.rows*s.g.AB) cp) s)),(.pointer (some ⟨g,3,none⟩)),(.int .i64 (s.row:Nat)),(.pointer (some ⟨g,11,none⟩)),(.int .u64 (s.tabs:Nat)),(.pointer (some ⟨g,4,none⟩)),(.int .i64 (s.col:Nat)),(.pointer (some ⟨g,0,none⟩)),(.pointer (some ⟨g,1,none⟩)),(.int .i64 (s.g.AB:Nat)),(.int .i64 (nx:Nat)),undef,undef].getD j undef) [none,none,none,none,none,none,none,none,none,none,none,some (C8 t)] (fun _=>0) (by kernel_rfl) (by kernel_rfl) (by kernel_rfl) rfl (by kernel_rfl) (by kernel_rfl) (Dt rfl) (fun i j h=>by revert h;exact Dt (p:=fun _=>_) rfl i) (Aj.none_ (Aj.none_ (Aj.none_ (Aj.none_ (Aj.none_ (Aj.none_ (Aj.none_ (Aj.none_ (Aj.none_ (Aj.none_ (Aj.none_ (Aj.some_ (C8.stays (by kernel_rfl)) (Aj.nil _))))))))))))) (fun hGS=>GL ⟨?_,?_,?_,?_,?_,?_,?_,?_,?_,?_,?_,?_⟩) ?_
 ·intro L a w' hL hsame hsz hJ AJ hcl
  have hb:=hJ.kept.toBelow (Nat.le_refl _) (by simp)
  have e0:a.eval (.tmp 2)=(.pointer (some ⟨g,0,none⟩)):=AY hsame (by kernel_rfl)
  have hx:=hJ.Ah ((show Box w2 g 43 (scA (.slice A (s.g.rows*s.g.AB) cp) s) from HB2.out)) (by simp)
  exact Step.val _ rfl rfl (AV rfl) (.agg (scA (.slice A (s.g.rows*s.g.AB) cp) s)) w' (fun ρ hρ=>Aq hx rfl ρ _ rfl ((hρ _).symm.trans e0)) (hJ.val hGS hcl hL rfl (Below.refl _ _) _ rfl)
 ·intro L a w' hL hsame hsz hJ AJ hcl
  refine BG hJ hGS hcl hL 2 (.pointer (some ⟨g,0,none⟩)) (.pointer (some ⟨g,3,none⟩)) (AY hsame (by kernel_rfl)) _ rfl rfl rfl rfl rfl fun ρ _ e0=>?_
  clear hJ hsame AJ hcl hsz
  go_simp
 ·intro L a w' hL hsame hsz hJ AJ hcl
  have q0:w'.cell? ⟨g,3,none⟩=some (.int .i64 (s.row:Nat)):=(hJ.Ah ((show Box w2 g 43 (scA (.slice A (s.g.rows*s.g.AB) cp) s) from HB2.out)) (by simp)).cell 3
  refine BG hJ hGS hcl hL 18 (.pointer (some ⟨g,3,none⟩)) (.int .i64 (s.row:Nat)) (gslot hJ AJ 1 (by kernel_rfl) (by kernel_rfl) (by decide) rfl rfl) _ rfl rfl rfl rfl rfl fun ρ _ e0=>?_
  clear hJ hsame AJ hcl hsz
  go_simp
 ·intro L a w' hL hsame hsz hJ AJ hcl
  refine BG hJ hGS hcl hL 2 (.pointer (some ⟨g,0,none⟩)) (.pointer (some ⟨g,11,none⟩)) (AY hsame (by kernel_rfl)) _ rfl rfl rfl rfl rfl fun ρ _ e0=>?_
  clear hJ hsame AJ hcl hsz
  go_simp
 ·intro L a w' hL hsame hsz hJ AJ hcl
  have q0:w'.cell? ⟨g,11,none⟩=some (.int .u64 (s.tabs:Nat)):=(hJ.Ah ((show Box w2 g 43 (scA (.slice A (s.g.rows*s.g.AB) cp) s) from HB2.out)) (by simp)).cell 11
  refine BG hJ hGS hcl hL 20 (.pointer (some ⟨g,11,none⟩)) (.int .u64 (s.tabs:Nat)) (gslot hJ AJ 3 (by kernel_rfl) (by kernel_rfl) (by decide) rfl rfl) _ rfl rfl rfl rfl rfl fun ρ _ e0=>?_
  clear hJ hsame AJ hcl hsz
  go_simp
 ·intro L a w' hL hsame hsz hJ AJ hcl
  refine BG hJ hGS hcl hL 2 (.pointer (some ⟨g,0,none⟩)) (.pointer (some ⟨g,4,none⟩)) (AY hsame (by kernel_rfl)) _ rfl rfl rfl rfl rfl fun ρ _ e0=>?_
  clear hJ hsame AJ hcl hsz
  go_simp
 ·intro L a w' hL hsame hsz hJ AJ hcl
  have q0:w'.cell? ⟨g,4,none⟩=some (.int .i64 (s.col:Nat)):=(hJ.Ah ((show Box w2 g 43 (scA (.slice A (s.g.rows*s.g.AB) cp) s) from HB2.out)) (by simp)).cell 4
  refine BG hJ hGS hcl hL 22 (.pointer (some ⟨g,4,none⟩)) (.int .i64 (s.col:Nat)) (gslot hJ AJ 5 (by kernel_rfl) (by kernel_rfl) (by decide) rfl rfl) _ rfl rfl rfl rfl rfl fun ρ _ e0=>?_
  clear hJ hsame AJ hcl hsz
  go_simp
 ·intro L a w' hL hsame hsz hJ AJ hcl
  refine BG hJ hGS hcl hL 2 (.pointer (some ⟨g,0,none⟩)) (.pointer (some ⟨g,0,none⟩)) (AY hsame (by kernel_rfl)) _ rfl rfl rfl rfl rfl fun ρ _ e0=>?_
  clear hJ hsame AJ hcl hsz
  go_simp
 ·intro L a w' hL hsame hsz hJ AJ hcl
  refine BG hJ hGS hcl hL 24 (.pointer (some ⟨g,0,none⟩)) (.pointer (some ⟨g,1,none⟩)) (gslot hJ AJ 7 (by kernel_rfl) (by kernel_rfl) (by decide) rfl rfl) _ rfl rfl rfl rfl rfl fun ρ _ e0=>?_
  clear hJ hsame AJ hcl hsz
  go_simp
 ·intro L a w' hL hsame hsz hJ AJ hcl
  have q0:w'.cell? ⟨g,1,none⟩=some (.int .i64 (s.g.AB:Nat)):=(hJ.Ah ((show Box w2 g 43 (scA (.slice A (s.g.rows*s.g.AB) cp) s) from HB2.out)) (by simp)).cell 1
  refine BG hJ hGS hcl hL 25 (.pointer (some ⟨g,1,none⟩)) (.int .i64 (s.g.AB:Nat)) (gslot hJ AJ 8 (by kernel_rfl) (by kernel_rfl) (by decide) rfl rfl) _ rfl rfl rfl rfl rfl fun ρ _ e0=>?_
  clear hJ hsame AJ hcl hsz
  go_simp
 ·intro L a w' hL hsame hsz hJ AJ hcl
  have hb:=hJ.kept.toBelow (Nat.le_refl _) (by simp)
  have e0:a.eval (.tmp 21)=(.int .u64 (s.tabs:Nat)):=AU (j:=4) (by kernel_rfl) (hJ.valOf (by decide) (AZ AJ 4 (by kernel_rfl)) rfl rfl)
  have e1:a.eval (.tmp 23)=(.int .i64 (s.col:Nat)):=AU (j:=6) (by kernel_rfl) (hJ.valOf (by decide) (AZ AJ 6 (by kernel_rfl)) rfl rfl)
  have e2:a.eval (.tmp 26)=(.int .i64 (s.g.AB:Nat)):=AU (j:=9) (by kernel_rfl) (hJ.valOf (by decide) (AZ AJ 9 (by kernel_rfl)) rfl rfl)
  refine Step.call _ rfl rfl (AV rfl) 133 #[.int .u64 (s.tabs:Nat),.int .i64 (s.col:Nat),.int .i64 (s.g.AB:Nat)] (fun ρ hρ=>?_) ?_
  ·skip
   rw [hρ] at e0 e1 e2
   have ef:ρ (.func 133)=.func (.func 133) #[] #[] :=(hρ _).symm
   clear hJ hsame AJ hcl hρ hsz hb
   go_simp
  ·refine(NXX.out _ hb).mono ?_
   rintro e w2 ⟨rfl,rfl⟩
   exact⟨_,rfl,hJ.val hGS hcl hL rfl (Below.refl _ _) _ rfl⟩
 ·intro L a w' hL hsame hsz hJ AJ hcl
  have hb:=hJ.kept.toBelow (Nat.le_refl _) (by simp)
  have e0:a.eval (.tmp 17)=(.agg (scA (.slice A (s.g.rows*s.g.AB) cp) s)):=AU (j:=0) (by kernel_rfl) (hJ.valOf (by decide) (AZ AJ 0 (by kernel_rfl)) rfl rfl)
  have e1:a.eval (.tmp 19)=(.int .i64 (s.row:Nat)):=AU (j:=2) (by kernel_rfl) (hJ.valOf (by decide) (AZ AJ 2 (by kernel_rfl)) rfl rfl)
  have e2:a.eval (.tmp 27)=(.int .i64 (nx:Nat)):=AU (j:=10) (by kernel_rfl) (hJ.valOf (by decide) (AZ AJ 10 (by kernel_rfl)) rfl rfl)
  refine Step.call _ rfl rfl (AV rfl) 109 #[.agg (scA (.slice A (s.g.rows*s.g.AB) cp) s),.int .i64 (s.row:Nat),.int .i64 (nx:Nat)] (fun ρ hρ=>?_) ?_
  ·skip
   rw [hρ] at e0 e1 e2
   have ef:ρ (.func 109)=.func (.func 109) #[] #[] :=(hρ _).symm
   clear hJ hsame AJ hcl hρ hsz hb
   go_simp
  ·refine(HO.out _ hb).mono ?_
   rintro e w2 ⟨v,rfl,hi,bb⟩
   exact⟨_,rfl,hJ.pred hGS hcl hL rfl bb _ (D7 hi)⟩
 ·intro L u w' hF hall
  change wpList _ _ _ _ (Act.put (Act.put (Act.put (Act.put (Act.put (Act.put (Act.put (Act.put (Act.put (Act.put (Act.put (Act.put (Act.put (Az _ u 0 _) (some 17) (u 0)) (some 18) (u 1)) (some 19) (u 2)) (some 20) (u 3)) (some 21) (u 4)) (some 22) (u 5)) (some 23) (u 6)) (some 24) (u 7)) (some 25) (u 8)) (some 26) (u 9)) (some 27) (u 10)) (some 28) (u 11)) none (u 12)) _
  simp only [Az]
  obtain⟨A8,c8,f11,hi8⟩:=(show C8 t (u 11) w' from hF.Cy (j:=11) (by decide) (hall 11 (by decide)) rfl)
  have hk:=hF.kept.toBelow (Nat.le_refl _) (by simp)
  clear hF
  generalize u 0=z0
  generalize u 1=z1
  generalize u 2=z2
  generalize u 3=z3
  generalize u 4=z4
  generalize u 5=z5
  generalize u 6=z6
  generalize u 7=z7
  generalize u 8=z8
  generalize u 9=z9
  generalize u 10=z10
  generalize u 11=z11 at f11⊢
  generalize u 12=z12
  subst f11
  simp only [List.drop_succ_cons,List.drop_zero]
  refine AQ (x:=.slice A8 (t.g.rows*t.g.AB) c8) (s:=t) (HR2.out.below hk HR2.out.lt) hsR rfl _ _ rfl (by go_simp) (by go_simp) rfl ?_
  intro w8 hB8 hk8 hs8
  change Exit.then _ _ Exit.normal _ _
  go_simp
  go_step
  go_wp2_with fail
  have hw:=HW2.out.trans (hk.mono HW2.out.size)
  exact bodyPost_ret (Cb rfl rfl hB8) rfl ⟨_,rfl,⟨_,rfl,hi8.kept (HR2.out.below hk HR2.out.lt) (by decide) hk8⟩,hw.trans (hk8.toBelow hw.size (fun k hh=>by simp at hh;omega))⟩
theorem Zx (s t:SN.Sc) (v:Value) (w:World) (hs:SN.Ac s) (ht:SN.Fq s 10=t) (h:IsS w s v):Calls Tryz.prog 100 #[v,.int .u8 10] w (BD w t):=by
 obtain⟨x,rfl,hg⟩:=h
 obtain⟨A,cp,rfl⟩:=Ad hg
 have HG:=hide hg
 have hgr:=hs.g.2.1
 have hgc:=hs.g.2.2.2.1
 have hR1:=hs.g.1
 have hK1:=hs.g.2.2.1
 have hrow:=hs.row
 have CJ:=hs.col
 have AT:=hide (fun w' v' h=>(show Calls Tryz.prog 64 #[v'] w' (BD w' t) from ht▸Ie s v' w' hs h))
 clear ht hs hg
 go_enter Tryz.func100,Tryz.ntmps100
 go_upto_region 1 with (refine Bc HG _ rfl rfl rfl rfl rfl ?_;intro g gR w2 csR hsR HB2 HW2 HR2 HG2 hne hg1 Ai)
 clear HG
 go_wp2_with (refine AX HB2.out rfl _ rfl rfl ?_)
 refine(AT.out _ _ ⟨_,rfl,HG2.out⟩).mono (Al HR2 HW2 fun A7 c7 w7 HR7 HW7 HG7=>?_)
 clear HB2 HR2 HW2 HG2
 go_wp2_with (refine AQ HR7.out hsR rfl _ _ rfl rfl rfl rfl ?_;intro w8 hB8 hk8 hs8)
 exact BX rfl rfl rfl hB8 HG7 HR7 HW7 hk8 Ai
theorem Zy (s t:SN.Sc) (v:Value) (w:World) (hs:SN.Ac s) (ht:SN.Fq s 11=t) (h:IsS w s v):Calls Tryz.prog 100 #[v,.int .u8 11] w (BD w t):=by
 obtain⟨x,rfl,hg⟩:=h
 obtain⟨A,cp,rfl⟩:=Ad hg
 have HG:=hide hg
 have hgr:=hs.g.2.1
 have hgc:=hs.g.2.2.2.1
 have hR1:=hs.g.1
 have hK1:=hs.g.2.2.1
 have hrow:=hs.row
 have CJ:=hs.col
 have AT:=hide (fun w' v' h=>(show Calls Tryz.prog 64 #[v'] w' (BD w' t) from ht▸Ie s v' w' hs h))
 clear ht hs hg
 go_enter Tryz.func100,Tryz.ntmps100
 go_upto_region 1 with (refine Bc HG _ rfl rfl rfl rfl rfl ?_;intro g gR w2 csR hsR HB2 HW2 HR2 HG2 hne hg1 Ai)
 clear HG
 go_wp2_with (refine AX HB2.out rfl _ rfl rfl ?_)
 refine(AT.out _ _ ⟨_,rfl,HG2.out⟩).mono (Al HR2 HW2 fun A7 c7 w7 HR7 HW7 HG7=>?_)
 clear HB2 HR2 HW2 HG2
 go_wp2_with (refine AQ HR7.out hsR rfl _ _ rfl rfl rfl rfl ?_;intro w8 hB8 hk8 hs8)
 exact BX rfl rfl rfl hB8 HG7 HR7 HW7 hk8 Ai
theorem Zz (s t:SN.Sc) (v:Value) (w:World) (hs:SN.Ac s) (ht:SN.Fq s 12=t) (h:IsS w s v):Calls Tryz.prog 100 #[v,.int .u8 12] w (BD w t):=by
 obtain⟨x,rfl,hg⟩:=h
 obtain⟨A,cp,rfl⟩:=Ad hg
 have HG:=hide hg
 have hgr:=hs.g.2.1
 have hgc:=hs.g.2.2.2.1
 have hR1:=hs.g.1
 have hK1:=hs.g.2.2.1
 have hrow:=hs.row
 have CJ:=hs.col
 have AT:=hide (fun w' v' h=>(show Calls Tryz.prog 64 #[v'] w' (BD w' t) from ht▸Ie s v' w' hs h))
 clear ht hs hg
 go_enter Tryz.func100,Tryz.ntmps100
 go_upto_region 1 with (refine Bc HG _ rfl rfl rfl rfl rfl ?_;intro g gR w2 csR hsR HB2 HW2 HR2 HG2 hne hg1 Ai)
 clear HG
 go_wp2_with (refine AX HB2.out rfl _ rfl rfl ?_)
 refine(AT.out _ _ ⟨_,rfl,HG2.out⟩).mono (Al HR2 HW2 fun A7 c7 w7 HR7 HW7 HG7=>?_)
 clear HB2 HR2 HW2 HG2
 go_wp2_with (refine AQ HR7.out hsR rfl _ _ rfl rfl rfl rfl ?_;intro w8 hB8 hk8 hs8)
 exact BX rfl rfl rfl hB8 HG7 HR7 HW7 hk8 Ai
theorem Z0 (s t:SN.Sc) (v:Value) (w:World) (hs:SN.Ac s) (ht:SN.Fq s 13=t) (h:IsS w s v):Calls Tryz.prog 100 #[v,.int .u8 13] w (BD w t):=by
 obtain⟨x,rfl,hg⟩:=h
 obtain⟨A,cp,rfl⟩:=Ad hg
 have HG:=hide hg
 have hgr:=hs.g.2.1
 have hgc:=hs.g.2.2.2.1
 have hR1:=hs.g.1
 have hK1:=hs.g.2.2.1
 have hrow:=hs.row
 have CJ:=hs.col
 have AT:=hide (fun w' v' h=>(show Calls Tryz.prog 134 #[v'] w' (BD w' t) from ht▸FU s _ v' w' hs rfl h))
 clear ht hs hg
 go_enter Tryz.func100,Tryz.ntmps100
 go_upto_region 1 with (refine Bc HG _ rfl rfl rfl rfl rfl ?_;intro g gR w2 csR hsR HB2 HW2 HR2 HG2 hne hg1 Ai)
 clear HG
 go_wp2_with (refine AX HB2.out rfl _ rfl rfl ?_)
 refine(AT.out _ _ ⟨_,rfl,HG2.out⟩).mono (Al HR2 HW2 fun A7 c7 w7 HR7 HW7 HG7=>?_)
 clear HB2 HR2 HW2 HG2
 go_wp2_with (refine AQ HR7.out hsR rfl _ _ rfl rfl rfl rfl ?_;intro w8 hB8 hk8 hs8)
 exact BX rfl rfl rfl hB8 HG7 HR7 HW7 hk8 Ai
theorem Z4 (s t:SN.Sc) (v:Value) (w:World) (hs:SN.Ac s) (ht:SN.Fq s 14=t) (h:IsS w s v):Calls Tryz.prog 100 #[v,.int .u8 14] w (BD w t):=by
 obtain⟨x,rfl,hg⟩:=h
 obtain⟨A,cp,rfl⟩:=Ad hg
 have HG:=hide hg
 have hgr:=hs.g.2.1
 have hgc:=hs.g.2.2.2.1
 have hR1:=hs.g.1
 have hK1:=hs.g.2.2.1
 have hrow:=hs.row
 have CJ:=hs.col
 obtain rfl:s.u14 1=t:=ht
 clear hs hg
 go_enter Tryz.func100,Tryz.ntmps100
 go_upto_region 1 with (refine Bc HG _ rfl rfl rfl rfl rfl ?_;intro g gR w2 csR hsR HB2 HW2 HR2 HG2 hne hg1 Ai)
 clear HG
 have k14:=HB2.out.c14
 have z14:=HB2.out.fz 14
 go_upto_region 16 with fail
 have HB3:=hide (HB2.out.Yu 1)
 obtain⟨HR3,HW3,HG3⟩:=EJ 14 (.int .i64 1) HB2 HR2 HW2 HG2 hne hg1
 generalize (w2.setCell ⟨g,14,none⟩ (.int .i64 1))=w3 at HB3 HR3 HW3 HG3⊢
 clear k14 z14
 clear HB2 HR2 HW2 HG2
 go_wp2_with (first | (refine AX HB3.out rfl _ rfl rfl ?_) | (refine AQ HR3.out hsR rfl _ _ rfl rfl rfl rfl ?_;intro w8 hB8 hk8 hs8))
 exact BX rfl rfl rfl hB8 HG3 HR3 HW3 hk8 Ai
theorem Z5 (s t:SN.Sc) (v:Value) (w:World) (hs:SN.Ac s) (ht:SN.Fq s 15=t) (h:IsS w s v):Calls Tryz.prog 100 #[v,.int .u8 15] w (BD w t):=by
 obtain⟨x,rfl,hg⟩:=h
 obtain⟨A,cp,rfl⟩:=Ad hg
 have HG:=hide hg
 have hgr:=hs.g.2.1
 have hgc:=hs.g.2.2.2.1
 have hR1:=hs.g.1
 have hK1:=hs.g.2.2.1
 have hrow:=hs.row
 have CJ:=hs.col
 obtain rfl:s.u14 0=t:=ht
 clear hs hg
 go_enter Tryz.func100,Tryz.ntmps100
 go_upto_region 1 with (refine Bc HG _ rfl rfl rfl rfl rfl ?_;intro g gR w2 csR hsR HB2 HW2 HR2 HG2 hne hg1 Ai)
 clear HG
 have k14:=HB2.out.c14
 have z14:=HB2.out.fz 14
 go_upto_region 16 with fail
 have HB3:=hide (HB2.out.Yu 0)
 obtain⟨HR3,HW3,HG3⟩:=EJ 14 (.int .i64 0) HB2 HR2 HW2 HG2 hne hg1
 generalize (w2.setCell ⟨g,14,none⟩ (.int .i64 0))=w3 at HB3 HR3 HW3 HG3⊢
 clear k14 z14
 clear HB2 HR2 HW2 HG2
 go_wp2_with (first | (refine AX HB3.out rfl _ rfl rfl ?_) | (refine AQ HR3.out hsR rfl _ _ rfl rfl rfl rfl ?_;intro w8 hB8 hk8 hs8))
 exact BX rfl rfl rfl hB8 HG3 HR3 HW3 hk8 Ai
theorem Z6 (s t:SN.Sc) (v:Value) (b:Int) (w:World) (hs:SN.Ac s) (hn:b≠8/\b≠9/\b≠10/\b≠11/\b≠12/\b≠13/\b≠14/\b≠15) (ht:SN.Fq s b=t) (h:IsS w s v):Calls Tryz.prog 100 #[v,.int .u8 b] w (BD w t):=by
 obtain⟨x,rfl,hg⟩:=h
 obtain⟨A,cp,rfl⟩:=Ad hg
 have HG:=hide hg
 have hgr:=hs.g.2.1
 have hgc:=hs.g.2.2.2.1
 have hR1:=hs.g.1
 have hK1:=hs.g.2.2.1
 have hrow:=hs.row
 have CJ:=hs.col
 obtain rfl:s=t:=by
  unfold SN.Fq at ht
  rw [if_neg (by omega),if_neg (by omega),if_neg (by omega),if_neg (by omega),if_neg (by omega),if_neg (by omega)] at ht
  exact ht
 have e8:(b==8)=false:=by simp;omega
 have e9:(b==9)=false:=by simp;omega
 have e10:(b==10)=false:=by simp;omega
 have e11:(b==11)=false:=by simp;omega
 have e12:(b==12)=false:=by simp;omega
 have e13:(b==13)=false:=by simp;omega
 have e14:(b==14)=false:=by simp;omega
 have e15:(b==15)=false:=by simp;omega
 clear hs hg hn ht
 go_enter Tryz.func100,Tryz.ntmps100
 go_upto_region 1 with (refine Bc HG _ rfl rfl rfl rfl rfl ?_;intro g gR w2 csR hsR HB2 HW2 HR2 HG2 hne hg1 Ai)
 clear HG
 go_wp2_with (first | (refine AX HB2.out rfl _ rfl rfl ?_) | (refine AQ HR2.out hsR rfl _ _ rfl rfl rfl rfl ?_;intro w8 hB8 hk8 hs8))
 exact BX rfl rfl rfl hB8 HG2 HR2 HW2 hk8 Ai
theorem Z7 (s:SN.Sc) (v:Value) (b:Int) (w:World) (hs:SN.Ac s) (hT:JZ w) (h:IsS w s v):Calls Tryz.prog 100 #[v,.int .u8 b] w (BD w (SN.Fq s b)):=by
 by_cases h8:b=8
 ·subst h8;exact iy s _ v w hs rfl h
 by_cases h9:b=9
 ·subst h9;exact jA s _ v w hs hT rfl h
 by_cases h10:b=10
 ·subst h10;exact Zx s _ v w hs rfl h
 by_cases h11:b=11
 ·subst h11;exact Zy s _ v w hs rfl h
 by_cases h12:b=12
 ·subst h12;exact Zz s _ v w hs rfl h
 by_cases h13:b=13
 ·subst h13;exact Z0 s _ v w hs rfl h
 by_cases h14:b=14
 ·subst h14;exact Z4 s _ v w hs rfl h
 by_cases h15:b=15
 ·subst h15;exact Z5 s _ v w hs rfl h
 exact Z6 s _ v b w hs ⟨h8,h9,h10,h11,h12,h13,h14,h15⟩ rfl h
theorem XU (s t:SN.Sc) (v:Value) (w:World) (hs:SN.Ac s) (ht:s.u12 66=t) (h:IsS w s v):Calls Tryz.prog 136 #[v,.int .i64 0,.int .u8 66] w (BD w t):=by
 obtain⟨x,rfl,hg⟩:=h
 obtain⟨A,cp,rfl⟩:=Ad hg
 have HG:=hide hg
 have hgr:=hs.g.2.1
 have hgc:=hs.g.2.2.2.1
 have hR1:=hs.g.1
 have hK1:=hs.g.2.2.1
 have hrow:=hs.row
 have CJ:=hs.col
 obtain rfl:s.u12 66=t:=ht
 clear hs hg
 go_enter Tryz.func136,Tryz.ntmps136
 go_upto_region 1 with (refine Bc HG _ rfl rfl rfl rfl rfl ?_;intro g gR w2 csR hsR HB2 HW2 HR2 HG2 hne hg1 Ai)
 clear HG
 have k12:=HB2.out.c12
 have z12:=HB2.out.fz 12
 go_upto_region 3 with fail
 have HB3:=hide (HB2.out.Yr 66)
 obtain⟨HR3,HW3,HG3⟩:=EJ 12 (.int .u8 66) HB2 HR2 HW2 HG2 hne hg1
 generalize (w2.setCell ⟨g,12,none⟩ (.int .u8 66))=w3 at HB3 HR3 HW3 HG3⊢
 clear k12 z12
 clear HB2 HR2 HW2 HG2
 go_wp2_with (first | (refine AX HB3.out rfl _ rfl rfl ?_) | (refine AQ HR3.out hsR rfl _ _ rfl rfl rfl rfl ?_;intro w8 hB8 hk8 hs8))
 exact BX rfl rfl rfl hB8 HG3 HR3 HW3 hk8 Ai
theorem XV (s t:SN.Sc) (v:Value) (w:World) (hs:SN.Ac s) (ht:s.u12 48=t) (h:IsS w s v):Calls Tryz.prog 136 #[v,.int .i64 0,.int .u8 48] w (BD w t):=by
 obtain⟨x,rfl,hg⟩:=h
 obtain⟨A,cp,rfl⟩:=Ad hg
 have HG:=hide hg
 have hgr:=hs.g.2.1
 have hgc:=hs.g.2.2.2.1
 have hR1:=hs.g.1
 have hK1:=hs.g.2.2.1
 have hrow:=hs.row
 have CJ:=hs.col
 obtain rfl:s.u12 48=t:=ht
 clear hs hg
 go_enter Tryz.func136,Tryz.ntmps136
 go_upto_region 1 with (refine Bc HG _ rfl rfl rfl rfl rfl ?_;intro g gR w2 csR hsR HB2 HW2 HR2 HG2 hne hg1 Ai)
 clear HG
 have k12:=HB2.out.c12
 have z12:=HB2.out.fz 12
 go_upto_region 3 with fail
 have HB3:=hide (HB2.out.Yr 48)
 obtain⟨HR3,HW3,HG3⟩:=EJ 12 (.int .u8 48) HB2 HR2 HW2 HG2 hne hg1
 generalize (w2.setCell ⟨g,12,none⟩ (.int .u8 48))=w3 at HB3 HR3 HW3 HG3⊢
 clear k12 z12
 clear HB2 HR2 HW2 HG2
 go_wp2_with (first | (refine AX HB3.out rfl _ rfl rfl ?_) | (refine AQ HR3.out hsR rfl _ _ rfl rfl rfl rfl ?_;intro w8 hB8 hk8 hs8))
 exact BX rfl rfl rfl hB8 HG3 HR3 HW3 hk8 Ai
theorem XW (s t:SN.Sc) (v:Value) (w:World) (hs:SN.Ac s) (ht:s.u13 66=t) (h:IsS w s v):Calls Tryz.prog 136 #[v,.int .i64 1,.int .u8 66] w (BD w t):=by
 obtain⟨x,rfl,hg⟩:=h
 obtain⟨A,cp,rfl⟩:=Ad hg
 have HG:=hide hg
 have hgr:=hs.g.2.1
 have hgc:=hs.g.2.2.2.1
 have hR1:=hs.g.1
 have hK1:=hs.g.2.2.1
 have hrow:=hs.row
 have CJ:=hs.col
 obtain rfl:s.u13 66=t:=ht
 clear hs hg
 go_enter Tryz.func136,Tryz.ntmps136
 go_upto_region 1 with (refine Bc HG _ rfl rfl rfl rfl rfl ?_;intro g gR w2 csR hsR HB2 HW2 HR2 HG2 hne hg1 Ai)
 clear HG
 have k13:=HB2.out.c13
 have z13:=HB2.out.fz 13
 go_upto_region 3 with fail
 have HB3:=hide (HB2.out.Yt 66)
 obtain⟨HR3,HW3,HG3⟩:=EJ 13 (.int .u8 66) HB2 HR2 HW2 HG2 hne hg1
 generalize (w2.setCell ⟨g,13,none⟩ (.int .u8 66))=w3 at HB3 HR3 HW3 HG3⊢
 clear k13 z13
 clear HB2 HR2 HW2 HG2
 go_wp2_with (first | (refine AX HB3.out rfl _ rfl rfl ?_) | (refine AQ HR3.out hsR rfl _ _ rfl rfl rfl rfl ?_;intro w8 hB8 hk8 hs8))
 exact BX rfl rfl rfl hB8 HG3 HR3 HW3 hk8 Ai
theorem XY (s t:SN.Sc) (v:Value) (w:World) (hs:SN.Ac s) (ht:s.u13 48=t) (h:IsS w s v):Calls Tryz.prog 136 #[v,.int .i64 1,.int .u8 48] w (BD w t):=by
 obtain⟨x,rfl,hg⟩:=h
 obtain⟨A,cp,rfl⟩:=Ad hg
 have HG:=hide hg
 have hgr:=hs.g.2.1
 have hgc:=hs.g.2.2.2.1
 have hR1:=hs.g.1
 have hK1:=hs.g.2.2.1
 have hrow:=hs.row
 have CJ:=hs.col
 obtain rfl:s.u13 48=t:=ht
 clear hs hg
 go_enter Tryz.func136,Tryz.ntmps136
 go_upto_region 1 with (refine Bc HG _ rfl rfl rfl rfl rfl ?_;intro g gR w2 csR hsR HB2 HW2 HR2 HG2 hne hg1 Ai)
 clear HG
 have k13:=HB2.out.c13
 have z13:=HB2.out.fz 13
 go_upto_region 3 with fail
 have HB3:=hide (HB2.out.Yt 48)
 obtain⟨HR3,HW3,HG3⟩:=EJ 13 (.int .u8 48) HB2 HR2 HW2 HG2 hne hg1
 generalize (w2.setCell ⟨g,13,none⟩ (.int .u8 48))=w3 at HB3 HR3 HW3 HG3⊢
 clear k13 z13
 clear HB2 HR2 HW2 HG2
 go_wp2_with (first | (refine AX HB3.out rfl _ rfl rfl ?_) | (refine AQ HR3.out hsR rfl _ _ rfl rfl rfl rfl ?_;intro w8 hB8 hk8 hs8))
 exact BX rfl rfl rfl hB8 HG3 HR3 HW3 hk8 Ai
theorem Ux (s t:SN.Sc) (v:Value) (k f:Int) (w:World) (hs:SN.Ac s) (hn:f≠66/\f≠48) (ht:s=t) (h:IsS w s v):Calls Tryz.prog 136 #[v,.int .i64 k,.int .u8 f] w (BD w t):=by
 obtain⟨x,rfl,hg⟩:=h
 obtain⟨A,cp,rfl⟩:=Ad hg
 have HG:=hide hg
 have hgr:=hs.g.2.1
 have hgc:=hs.g.2.2.2.1
 have hR1:=hs.g.1
 have hK1:=hs.g.2.2.1
 have hrow:=hs.row
 have CJ:=hs.col
 subst ht
 have e1:(f==66)=false:=by simp;omega
 have e2:(f==48)=false:=by simp;omega
 clear hs hg hn
 go_enter Tryz.func136,Tryz.ntmps136
 go_upto_region 1 with (refine Bc HG _ rfl rfl rfl rfl rfl ?_;intro g gR w2 csR hsR HB2 HW2 HR2 HG2 hne hg1 Ai)
 clear HG
 go_wp2_with (first | (refine AX HB2.out rfl _ rfl rfl ?_) | (refine AQ HR2.out hsR rfl _ _ rfl rfl rfl rfl ?_;intro w8 hB8 hk8 hs8))
 exact BX rfl rfl rfl hB8 HG2 HR2 HW2 hk8 Ai
theorem jB (s t:SN.Sc) (v:Value) (w:World) (hs:SN.Ac s) (ht:SN.FI s 0 55=t) (h:IsS w s v):Calls Tryz.prog 135 #[v,.int .u8 55] w (BD w t):=by
 obtain⟨x,rfl,hg⟩:=h
 obtain⟨A,cp,rfl⟩:=Ad hg
 have HG:=hide hg
 have hgr:=hs.g.2.1
 have hgc:=hs.g.2.2.2.1
 have hR1:=hs.g.1
 have hK1:=hs.g.2.2.1
 have hrow:=hs.row
 have CJ:=hs.col
 have AT:=hide (fun w' v' h=>(show Calls Tryz.prog 164 #[v'] w' (BD w' t) from ht▸Qp s v' w' hs h))
 clear ht hs hg
 go_enter Tryz.func135,Tryz.ntmps135
 go_upto_region 1 with (refine Bc HG _ rfl rfl rfl rfl rfl ?_;intro g gR w2 csR hsR HB2 HW2 HR2 HG2 hne hg1 Ai)
 clear HG
 go_wp2_with (refine AX HB2.out rfl _ rfl rfl ?_)
 refine(AT.out _ _ ⟨_,rfl,HG2.out⟩).mono (Al HR2 HW2 fun A7 c7 w7 HR7 HW7 HG7=>?_)
 clear HB2 HR2 HW2 HG2
 go_wp2_with (refine AQ HR7.out hsR rfl _ _ rfl rfl rfl rfl ?_;intro w8 hB8 hk8 hs8)
 exact BX rfl rfl rfl hB8 HG7 HR7 HW7 hk8 Ai
theorem jC (s t:SN.Sc) (v:Value) (w:World) (hs:SN.Ac s) (ht:SN.FI s 0 56=t) (h:IsS w s v):Calls Tryz.prog 135 #[v,.int .u8 56] w (BD w t):=by
 obtain⟨x,rfl,hg⟩:=h
 obtain⟨A,cp,rfl⟩:=Ad hg
 have HG:=hide hg
 have hgr:=hs.g.2.1
 have hgc:=hs.g.2.2.2.1
 have hR1:=hs.g.1
 have hK1:=hs.g.2.2.1
 have hrow:=hs.row
 have CJ:=hs.col
 have AT:=hide (fun w' v' h=>(show Calls Tryz.prog 165 #[v'] w' (BD w' t) from ht▸Qq s v' w' hs h))
 clear ht hs hg
 go_enter Tryz.func135,Tryz.ntmps135
 go_upto_region 1 with (refine Bc HG _ rfl rfl rfl rfl rfl ?_;intro g gR w2 csR hsR HB2 HW2 HR2 HG2 hne hg1 Ai)
 clear HG
 go_wp2_with (refine AX HB2.out rfl _ rfl rfl ?_)
 refine(AT.out _ _ ⟨_,rfl,HG2.out⟩).mono (Al HR2 HW2 fun A7 c7 w7 HR7 HW7 HG7=>?_)
 clear HB2 HR2 HW2 HG2
 go_wp2_with (refine AQ HR7.out hsR rfl _ _ rfl rfl rfl rfl ?_;intro w8 hB8 hk8 hs8)
 exact BX rfl rfl rfl hB8 HG7 HR7 HW7 hk8 Ai
theorem jD (s t:SN.Sc) (v:Value) (w:World) (hs:SN.Ac s) (ht:SN.FI s 0 68=t) (h:IsS w s v):Calls Tryz.prog 135 #[v,.int .u8 68] w (BD w t):=by
 obtain⟨x,rfl,hg⟩:=h
 obtain⟨A,cp,rfl⟩:=Ad hg
 have HG:=hide hg
 have hgr:=hs.g.2.1
 have hgc:=hs.g.2.2.2.1
 have hR1:=hs.g.1
 have hK1:=hs.g.2.2.1
 have hrow:=hs.row
 have CJ:=hs.col
 have AT:=hide (fun w' v' h=>(show Calls Tryz.prog 64 #[v'] w' (BD w' t) from ht▸Ie s v' w' hs h))
 clear ht hs hg
 go_enter Tryz.func135,Tryz.ntmps135
 go_upto_region 1 with (refine Bc HG _ rfl rfl rfl rfl rfl ?_;intro g gR w2 csR hsR HB2 HW2 HR2 HG2 hne hg1 Ai)
 clear HG
 go_wp2_with (refine AX HB2.out rfl _ rfl rfl ?_)
 refine(AT.out _ _ ⟨_,rfl,HG2.out⟩).mono (Al HR2 HW2 fun A7 c7 w7 HR7 HW7 HG7=>?_)
 clear HB2 HR2 HW2 HG2
 go_wp2_with (refine AQ HR7.out hsR rfl _ _ rfl rfl rfl rfl ?_;intro w8 hB8 hk8 hs8)
 exact BX rfl rfl rfl hB8 HG7 HR7 HW7 hk8 Ai
theorem jE (s t:SN.Sc) (v:Value) (w:World) (hs:SN.Ac s) (ht:SN.FI s 0 77=t) (h:IsS w s v):Calls Tryz.prog 135 #[v,.int .u8 77] w (BD w t):=by
 obtain⟨x,rfl,hg⟩:=h
 obtain⟨A,cp,rfl⟩:=Ad hg
 have HG:=hide hg
 have hgr:=hs.g.2.1
 have hgc:=hs.g.2.2.2.1
 have hR1:=hs.g.1
 have hK1:=hs.g.2.2.1
 have hrow:=hs.row
 have CJ:=hs.col
 have AT:=hide (fun w' v' h=>(show Calls Tryz.prog 166 #[v'] w' (BD w' t) from ht▸Zq s v' w' hs h))
 clear ht hs hg
 go_enter Tryz.func135,Tryz.ntmps135
 go_upto_region 1 with (refine Bc HG _ rfl rfl rfl rfl rfl ?_;intro g gR w2 csR hsR HB2 HW2 HR2 HG2 hne hg1 Ai)
 clear HG
 go_wp2_with (refine AX HB2.out rfl _ rfl rfl ?_)
 refine(AT.out _ _ ⟨_,rfl,HG2.out⟩).mono (Al HR2 HW2 fun A7 c7 w7 HR7 HW7 HG7=>?_)
 clear HB2 HR2 HW2 HG2
 go_wp2_with (refine AQ HR7.out hsR rfl _ _ rfl rfl rfl rfl ?_;intro w8 hB8 hk8 hs8)
 exact BX rfl rfl rfl hB8 HG7 HR7 HW7 hk8 Ai
theorem jF (s t:SN.Sc) (v:Value) (w:World) (hs:SN.Ac s) (ht:SN.FI s 0 69=t) (h:IsS w s v):Calls Tryz.prog 135 #[v,.int .u8 69] w (BD w t):=by
 obtain⟨x,rfl,hg⟩:=h
 obtain⟨A,cp,rfl⟩:=Ad hg
 have HG:=hide hg
 have hgr:=hs.g.2.1
 have hgc:=hs.g.2.2.2.1
 have hR1:=hs.g.1
 have hK1:=hs.g.2.2.1
 have hrow:=hs.row
 have CJ:=hs.col
 have A1:=hide (fun w' v' h=>FU s _ v' w' hs rfl h)
 have AT:=hide (fun w' v' h=>(show Calls Tryz.prog 64 #[v'] w' (BD w' t) from(show SN.Dx (SN.atS s s.row 0)=t from(SN.Tm hs).trans ht)▸Ie (SN.atS s s.row 0) v' w' (SN.Di hs _ _) h))
 generalize SN.atS s s.row 0=T at A1 AT
 clear ht hs hg
 go_enter Tryz.func135,Tryz.ntmps135
 go_upto_region 1 with (refine Bc HG _ rfl rfl rfl rfl rfl ?_;intro g gR w2 csR hsR HB2 HW2 HR2 HG2 hne hg1 Ai)
 clear HG
 go_wp2_with (refine AX HB2.out rfl _ rfl rfl ?_)
 refine(A1.out _ _ ⟨_,rfl,HG2.out⟩).mono ?_
 rintro e w3 ⟨v3,rfl,hi3,hb3⟩
 have HR3:=hide (HR2.out.below hb3 HR2.out.lt)
 have HW3:=hide (HW2.out.trans (hb3.mono HW2.out.size))
 have HI3:=hide hi3
 clear hi3 hb3 HB2 HR2 HW2 HG2 A1
 go_wp2_with fail
 refine(AT.out _ _ HI3.out).mono (Al HR3 HW3 fun A7 c7 w7 HR7 HW7 HG7=>?_)
 clear HR3 HW3 HI3
 go_wp2_with (refine AQ HR7.out hsR rfl _ _ rfl rfl rfl rfl ?_;intro w8 hB8 hk8 hs8)
 exact BX rfl rfl rfl hB8 HG7 HR7 HW7 hk8 Ai
theorem jG (s t:SN.Sc) (v:Value) (w:World) (hs:SN.Ac s) (ht:SN.FI s 0 72=t) (h:IsS w s v):Calls Tryz.prog 135 #[v,.int .u8 72] w (BD w t):=by
 obtain⟨x,rfl,hg⟩:=h
 obtain⟨A,cp,rfl⟩:=Ad hg
 have HG:=hide hg
 have hgr:=hs.g.2.1
 have hgc:=hs.g.2.2.2.1
 have hR1:=hs.g.1
 have hK1:=hs.g.2.2.1
 have hrow:=hs.row
 have CJ:=hs.col
 obtain⟨z,hz⟩: ∃z,TB.IC s.tabs s.col=z:=⟨_,rfl⟩
 have hz':TB.puts s.tabs [(s.col:Int)] =z:=by
  show(if TB.col (s.col:Int) then TB.IC s.tabs (s.col:Int).toNat else s.tabs)=z
  rw [if_pos (by unfold TB.col;omega)]
  exact hz
 obtain rfl:s.u11 z=t:=by rw [<- hz];exact ht
 have PT:=hide (fun w' (B:Nat) (A:Option Addr) (hA:Seen w' B A 1 [.int .i64 (s.col:Nat)])=>kT s.tabs A 1 1 B [(s.col:Int)] z hz' w' hs.tabs hA (by omega) (fun x hx=>by simp at hx;omega))
 clear hs hg hz hz'
 go_enter Tryz.func135,Tryz.ntmps135
 go_upto_region 1 with (refine Bc HG _ rfl rfl rfl rfl rfl ?_;intro g gR w2 csR hsR HB2 HW2 HR2 HG2 hne hg1 Ai)
 clear HG
 have k4:=HB2.out.c4
 have k11:=HB2.out.c11
 have z11:=HB2.out.fz 11
 go_wp2_with fail
 refine(PT.out _ (w2.heap.size+1) _ (Seen.fresh (w:=w2) (t:=3) (cs:= #[.int .i64 (s.col:Nat)]) rfl rfl rfl rfl)).mono ?_
 rintro e w3 ⟨rfl,hw3⟩
 have hbx:Below w2.heap.size w2 w3:=hw3▸(Below.refl w2.heap.size w2).alloc (Nat.le_refl _) (.cells #[.int .i64 (s.col:Nat)] 3)
 obtain⟨HB3,HR3,HW3,HG3⟩:=Jo hbx HB2 HR2 HW2 HG2
 clear hw3 k4 k11 z11 hbx HB2 HR2 HW2 HG2 PT
 have k11:=HB3.out.c11
 have z11:=HB3.out.fz 11
 go_upto_region 20 with fail
 have HB4:=hide (HB3.out.Yq z)
 obtain⟨HR4,HW4,HG4⟩:=EJ 11 (.int .u64 (z:Nat)) HB3 HR3 HW3 HG3 hne hg1
 generalize (w3.setCell ⟨g,11,none⟩ (.int .u64 (z:Nat)))=w4 at HB4 HR4 HW4 HG4⊢
 clear k11 z11 HB3 HR3 HW3 HG3
 go_wp2_with (first | (refine AX HB4.out rfl _ rfl rfl ?_) | (refine AQ HR4.out hsR rfl _ _ rfl rfl rfl rfl ?_;intro w8 hB8 hk8 hs8))
 exact BX rfl rfl rfl hB8 HG4 HR4 HW4 hk8 Ai
theorem jH (s t:SN.Sc) (v:Value) (w:World) (hs:SN.Ac s) (ht:SN.FI s 0 99=t) (h:IsS w s v):Calls Tryz.prog 135 #[v,.int .u8 99] w (BD w t):=by
 obtain⟨x,rfl,hg⟩:=h
 obtain⟨A,cp,rfl⟩:=Ad hg
 have HG:=hide hg
 have hgr:=hs.g.2.1
 have hgc:=hs.g.2.2.2.1
 have hR1:=hs.g.1
 have hK1:=hs.g.2.2.1
 have hrow:=hs.row
 have CJ:=hs.col
 have NW:=hide (fun w'=>(show Calls Tryz.prog 21 #[.int .i64 (s.g.rows:Nat),.int .i64 (s.g.AB:Nat)] w' (BD w' t) from(show SN.full s.g.rows s.g.AB=t from ht)▸Oy s.g.rows s.g.AB s.g.rows s.g.AB (by unfold SN.cut;omega) (by unfold SN.cut;omega) (by omega) (by omega) w'))
 clear ht hs hg
 go_enter Tryz.func135,Tryz.ntmps135
 go_upto_region 1 with (refine Bc HG _ rfl rfl rfl rfl rfl ?_;intro g gR w2 csR hsR HB2 HW2 HR2 HG2 hne hg1 Ai)
 clear HG
 have k0:=HB2.out.c0
 have k1:=HB2.out.c1
 go_wp2_with fail
 refine(NW.out _).mono (Al HR2 HW2 fun A7 c7 w7 HR7 HW7 HG7=>?_)
 clear k0 k1 HB2 HR2 HW2 HG2
 go_wp2_with (refine AQ HR7.out hsR rfl _ _ rfl rfl rfl rfl ?_;intro w8 hB8 hk8 hs8)
 exact BX rfl rfl rfl hB8 HG7 HR7 HW7 hk8 Ai
theorem jI (s t:SN.Sc) (v:Value) (w:World) (hs:SN.Ac s) (ht:SN.FI s 0 61=t) (h:IsS w s v):Calls Tryz.prog 135 #[v,.int .u8 61] w (BD w t):=by
 obtain⟨x,rfl,hg⟩:=h
 obtain⟨A,cp,rfl⟩:=Ad hg
 have HG:=hide hg
 have hgr:=hs.g.2.1
 have hgc:=hs.g.2.2.2.1
 have hR1:=hs.g.1
 have hK1:=hs.g.2.2.1
 have hrow:=hs.row
 have CJ:=hs.col
 obtain rfl:s.u19 true=t:=ht
 clear hs hg
 go_enter Tryz.func135,Tryz.ntmps135
 go_upto_region 1 with (refine Bc HG _ rfl rfl rfl rfl rfl ?_;intro g gR w2 csR hsR HB2 HW2 HR2 HG2 hne hg1 Ai)
 clear HG
 have k19:=HB2.out.c19
 have z19:=HB2.out.fz 19
 go_upto_region 20 with fail
 have HB3:=hide (HB2.out.kF true)
 obtain⟨HR3,HW3,HG3⟩:=EJ 19 (.bool true) HB2 HR2 HW2 HG2 hne hg1
 generalize (w2.setCell ⟨g,19,none⟩ (.bool true))=w3 at HB3 HR3 HW3 HG3⊢
 clear k19 z19
 clear HB2 HR2 HW2 HG2
 go_wp2_with (first | (refine AX HB3.out rfl _ rfl rfl ?_) | (refine AQ HR3.out hsR rfl _ _ rfl rfl rfl rfl ?_;intro w8 hB8 hk8 hs8))
 exact BX rfl rfl rfl hB8 HG3 HR3 HW3 hk8 Ai
theorem jJ (s t:SN.Sc) (v:Value) (w:World) (hs:SN.Ac s) (ht:SN.FI s 0 62=t) (h:IsS w s v):Calls Tryz.prog 135 #[v,.int .u8 62] w (BD w t):=by
 obtain⟨x,rfl,hg⟩:=h
 obtain⟨A,cp,rfl⟩:=Ad hg
 have HG:=hide hg
 have hgr:=hs.g.2.1
 have hgc:=hs.g.2.2.2.1
 have hR1:=hs.g.1
 have hK1:=hs.g.2.2.1
 have hrow:=hs.row
 have CJ:=hs.col
 obtain rfl:s.u19 false=t:=ht
 clear hs hg
 go_enter Tryz.func135,Tryz.ntmps135
 go_upto_region 1 with (refine Bc HG _ rfl rfl rfl rfl rfl ?_;intro g gR w2 csR hsR HB2 HW2 HR2 HG2 hne hg1 Ai)
 clear HG
 have k19:=HB2.out.c19
 have z19:=HB2.out.fz 19
 go_upto_region 20 with fail
 have HB3:=hide (HB2.out.kF false)
 obtain⟨HR3,HW3,HG3⟩:=EJ 19 (.bool false) HB2 HR2 HW2 HG2 hne hg1
 generalize (w2.setCell ⟨g,19,none⟩ (.bool false))=w3 at HB3 HR3 HW3 HG3⊢
 clear k19 z19
 clear HB2 HR2 HW2 HG2
 go_wp2_with (first | (refine AX HB3.out rfl _ rfl rfl ?_) | (refine AQ HR3.out hsR rfl _ _ rfl rfl rfl rfl ?_;intro w8 hB8 hk8 hs8))
 exact BX rfl rfl rfl hB8 HG3 HR3 HW3 hk8 Ai
theorem jK (s t:SN.Sc) (v:Value) (f:Int) (w:World) (hs:SN.Ac s) (hn:f≠55/\f≠56/\f≠68/\f≠69/\f≠77/\f≠72/\f≠99/\f≠61/\f≠62) (ht:SN.FI s 0 f=t) (h:IsS w s v):Calls Tryz.prog 135 #[v,.int .u8 f] w (BD w t):=by
 obtain⟨x,rfl,hg⟩:=h
 obtain⟨A,cp,rfl⟩:=Ad hg
 have HG:=hide hg
 have hgr:=hs.g.2.1
 have hgc:=hs.g.2.2.2.1
 have hR1:=hs.g.1
 have hK1:=hs.g.2.2.1
 have hrow:=hs.row
 have CJ:=hs.col
 obtain rfl:s=t:=by
  unfold SN.FI at ht
  rw [if_neg (by omega),if_neg (by omega),if_neg (by omega),if_neg (by omega),if_neg (by omega),if_neg (by omega),if_neg (by omega),if_neg (by omega),if_neg (by omega),if_neg (by omega),if_neg (by omega)] at ht
  exact ht
 have e55:(f==55)=false:=by simp;omega
 have e56:(f==56)=false:=by simp;omega
 have e68:(f==68)=false:=by simp;omega
 have e69:(f==69)=false:=by simp;omega
 have e77:(f==77)=false:=by simp;omega
 have e72:(f==72)=false:=by simp;omega
 have e99:(f==99)=false:=by simp;omega
 have e61:(f==61)=false:=by simp;omega
 have e62:(f==62)=false:=by simp;omega
 clear hs hg hn ht
 go_enter Tryz.func135,Tryz.ntmps135
 go_upto_region 1 with (refine Bc HG _ rfl rfl rfl rfl rfl ?_;intro g gR w2 csR hsR HB2 HW2 HR2 HG2 hne hg1 Ai)
 clear HG
 go_wp2_with (first | (refine AX HB2.out rfl _ rfl rfl ?_) | (refine AQ HR2.out hsR rfl _ _ rfl rfl rfl rfl ?_;intro w8 hB8 hk8 hs8))
 exact BX rfl rfl rfl hB8 HG2 HR2 HW2 hk8 Ai
theorem XZ (s:SN.Sc) (v:Value) (f:Int) (w:World) (hs:SN.Ac s) (h:IsS w s v):Calls Tryz.prog 135 #[v,.int .u8 f] w (BD w (SN.FI s 0 f)):=by
 by_cases h55:f=55
 ·subst h55;exact jB s _ v w hs rfl h
 by_cases h56:f=56
 ·subst h56;exact jC s _ v w hs rfl h
 by_cases h68:f=68
 ·subst h68;exact jD s _ v w hs rfl h
 by_cases h69:f=69
 ·subst h69;exact jF s _ v w hs rfl h
 by_cases h77:f=77
 ·subst h77;exact jE s _ v w hs rfl h
 by_cases h72:f=72
 ·subst h72;exact jG s _ v w hs rfl h
 by_cases h99:f=99
 ·subst h99;exact jH s _ v w hs rfl h
 by_cases h61:f=61
 ·subst h61;exact jI s _ v w hs rfl h
 by_cases h62:f=62
 ·subst h62;exact jJ s _ v w hs rfl h
 exact jK s _ v f w hs ⟨h55,h56,h68,h69,h77,h72,h99,h61,h62⟩ rfl h
theorem Uy (s:SN.Sc) (v:Value) (it fn:Int) (k:Int) (hk:(it=40/\k=0)\/(it=41/\k=1)) (w:World) (hs:SN.Ac s) (h:IsS w s v):Calls Tryz.prog 136 #[v,.int .i64 k,.int .u8 fn] w (BD w (SN.FI s it fn)):=by
 unfold SN.FI
 rcases hk with ⟨rfl,rfl⟩ | ⟨rfl,rfl⟩
 ·rw [if_pos (by omega)]
  by_cases h1:fn=48
  ·subst h1
   rw [if_pos (.inl rfl),if_pos rfl]
   exact XV s _ v w hs rfl h
  by_cases h2:fn=66
  ·subst h2
   rw [if_pos (.inr rfl),if_pos rfl]
   exact XU s _ v w hs rfl h
  rw [if_neg (by omega)]
  exact Ux s _ v _ fn w hs ⟨h2,h1⟩ rfl h
 ·rw [if_pos (by omega)]
  by_cases h1:fn=48
  ·subst h1
   rw [if_pos (.inl rfl),if_neg (by omega)]
   exact XY s _ v w hs rfl h
  by_cases h2:fn=66
  ·subst h2
   rw [if_pos (.inr rfl),if_neg (by omega)]
   exact XW s _ v w hs rfl h
  rw [if_neg (by omega)]
  exact Ux s _ v _ fn w hs ⟨h2,h1⟩ rfl h
theorem jL (s t:SN.Sc) (v:Value) (kd rn pv fn:Int) (Ae:Option Addr) (n c:Nat) (tx:ByteArray) (w:World) (hs:SN.Ac s) (ht:SN.FI s 0 fn=t) (h:IsS w s v):Calls Tryz.prog 101 #[v,.agg #[.int .i64 kd,.int .i32 rn,.int .u8 pv,.int .u8 0,.int .u8 fn,.slice Ae n c,.string tx]] w (BD w t):=by
 obtain⟨x,rfl,hg⟩:=h
 obtain⟨A,cp,rfl⟩:=Ad hg
 have HG:=hide hg
 have hgr:=hs.g.2.1
 have hgc:=hs.g.2.2.2.1
 have hR1:=hs.g.1
 have hK1:=hs.g.2.2.1
 have hrow:=hs.row
 have CJ:=hs.col
 have AT:=hide (fun w' v' h=>(show Calls Tryz.prog 135 #[v',.int .u8 fn] w' (BD w' t) from ht▸XZ s v' fn w' hs h))
 clear ht hs hg
 go_enter Tryz.func101,Tryz.ntmps101
 go_upto_region 1 with (refine Dw HG _ rfl rfl rfl _ rfl rfl (fun _=>rfl) rfl rfl ?_;intro g gE gR w2 csR hsR HB2 HE2 HW2 HR2 HG2 hne FM FN hg1 Ai)
 clear HG
 obtain⟨e0,e1,e2,e3,e4,e5,e6⟩:=HE2.out.Bo
 go_wp2_with (refine AX HB2.out rfl _ rfl rfl ?_)
 refine(AT.out _ _ ⟨_,rfl,HG2.out⟩).mono (Al HR2 HW2 fun A7 c7 w7 HR7 HW7 HG7=>?_)
 clear e0 e1 e2 e3 e4 e5 e6
 clear HB2 HR2 HW2 HG2 HE2
 go_wp2_with (refine AQ HR7.out hsR rfl _ _ rfl rfl rfl rfl ?_;intro w8 hB8 hk8 hs8)
 exact BX rfl rfl rfl hB8 HG7 HR7 HW7 hk8 Ai
theorem Z8 (s t:SN.Sc) (v:Value) (kd rn pv fn:Int) (Ae:Option Addr) (n c:Nat) (tx:ByteArray) (w:World) (hs:SN.Ac s) (ht:SN.FI s 40 fn=t) (h:IsS w s v):Calls Tryz.prog 101 #[v,.agg #[.int .i64 kd,.int .i32 rn,.int .u8 pv,.int .u8 40,.int .u8 fn,.slice Ae n c,.string tx]] w (BD w t):=by
 obtain⟨x,rfl,hg⟩:=h
 obtain⟨A,cp,rfl⟩:=Ad hg
 have HG:=hide hg
 have hgr:=hs.g.2.1
 have hgc:=hs.g.2.2.2.1
 have hR1:=hs.g.1
 have hK1:=hs.g.2.2.1
 have hrow:=hs.row
 have CJ:=hs.col
 have AT:=hide (fun w' v' h=>(show Calls Tryz.prog 136 #[v',.int .i64 0,.int .u8 fn] w' (BD w' t) from ht▸Uy s v' 40 fn 0 (.inl ⟨rfl,rfl⟩) w' hs h))
 clear ht hs hg
 go_enter Tryz.func101,Tryz.ntmps101
 go_upto_region 1 with (refine Dw HG _ rfl rfl rfl _ rfl rfl (fun _=>rfl) rfl rfl ?_;intro g gE gR w2 csR hsR HB2 HE2 HW2 HR2 HG2 hne FM FN hg1 Ai)
 clear HG
 obtain⟨e0,e1,e2,e3,e4,e5,e6⟩:=HE2.out.Bo
 go_wp2_with (refine AX HB2.out rfl _ rfl rfl ?_)
 refine(AT.out _ _ ⟨_,rfl,HG2.out⟩).mono (Al HR2 HW2 fun A7 c7 w7 HR7 HW7 HG7=>?_)
 clear e0 e1 e2 e3 e4 e5 e6
 clear HB2 HR2 HW2 HG2 HE2
 go_wp2_with (refine AQ HR7.out hsR rfl _ _ rfl rfl rfl rfl ?_;intro w8 hB8 hk8 hs8)
 exact BX rfl rfl rfl hB8 HG7 HR7 HW7 hk8 Ai
theorem Z9 (s t:SN.Sc) (v:Value) (kd rn pv fn:Int) (Ae:Option Addr) (n c:Nat) (tx:ByteArray) (w:World) (hs:SN.Ac s) (ht:SN.FI s 41 fn=t) (h:IsS w s v):Calls Tryz.prog 101 #[v,.agg #[.int .i64 kd,.int .i32 rn,.int .u8 pv,.int .u8 41,.int .u8 fn,.slice Ae n c,.string tx]] w (BD w t):=by
 obtain⟨x,rfl,hg⟩:=h
 obtain⟨A,cp,rfl⟩:=Ad hg
 have HG:=hide hg
 have hgr:=hs.g.2.1
 have hgc:=hs.g.2.2.2.1
 have hR1:=hs.g.1
 have hK1:=hs.g.2.2.1
 have hrow:=hs.row
 have CJ:=hs.col
 have AT:=hide (fun w' v' h=>(show Calls Tryz.prog 136 #[v',.int .i64 1,.int .u8 fn] w' (BD w' t) from ht▸Uy s v' 41 fn 1 (.inr ⟨rfl,rfl⟩) w' hs h))
 clear ht hs hg
 go_enter Tryz.func101,Tryz.ntmps101
 go_upto_region 1 with (refine Dw HG _ rfl rfl rfl _ rfl rfl (fun _=>rfl) rfl rfl ?_;intro g gE gR w2 csR hsR HB2 HE2 HW2 HR2 HG2 hne FM FN hg1 Ai)
 clear HG
 obtain⟨e0,e1,e2,e3,e4,e5,e6⟩:=HE2.out.Bo
 go_wp2_with (refine AX HB2.out rfl _ rfl rfl ?_)
 refine(AT.out _ _ ⟨_,rfl,HG2.out⟩).mono (Al HR2 HW2 fun A7 c7 w7 HR7 HW7 HG7=>?_)
 clear e0 e1 e2 e3 e4 e5 e6
 clear HB2 HR2 HW2 HG2 HE2
 go_wp2_with (refine AQ HR7.out hsR rfl _ _ rfl rfl rfl rfl ?_;intro w8 hB8 hk8 hs8)
 exact BX rfl rfl rfl hB8 HG7 HR7 HW7 hk8 Ai
theorem aA (s t:SN.Sc) (v:Value) (kd rn pv it fn:Int) (Ae:Option Addr) (n c:Nat) (tx:ByteArray) (w:World) (hs:SN.Ac s) (hn:it≠0/\it≠40/\it≠41) (ht:SN.FI s it fn=t) (h:IsS w s v):Calls Tryz.prog 101 #[v,.agg #[.int .i64 kd,.int .i32 rn,.int .u8 pv,.int .u8 it,.int .u8 fn,.slice Ae n c,.string tx]] w (BD w t):=by
 obtain⟨x,rfl,hg⟩:=h
 obtain⟨A,cp,rfl⟩:=Ad hg
 have HG:=hide hg
 have hgr:=hs.g.2.1
 have hgc:=hs.g.2.2.2.1
 have hR1:=hs.g.1
 have hK1:=hs.g.2.2.1
 have hrow:=hs.row
 have CJ:=hs.col
 obtain rfl:s=t:=by
  unfold SN.FI at ht
  rw [if_neg (by omega),if_pos (by omega)] at ht
  exact ht
 have q0:(it==0)=false:=by simp;omega
 have q40:(it==40)=false:=by simp;omega
 have q41:(it==41)=false:=by simp;omega
 clear hs hg hn ht
 go_enter Tryz.func101,Tryz.ntmps101
 go_upto_region 1 with (refine Dw HG _ rfl rfl rfl _ rfl rfl (fun _=>rfl) rfl rfl ?_;intro g gE gR w2 csR hsR HB2 HE2 HW2 HR2 HG2 hne FM FN hg1 Ai)
 clear HG
 obtain⟨e0,e1,e2,e3,e4,e5,e6⟩:=HE2.out.Bo
 go_wp2_with (first | (refine AX HB2.out rfl _ rfl rfl ?_) | (refine AQ HR2.out hsR rfl _ _ rfl rfl rfl rfl ?_;intro w8 hB8 hk8 hs8))
 exact BX rfl rfl rfl hB8 HG2 HR2 HW2 hk8 Ai
theorem jM (s:SN.Sc) (v:Value) (kd rn pv it fn:Int) (Ae:Option Addr) (n c:Nat) (tx:ByteArray) (w:World) (hs:SN.Ac s) (h:IsS w s v):Calls Tryz.prog 101 #[v,.agg #[.int .i64 kd,.int .i32 rn,.int .u8 pv,.int .u8 it,.int .u8 fn,.slice Ae n c,.string tx]] w (BD w (SN.FI s it fn)):=by
 by_cases h0:it=0
 ·subst h0;exact jL s _ v kd rn pv fn Ae n c tx w hs rfl h
 by_cases h1:it=40
 ·subst h1;exact Z8 s _ v kd rn pv fn Ae n c tx w hs rfl h
 by_cases h2:it=41
 ·subst h2;exact Z9 s _ v kd rn pv fn Ae n c tx w hs rfl h
 exact aA s _ v kd rn pv it fn Ae n c tx w hs ⟨h0,h1,h2⟩ rfl h
end Go.Proofs.YtoaabebgmdbjeaaGreatDoor
namespace Go.Proofs.YtoaabebgmdbjeaaGreatDoor
open Go Go.RowKit
section
variable {P:Program} {ops:Array Oper} {Q:Exit->Act->World->Prop}
end
theorem ER {a:Act} {d k:Nat} {v:Value} (h:d≠k):(a.put (some d) v).eval (.tmp k)=a.eval (.tmp k):=Act.eval_put (fun x hx=>by
 cases hx
 intro e
 cases e
 exact h rfl)
theorem ET {a:Act} {v:Value} {x:Operand}:(a.put none v).eval x=a.eval x:=rfl
theorem Hr {a:Act} {d:Nat} {v:Value} (h:d<a.tmps.size):(a.put (some d) v).eval (.tmp d)=v:=by
 show(a.tmps.setIfInBounds d v).getD d undef=v
 simp [Array.getD_eq_getD_getElem?,h]
theorem Cm {a:Act} {d:Option Nat} {v:Value}:(a.put d v).tmps.size=a.tmps.size:=by
 cases d with
 | none=>rfl
 | some d=>show(a.tmps.setIfInBounds d v).size=_;simp
end Go.Proofs.YtoaabebgmdbjeaaGreatDoor
namespace Go.Proofs.YtoaabebgmdbjeaaGreatDoor
open Go.RowKit
namespace PG
theorem Uz {g:Gr} {y a b:Nat} {p:Pn} (hy:y<g.rows) (i j:Nat):(DW g y a b p).f i j=if i=y then mend (E5 (g.f y) a b p) g.AB j else g.f i j:=by
 unfold DW
 rw [if_pos hy]
end PG
theorem IsG.alike {w:World} {G H:PG.Gr} {v:Value} (h:IsG w G v) (e:PG.Alike G H):IsG w H v:=by
 obtain⟨s,rfl,ho⟩:=h
 exact⟨s,by rw [e.1,e.2.1],by rw [<- e.1, <- e.2.1, <- PG.DT e];exact ho⟩
namespace PG
def ZR (all:Bool) (r k y:Nat):Prop:=2<k\/(all=false/\y≠r)\/(k=0/\y<r)\/(k=1/\r<y)
instance (all:Bool) (r k y:Nat):Decidable (ZR all r k y):=inferInstanceAs (Decidable (_\/_))
end PG
end Go.Proofs.YtoaabebgmdbjeaaGreatDoor
namespace Go.Proofs.YtoaabebgmdbjeaaGreatDoor
open Go.RowKit
theorem Xa (R K r n cp B a:Nat) (fr tw t:Int) (p:PG.Pn) (A:Option Addr) (l:List PG.Cl) (w:World) (hl:Au w B A n l) (hB:B<=w.heap.size) (hn:n=R*K) (hr:r<R) (hR:R<=40) (h0:1<=K) (hK:K<=60)
  (hf: -1000<=fr/\fr<=1000) (ht: -1000<=tw/\tw<=1000000) (ha:(if fr<0 then (0:Int) else fr)=(a:Int)) (hT:(if (K:Int)<tw then (K:Int) else tw)=t):
  Calls Tryz.prog 199 #[gv R K (.slice A n cp),.int .i64 r,.int .i64 fr,.int .i64 tw,pv p] w (GQ w R K n (spl l (r*K) (Dn (Dp ((l.drop (r*K)).take K) a t.toNat p)))):=by
 have hle:r*K+K<=R*K:=by rw [<- Nat.succ_mul];exact Nat.mul_le_mul_right K hr
 have hRK:R*K<=2400:=Nat.mul_le_mul hR hK
 have hlen:=hl.len
 obtain⟨i0,hi,hz0,hz1,hz2⟩:=info_parts DN
 have CL:=hide (fun w' (hb:Below w.heap.size w w')=>Il R K n cp B A l w' (hl.below (hb.mono hB)) (Nat.le_trans hB hb.size) (by omega))
 have RW:=hide (fun w' g=>GN R K r n n ⟨g,0,none⟩ w' hn (Nat.le_refl _) (by simp only [maxLen];omega) hr hR h0 hK)
 have BC: ∀(p:PG.Pn) (w':World),Calls Tryz.prog 97 #[.agg #[.int .i64 p.1,.int .i64 p.2.1,.int .i64 p.2.2]] w' fun e w''=>e=.returned (.agg #[.int .i32 32,.int .i64 0,.int .i64 p.1,.int .i64 p.2.1,.int .i64 p.2.2])/\Below w'.heap.size w' w'':=fun p w'=>FP _ _ _ w'
 have BC:=hide BC
 have HS:=hide (fun (w':World) (B' g:Nat) (l':List PG.Cl) (h:Au w' B' (some ⟨g,0,none⟩) n l')=>Gy (K:=K) (r:=r) h hn hr h0)
 have ht3:t<=K/\ -1000<=t:=by rw [<- hT];split<;>omega
 have ha3:a<=1000:=by split at ha<;>omega
 unfold gv pv at*
 unfold GQ at*
 unfold gv at*
 have hnx:r*K+K<=n:=by omega
 have hn2:n<=2400:=by omega
 clear hn hRK hle
 generalize r*K=z at*
 have hrow:((l.drop z).take K).length=K:=by rw [List.length_take,List.length_drop];omega
 have hsame:=QB (l:=l) (x:=z) (K:=K) (by omega)
 obtain⟨rw_,hrw⟩: ∃q,(l.drop z).take K=q:=⟨_,rfl⟩
 rw [hrw] at hrow hsame⊢
 have hrw:=hide hrw
 have hsame:=hide hsame
 have hrow:=hide hrow
 have hlen:=hide hlen
 go_enter Tryz.func199,Tryz.ntmps199
 go_wp2_with (first
  | (go_at_call 112
     go_must (refine(CL.out _ Ce.2.2.2).mono ?_)
     rintro e w1 ⟨g,rfl,o1,b1⟩
     obtain⟨x0,x1,x2,bw⟩:=Ce (w:=w) (t0:=37) (t1:=38) (t2:=37) (cs:= #[.int .i64 R,.int .i64 K,.slice A n cp]) (ds:= #[.int .i64 p.1,.int .i64 p.2.1,.int .i64 p.2.2]) (es:= #[.int .i64 0,.int .i64 0,.slice none 0 0])
     have y0:=x0.below b1 x0.lt
     have y1:=x1.below b1 x1.lt
     have y2:=x2.below b1 x2.lt
     have bb:=bw.trans (b1.mono bw.size)
     have o1:=own_base' o1 bw.size
     obtain⟨a0,a1,a2,a3,a4,a5⟩:=y0.three
     have n0:=Aa o1 y0 (by decide)
     have X0:=hide (y0.Cu (.int .i64 R) (.int .i64 K) (.slice (some ⟨g,0,none⟩) n n))
     have X1:=hide (y1.E9 (g':=w.heap.size) (by omega) (.int .i64 R) (.int .i64 K) (.slice (some ⟨g,0,none⟩) n n))
     have X2:=hide (y2.E9 (g':=w.heap.size) (by omega) (.int .i64 R) (.int .i64 K) (.slice (some ⟨g,0,none⟩) n n))
     have O:=hide (ownsRow_setCell_other (ownsRow_setCell_other (ownsRow_setCell_other o1 (a:=⟨w.heap.size,0,none⟩) n0 (.int .i64 R)) (a:=⟨w.heap.size,1,none⟩) n0 (.int .i64 K)) (a:=⟨w.heap.size,2,none⟩) n0 (.slice (some ⟨g,0,none⟩) n n))
     have bs:=hide (BN bb (Nat.le_refl _) (.int .i64 R) (.int .i64 K) (.slice (some ⟨g,0,none⟩) n n))
     clear x0 x1 x2 bw b1 y0 y1 y2 CL o1 n0 bb)
  | (go_at_call 66
     go_must (refine(RW.out _ g).mono ?_)
     rintro e w2 ⟨⟨c',rfl,hcR,hcM⟩,bR⟩
     rw [add0]
     have x0:=X0.out.below bR X0.out.lt
     have x1:=X1.out.below bR X1.out.lt
     have x2:=X2.out.below bR X2.out.lt
     have ho:=O.out.kept (BS bR none) (by simp [Value.ownBlock])
     have bb:=bs.out.trans (bR.mono bs.out.size)
     clear X0 X1 X2 O bs bR RW))
 go_loopw [12] (fun i wr=> ∃k:Nat,a<=k/\(k<=a\/(k:Int)<=t)/\i=.int .i64 k/\Box wr w.heap.size 37 #[.int .i64 R,.int .i64 K,.slice (some ⟨g,0,none⟩) n n] /\Box wr (w.heap.size+1) 38 #[.int .i64 p.1,.int .i64 p.2.1,.int .i64 p.2.2] /\Box wr (w.heap.size+1+1) 37 #[.int .i64 0,.int .i64 0,.slice none 0 0] /\
   wr.ownsRow w.heap.size 66 5 (.slice (some ⟨g,0,none⟩) n n) n (Ag (spl l z (Dp rw_ a k p)))/\Below w.heap.size w wr)
  (fun i _=>(t-intOf i).toNat)
 case atStart=>exact⟨a,Nat.le_refl _,.inl (Nat.le_refl _),rfl,x0,x1,x2,by rw [Ep _ _ _ _ (Nat.le_refl _),hsame.out];exact ho,bb⟩
 case round=>
  clear ho bb x0 x1 x2 a0 a1 a2 a3 a4 a5 ha
  obtain⟨k,hka,hkt,rfl,x0,x1,x2,ho,hb⟩:=hrel
  obtain⟨y0,y1,y2,_⟩:=x1.three
  have l1:=x1.lt
  have l2:g<wr.heap.size:=(ho.lt g rfl).2
  have lg:w.heap.size<=g:=(ho.lt g rfl).1
  have lb:w.heap.size<=wr.heap.size:=hb.size
  by_cases hlt:(k:Int)<t
  ·have hwl:=Ee rw_ a k p
   rw [hrow.out] at hwl
   have hwl:=hide hwl
   have hsl:=hide (D5 (l:=l) (x:=z) (m:=Dp rw_ a k p) (by rw [hwl.out,hlen.out];omega))
   obtain⟨cd,hck⟩: ∃cd,(spl l z (Dp rw_ a k p))[z+k]? =some cd:=⟨_,List.getElem?_eq_getElem (by rw [hsl.out,hlen.out];omega)⟩
   have FIN: ∀w3,Below wr.heap.size wr w3->
     (w3.cell? ⟨g,z*5+k*5,none⟩=some (.int .i32 (PG.rn cd))/\w3.cell? ⟨g,z*5+k*5+1,none⟩=some (.int .i64 (PG.kd cd))/\w3.cell? ⟨g,z*5+k*5+2,none⟩=some (.int .i64 (PG.pn cd).1)/\w3.cell? ⟨g,z*5+k*5+3,none⟩=some (.int .i64 (PG.pn cd).2.1)/\w3.cell? ⟨g,z*5+k*5+4,none⟩=some (.int .i64 (PG.pn cd).2.2)/\
      w3.frozen? ⟨g,z*5+k*5,none⟩=false/\w3.frozen? ⟨g,z*5+k*5+1,none⟩=false/\w3.frozen? ⟨g,z*5+k*5+2,none⟩=false/\w3.frozen? ⟨g,z*5+k*5+3,none⟩=false/\w3.frozen? ⟨g,z*5+k*5+4,none⟩=false)/\
     Box (Ci w3 g (z*5+k*5) (PG.blank p)) w.heap.size 37 #[.int .i64 R,.int .i64 K,.slice (some ⟨g,0,none⟩) n n] /\Box (Ci w3 g (z*5+k*5) (PG.blank p)) (w.heap.size+1) 38 #[.int .i64 p.1,.int .i64 p.2.1,.int .i64 p.2.2] /\Box (Ci w3 g (z*5+k*5) (PG.blank p)) (w.heap.size+1+1) 37 #[.int .i64 0,.int .i64 0,.slice none 0 0] /\
     (Ci w3 g (z*5+k*5) (PG.blank p)).ownsRow w.heap.size 66 5 (.slice (some ⟨g,0,none⟩) n n) n (Ag (spl l z (Dp rw_ a (k+1) p)))/\Below w.heap.size w (Ci w3 g (z*5+k*5) (PG.blank p)):=fun w3 h3=>by
    have m0:=Aa ho x0 (by decide)
    have m1:=Aa ho x1 (by decide)
    have m2:=Aa ho x2 (by decide)
    have o3:=ho.kept (BS h3 none) (by simp [Value.ownBlock])
    have S:=Eu o3 (k:=z+k) (o:=z*5+k*5) (by omega) (PG.blank p) (by omega) (by rw [hsl.out,hlen.out])
    have hs3:=h3.size
    refine⟨EC o3 (by omega) hck,(x0.below h3 x0.lt).grown S.2 (fun e=>m0 e.symm),(x1.below h3 x1.lt).grown S.2 (fun e=>m1 e.symm),(x2.below h3 x2.lt).grown S.2 (fun e=>m2 e.symm),?_,(hb.trans (h3.mono lb)).grown S.2 (by omega) (by rintro _ ⟨⟩;exact lg)⟩
    rw [<- NZ p hka (by rw [hrow.out];omega), <- Uf _ (by rw [hwl.out,hlen.out];omega) (by rw [hwl.out];omega)]
    exact S.1
   have FIN:=hide FIN
   clear ho hck x0 x1 x2
   go_wp2_with (
    go_at_call 97
    go_must (refine(BC.out p _).mono ?_)
    rintro e w3 ⟨rfl,b3⟩
    obtain⟨⟨v0,v1,v2,v3,v4,f0,f1,f2,f3,f4⟩,G2⟩:=FIN.out _ b3
    have G2:=hide G2
    clear b3 FIN)
   go_roundw
   case rel=>exact⟨k+1,by omega,.inr (by omega),by go_num,G2.out⟩
   case measure=>simp [intOf];omega
  ·have hwe:Dp rw_ a k p=Dp rw_ a t.toNat p:=by
    rcases hkt with h | h
    ·rw [Ep _ _ _ _ h,Ep _ _ _ _ (by omega)]
    ·rw [show t.toNat=k from by omega]
   rw [hwe] at ho
   have hwl:=Ee rw_ a t.toNat p
   rw [hrow.out] at hwl
   clear hwe
   obtain⟨lw,hlw⟩: ∃lw,Dp rw_ a t.toNat p=lw:=⟨_,rfl⟩
   rw [hlw] at ho hwl
   have hrw2:=Ug (l:=l) (m:=lw) (x:=z) (by rw [hwl,hlen.out];omega)
   rw [hwl] at hrw2
   have lI:=hide (Uh (l:=l) (m:=lw) (m':=Dn lw) (x:=z) (by rw [hwl,hlen.out];omega) (Ed lw))
   have hlw:=hide hlw
   have S2:=HS.out _ _ _ _ (Au.Bu ho)
   rw [add0,hrw2] at S2
   have hwl:=hide hwl
   have hsl:=hide (D5 (l:=l) (x:=z) (m:=lw) (by rw [hwl.out,hlen.out];omega))
   have n0:=Aa ho x0 (by decide)
   have n2:=Aa ho x2 (by decide)
   have x0:=hide x0
   have x2:=hide x2
   have ho:=hide ho
   clear x1 hrw2 BC y0 y1 y2 HS
   go_wp2_with (first
    | (go_at_call 114
       go_must (refine(Gz K c' _ _ _ _ S2 (Nat.le_refl _) (by omega)).mono ?_)
       rintro e w3 ⟨g3,rfl,o3,b3⟩
       have O3:=ho.out.kept (BS b3 none) (by simp [Value.ownBlock])
       have x0:=x0.out.below b3 x0.out.lt
       have x2:=x2.out.below b3 x2.out.lt
       have bb:=hb.trans (b3.mono hb.size)
       have s3:=Au.Bu o3
       clear b3 S2 o3 ho)
    | ((with_reducible refine Hu (o:=⟨some 36,_,_,_,_,_⟩) ?_)
       go_must (refine Ck (o:=⟨some 36,_,_,_,_,_⟩) rfl (.tmp 33) (.tmp 35) 35 35 rfl 66 i0 Tryz.underlying35 hi hz1 w.heap.size 66 g _ z n n _ _ (spl l z lw) rfl O3 rfl _ w3.heap.size K K K (Dn lw) rfl (Nat.min_self K) s3 (by omega) ?_)
       intro w4 O4 hg4
       rw [lI.out] at O4
       have x0:=x0.grown hg4 (fun e=>n0 e.symm)
       have x2:=x2.grown hg4 (fun e=>n2 e.symm)
       have bb:=bb.grown hg4 bb.size (by rintro _ ⟨⟩;exact lg)
       obtain⟨a0,a1,a2,a3,a4,a5⟩:=x0.three
       obtain⟨q0,q1,q2,q3,q4,q5⟩:=x2.three
       have O4:=hide O4
       clear n0 hg4 O3 s3))
   have X:=x2.Cu (.int .i64 R) (.int .i64 K) (.slice (some ⟨g,0,none⟩) n n)
   obtain⟨j0,j1,j2,_⟩:=X.three
   refine bodyPost_ret (v:=.agg #[.int .i64 R,.int .i64 K,.slice (some ⟨g,0,none⟩) n n]) (by simp [results,Tryz.results199,go_sem,j0,j1,j2]) rfl ⟨g,rfl,?_,?_⟩
   ·rw [hlw.out]
    exact ownsRow_setCell_other (ownsRow_setCell_other (ownsRow_setCell_other O4.out (a:=⟨w.heap.size+1+1,0,none⟩) n2 _) (a:=⟨w.heap.size+1+1,1,none⟩) n2 _) (a:=⟨w.heap.size+1+1,2,none⟩) n2 _
   ·exact BN bb (by omega) _ _ _
end Go.Proofs.YtoaabebgmdbjeaaGreatDoor
namespace Go.Proofs.YtoaabebgmdbjeaaGreatDoor
open Go.RowKit
theorem PG.Xb {G:PG.Gr} {r c m:Nat} {p:PG.Pn} (hr:r<G.rows):PG.Alike (PG.DW G r c (min ((c:Int)+m) G.AB).toNat p) (PG.DW G r c (c+m) p):=by
 have s1:=SN.DL G r c (min ((c:Int)+m) G.AB).toNat p
 have s2:=SN.DL G r c (c+m) p
 refine⟨s1.1.trans s2.1.symm,s1.2.trans s2.2.symm,fun i j hi hj=>?_⟩
 rw [s1.2] at hj
 rw [PG.Uz hr,PG.Uz hr]
 by_cases e:i=r
 ·rw [if_pos e,if_pos e]
  refine PG.LW (fun q hq=>?_) hj
  unfold PG.E5
  by_cases h1:c<=q/\q<c+m
  ·rw [if_pos h1,if_pos (by omega)]
  ·rw [if_neg h1,if_neg (by omega)]
 ·rw [if_neg e,if_neg e]
theorem Xc (G:PG.Gr) (v:Value) (r c m:Nat) (p:PG.Pn) (w:World) (hG:PG.BL G) (hc:c<G.AB) (hr:r<G.rows) (hm:m<=65535) (h:IsG w G v):Calls Tryz.prog 199 #[v,.int .i64 r,.int .i64 c,.int .i64 ((c:Int)+m),pv p] w (Dk w (PG.DW G r c (c+m) p)):=by
 have hgc:=hG.2.2.2.1
 obtain⟨A,cp,rfl,hl,h1,h2⟩:=h.open_
 refine(Xa G.rows G.AB r _ cp w.heap.size c c ((c:Int)+m) (min ((c:Int)+m) G.AB) p A _ w hl (Nat.le_refl _) rfl (by omega) hG.2.1 hG.2.2.1 hG.2.2.2.1 (by omega) (by omega) (by split<;>omega) (by split<;>omega)).mono fun e w' hm=>?_
 obtain⟨v',e1,hi,hb⟩:=Jl hm (PG.Li hr _ _ p) (PG.DL ..).1 (PG.DL ..).2
 exact⟨v',e1,hi.alike (PG.Xb hr),hb⟩
end Go.Proofs.YtoaabebgmdbjeaaGreatDoor
