/- A part of the proof: SourceExec, TailTwo, GridErase. -/
import Derived.Test.YtoaabebgmdbjeaaGreatDoorQb17
set_option maxRecDepth 100000
set_option maxHeartbeats 16000000
set_option linter.unusedVariables false
namespace Go.Proofs.YtoaabebgmdbjeaaGreatDoor
open Go Go.RowKit
theorem Fw (s t:SN.Sc) (v:Value) (w:World) (hs:SN.Ad s) (ht:SN.atS s s.row 0=t) (h:IsS w s v):Calls Tryz.prog 134 #[v] w (BF w t):=by
 obtain⟨x,rfl,hg⟩:=h
 obtain⟨A,cp,rfl⟩:=Af hg
 have HG:=hide hg
 have hgr:=hs.g.2.1
 have hgc:=hs.g.2.2.2.1
 have hR1:=hs.g.1
 have hK1:=hs.g.2.2.1
 have hrow:=hs.row
 have Bz:=hs.col
 have AT:=hide (fun w' v' h=>(show Calls Tryz.prog 109 #[v',.int .i64 (s.row:Nat),.int .i64 0] w' (BF w' t) from ht▸Fa s v' (s.row:Nat) 0 w' hs (by omega) (by omega) h))
 clear ht hs hg
 go_enter Tryz.func134,Tryz.ntmps134
 go_upto_region 1 with (refine Bb HG _ rfl rfl rfl rfl rfl ?_;intro g gR w2 csR hsR HB2 HW2 HR2 HG2 hne hg1 Am)
 clear HG
 have k3:=HB2.out.c3
 go_wp2_with (refine AY HB2.out rfl _ rfl rfl ?_)
 refine(AT.out _ _ ⟨_,rfl,HG2.out⟩).mono (Az HR2 HW2 fun A7 c7 w7 HR7 HW7 HG7=>?_)
 clear k3
 clear HB2 HR2 HW2 HG2
 go_wp2_with (refine AU HR7.out hsR rfl _ _ rfl rfl rfl rfl ?_;intro w8 hB8 hk8 hs8)
 exact Ba rfl rfl rfl hB8 HG7 HR7 HW7 hk8 Am
theorem je (s t:SN.Sc) (v:Value) (w:World) (hs:SN.Ad s) (ht:SN.GA s 8=t) (h:IsS w s v):Calls Tryz.prog 100 #[v,.int .u8 8] w (BF w t):=by
 obtain⟨x,rfl,hg⟩:=h
 obtain⟨A,cp,rfl⟩:=Af hg
 have HG:=hide hg
 have hgr:=hs.g.2.1
 have hgc:=hs.g.2.2.2.1
 have hR1:=hs.g.1
 have hK1:=hs.g.2.2.1
 have hrow:=hs.row
 have Bz:=hs.col
 have AT:=hide (fun w' v' h=>(show Calls Tryz.prog 109 #[v',.int .i64 (s.row:Nat),.int .i64 ((s.col:Int)-1)] w' (BF w' t) from ht▸Fa s v' (s.row:Nat) ((s.col:Int)-1) w' hs (by omega) (by omega) h))
 clear ht hs hg
 go_enter Tryz.func100,Tryz.ntmps100
 go_upto_region 1 with (refine Bb HG _ rfl rfl rfl rfl rfl ?_;intro g gR w2 csR hsR HB2 HW2 HR2 HG2 hne hg1 Am)
 clear HG
 have k3:=HB2.out.c3
 have k4:=HB2.out.c4
 go_wp2_with (refine AY HB2.out rfl _ rfl rfl ?_)
 refine(AT.out _ _ ⟨_,rfl,HG2.out⟩).mono (Az HR2 HW2 fun A7 c7 w7 HR7 HW7 HG7=>?_)
 clear k3 k4
 clear HB2 HR2 HW2 HG2
 go_wp2_with (refine AU HR7.out hsR rfl _ _ rfl rfl rfl rfl ?_;intro w8 hB8 hk8 hs8)
 exact Ba rfl rfl rfl hB8 HG7 HR7 HW7 hk8 Am
theorem jf (s t:SN.Sc) (v:Value) (w:World) (hs:SN.Ad s) (hT:Jt w) (ht:SN.GA s 9=t) (h:IsS w s v):Calls Tryz.prog 100 #[v,.int .u8 9] w (BF w t):=by
 obtain⟨x,rfl,hg⟩:=h
 obtain⟨A,cp,rfl⟩:=Af hg
 have HG:=hide hg
 have hgr:=hs.g.2.1
 have hgc:=hs.g.2.2.2.1
 have hR1:=hs.g.1
 have hK1:=hs.g.2.2.1
 have hrow:=hs.row
 have Bz:=hs.col
 obtain⟨nx,hnx⟩: ∃nx,TB.next s.tabs s.col s.g.AB=nx:=⟨_,rfl⟩
 have hn:=TB.gQ (t:=s.tabs) (c:=s.col) hK1
 rw [hnx] at hn
 have NX:=hide (fun w' (hb:Below w.heap.size w w')=>ZL s.tabs s.col s.g.AB nx hnx w' hs.tabs (hT.keep hb) (by omega) (by omega) (by omega))
 have AT:=hide (fun w' v' h=>(show Calls Tryz.prog 109 #[v',.int .i64 (s.row:Nat),.int .i64 (nx:Nat)] w' (BF w' t) from(show SN.atS s s.row nx=t by rw [<- hnx];exact ht)▸Fa s v' (s.row:Nat) (nx:Nat) w' hs (by omega) (by omega) h))
 clear ht hs hg hnx hT
 go_enter Tryz.func100,Tryz.ntmps100
 go_upto_region 1 with (refine Bb HG _ rfl rfl rfl rfl rfl ?_;intro g gR w2 csR hsR HB2 HW2 HR2 HG2 hne hg1 Am)
 clear HG
 go_upto_region 5 with fail
 have HO:=hide (fun w' (hb:Below w2.heap.size w2 w')=>AT.out w' _ ⟨_,rfl,HG2.out.low hb⟩)
 have NXX:=hide (fun w' (hb:Below w2.heap.size w2 w')=>NX.out w' (HW2.out.trans (hb.mono HW2.out.size)))
 go_simp
 refine Bd (n:=46) 12 [] (fun _=> #[]) [(0,0,0,0,0),(0,0,0,0,0),(0,0,0,0,0),(0,0,0,0,0),(0,0,0,0,0),(0,0,0,0,0),(0,0,0,0,0),(0,0,0,0,0),(0,0,0,0,0),(0,0,0,0,0),(0,0,0,0,0),(1,0,0,0,0),(0,0,0,0,0)] (fun j=> [(.agg (scA (.slice A (s.g.rows*s.g.AB) cp) s)),(.pointer (some ⟨g,3,none⟩)),(.int .i64 (s.row:Nat)),(.pointer (some ⟨g,11,none⟩)),(.int .u64 (s.tabs:Nat)),(.pointer (some ⟨g,4,none⟩)),(.int .i64 (s.col:Nat)),(.pointer (some ⟨g,0,none⟩)),(.pointer (some ⟨g,1,none⟩)),(.int .i64 (s.g.AB:Nat)),(.int .i64 (nx:Nat)),undef,undef].getD j undef) [none,none,none,none,none,none,none,none,none,none,none,some (EH t)] (fun _=>0) (by kernel_rfl) (by kernel_rfl) (by kernel_rfl) rfl (by kernel_rfl) (by kernel_rfl) (DV rfl) (fun i j h=>by revert h;exact DV (p:=fun _=>_) rfl i) (Ao.none_ (Ao.none_ (Ao.none_ (Ao.none_ (Ao.none_ (Ao.none_ (Ao.none_ (Ao.none_ (Ao.none_ (Ao.none_ (Ao.none_ (Ao.some_ (EH.stays (by kernel_rfl)) (Ao.nil _))))))))))))) (fun hGS=>Gj ⟨?_,?_,?_,?_,?_,?_,?_,?_,?_,?_,?_,?_⟩) ?_
 ·intro L a w' hL hsame hsz hJ AJ hcl
  have hb:=hJ.kept.toBelow (Nat.le_refl _) (by simp)
  have e0:a.eval (.tmp 2)=(.pointer (some ⟨g,0,none⟩)):=AZ hsame (by kernel_rfl)
  have hx:=hJ.Aj ((show Box w2 g 43 (scA (.slice A (s.g.rows*s.g.AB) cp) s) from HB2.out)) (by simp)
  exact Step.val _ rfl rfl (AV rfl) (.agg (scA (.slice A (s.g.rows*s.g.AB) cp) s)) w' (fun ρ hρ=>BO hx rfl ρ _ rfl ((hρ _).symm.trans e0)) (hJ.val hGS hcl hL rfl (Below.refl _ _) _ rfl)
 ·intro L a w' hL hsame hsz hJ AJ hcl
  refine Ay hJ hGS hcl hL 2 (.pointer (some ⟨g,0,none⟩)) (.pointer (some ⟨g,3,none⟩)) (AZ hsame (by kernel_rfl)) _ rfl rfl rfl rfl rfl fun ρ _ e0=>?_
  clear hJ hsame AJ hcl hsz
  go_simp
 ·intro L a w' hL hsame hsz hJ AJ hcl
  have q0:w'.cell? ⟨g,3,none⟩=some (.int .i64 (s.row:Nat)):=(hJ.Aj ((show Box w2 g 43 (scA (.slice A (s.g.rows*s.g.AB) cp) s) from HB2.out)) (by simp)).cell 3
  refine Ay hJ hGS hcl hL 18 (.pointer (some ⟨g,3,none⟩)) (.int .i64 (s.row:Nat)) (gslot hJ AJ 1 (by kernel_rfl) (by kernel_rfl) (by decide) rfl rfl) _ rfl rfl rfl rfl rfl fun ρ _ e0=>?_
  clear hJ hsame AJ hcl hsz
  go_simp
 ·intro L a w' hL hsame hsz hJ AJ hcl
  refine Ay hJ hGS hcl hL 2 (.pointer (some ⟨g,0,none⟩)) (.pointer (some ⟨g,11,none⟩)) (AZ hsame (by kernel_rfl)) _ rfl rfl rfl rfl rfl fun ρ _ e0=>?_
  clear hJ hsame AJ hcl hsz
  go_simp
 ·intro L a w' hL hsame hsz hJ AJ hcl
  have q0:w'.cell? ⟨g,11,none⟩=some (.int .u64 (s.tabs:Nat)):=(hJ.Aj ((show Box w2 g 43 (scA (.slice A (s.g.rows*s.g.AB) cp) s) from HB2.out)) (by simp)).cell 11
  refine Ay hJ hGS hcl hL 20 (.pointer (some ⟨g,11,none⟩)) (.int .u64 (s.tabs:Nat)) (gslot hJ AJ 3 (by kernel_rfl) (by kernel_rfl) (by decide) rfl rfl) _ rfl rfl rfl rfl rfl fun ρ _ e0=>?_
  clear hJ hsame AJ hcl hsz
  go_simp
 ·intro L a w' hL hsame hsz hJ AJ hcl
  refine Ay hJ hGS hcl hL 2 (.pointer (some ⟨g,0,none⟩)) (.pointer (some ⟨g,4,none⟩)) (AZ hsame (by kernel_rfl)) _ rfl rfl rfl rfl rfl fun ρ _ e0=>?_
  clear hJ hsame AJ hcl hsz
  go_simp
 ·intro L a w' hL hsame hsz hJ AJ hcl
  have q0:w'.cell? ⟨g,4,none⟩=some (.int .i64 (s.col:Nat)):=(hJ.Aj ((show Box w2 g 43 (scA (.slice A (s.g.rows*s.g.AB) cp) s) from HB2.out)) (by simp)).cell 4
  refine Ay hJ hGS hcl hL 22 (.pointer (some ⟨g,4,none⟩)) (.int .i64 (s.col:Nat)) (gslot hJ AJ 5 (by kernel_rfl) (by kernel_rfl) (by decide) rfl rfl) _ rfl rfl rfl rfl rfl fun ρ _ e0=>?_
  clear hJ hsame AJ hcl hsz
  go_simp
 ·intro L a w' hL hsame hsz hJ AJ hcl
  refine Ay hJ hGS hcl hL 2 (.pointer (some ⟨g,0,none⟩)) (.pointer (some ⟨g,0,none⟩)) (AZ hsame (by kernel_rfl)) _ rfl rfl rfl rfl rfl fun ρ _ e0=>?_
  clear hJ hsame AJ hcl hsz
  go_simp
 ·intro L a w' hL hsame hsz hJ AJ hcl
  refine Ay hJ hGS hcl hL 24 (.pointer (some ⟨g,0,none⟩)) (.pointer (some ⟨g,1,none⟩)) (gslot hJ AJ 7 (by kernel_rfl) (by kernel_rfl) (by decide) rfl rfl) _ rfl rfl rfl rfl rfl fun ρ _ e0=>?_
  clear hJ hsame AJ hcl hsz
  go_simp
 ·intro L a w' hL hsame hsz hJ AJ hcl
  have q0:w'.cell? ⟨g,1,none⟩=some (.int .i64 (s.g.AB:Nat)):=(hJ.Aj ((show Box w2 g 43 (scA (.slice A (s.g.rows*s.g.AB) cp) s) from HB2.out)) (by simp)).cell 1
  refine Ay hJ hGS hcl hL 25 (.pointer (some ⟨g,1,none⟩)) (.int .i64 (s.g.AB:Nat)) (gslot hJ AJ 8 (by kernel_rfl) (by kernel_rfl) (by decide) rfl rfl) _ rfl rfl rfl rfl rfl fun ρ _ e0=>?_
  clear hJ hsame AJ hcl hsz
  go_simp
 ·intro L a w' hL hsame hsz hJ AJ hcl
  have hb:=hJ.kept.toBelow (Nat.le_refl _) (by simp)
  have e0:a.eval (.tmp 21)=(.int .u64 (s.tabs:Nat)):=AQ (j:=4) (by kernel_rfl) (hJ.valOf (by decide) (AX AJ 4 (by kernel_rfl)) rfl rfl)
  have e1:a.eval (.tmp 23)=(.int .i64 (s.col:Nat)):=AQ (j:=6) (by kernel_rfl) (hJ.valOf (by decide) (AX AJ 6 (by kernel_rfl)) rfl rfl)
  have e2:a.eval (.tmp 26)=(.int .i64 (s.g.AB:Nat)):=AQ (j:=9) (by kernel_rfl) (hJ.valOf (by decide) (AX AJ 9 (by kernel_rfl)) rfl rfl)
  refine Step.call _ rfl rfl (AV rfl) 133 #[.int .u64 (s.tabs:Nat),.int .i64 (s.col:Nat),.int .i64 (s.g.AB:Nat)] (fun ρ hρ=>?_) ?_
  ·skip
   rw [hρ] at e0 e1 e2
   have ef:ρ (.func 133)=.func (.func 133) #[] #[] :=(hρ _).symm
   clear hJ hsame AJ hcl hρ hsz hb
   go_simp
  ·refine(NXX.out _ hb).mono ?_
   rintro e w2 ⟨rfl,rfl⟩
   exact⟨_,rfl,hJ.val hGS hcl hL rfl (Below.refl _ _) _ rfl⟩
 ·intro L a w' hL hsame hsz hJ AJ hcl
  have hb:=hJ.kept.toBelow (Nat.le_refl _) (by simp)
  have e0:a.eval (.tmp 17)=(.agg (scA (.slice A (s.g.rows*s.g.AB) cp) s)):=AQ (j:=0) (by kernel_rfl) (hJ.valOf (by decide) (AX AJ 0 (by kernel_rfl)) rfl rfl)
  have e1:a.eval (.tmp 19)=(.int .i64 (s.row:Nat)):=AQ (j:=2) (by kernel_rfl) (hJ.valOf (by decide) (AX AJ 2 (by kernel_rfl)) rfl rfl)
  have e2:a.eval (.tmp 27)=(.int .i64 (nx:Nat)):=AQ (j:=10) (by kernel_rfl) (hJ.valOf (by decide) (AX AJ 10 (by kernel_rfl)) rfl rfl)
  refine Step.call _ rfl rfl (AV rfl) 109 #[.agg (scA (.slice A (s.g.rows*s.g.AB) cp) s),.int .i64 (s.row:Nat),.int .i64 (nx:Nat)] (fun ρ hρ=>?_) ?_
  ·skip
   rw [hρ] at e0 e1 e2
   have ef:ρ (.func 109)=.func (.func 109) #[] #[] :=(hρ _).symm
   clear hJ hsame AJ hcl hρ hsz hb
   go_simp
  ·refine(HO.out _ hb).mono ?_
   rintro e w2 ⟨v,rfl,hi,bb⟩
   exact⟨_,rfl,hJ.pred hGS hcl hL rfl bb _ (Er hi)⟩
 ·intro L u w' hF hall
  change wpList _ _ _ _ (Act.put (Act.put (Act.put (Act.put (Act.put (Act.put (Act.put (Act.put (Act.put (Act.put (Act.put (Act.put (Act.put (BD _ u 0 _) (some 17) (u 0)) (some 18) (u 1)) (some 19) (u 2)) (some 20) (u 3)) (some 21) (u 4)) (some 22) (u 5)) (some 23) (u 6)) (some 24) (u 7)) (some 25) (u 8)) (some 26) (u 9)) (some 27) (u 10)) (some 28) (u 11)) none (u 12)) _
  simp only [BD]
  obtain⟨A8,c8,f11,hi8⟩:=(show EH t (u 11) w' from hF.Co (j:=11) (by decide) (hall 11 (by decide)) rfl)
  have hk:=hF.kept.toBelow (Nat.le_refl _) (by simp)
  clear hF
  generalize u 0=z0
  generalize u 1=z1
  generalize u 2=z2
  generalize u 3=z3
  generalize u 4=z4
  generalize u 5=z5
  generalize u 6=z6
  generalize u 7=z7
  generalize u 8=z8
  generalize u 9=z9
  generalize u 10=z10
  generalize u 11=z11 at f11⊢
  generalize u 12=z12
  subst f11
  simp only [List.drop_succ_cons,List.drop_zero]
  refine AU (x:=.slice A8 (t.g.rows*t.g.AB) c8) (s:=t) (HR2.out.below hk HR2.out.lt) hsR rfl _ _ rfl (by go_simp) (by go_simp) rfl ?_
  intro w8 hB8 hk8 hs8
  change Exit.then _ _ Exit.normal _ _
  go_simp
  go_step
  go_wp2_with fail
  have hw:=HW2.out.trans (hk.mono HW2.out.size)
  exact bodyPost_ret (CJ rfl rfl hB8) rfl ⟨_,rfl,⟨_,rfl,hi8.kept (HR2.out.below hk HR2.out.lt) (by decide) hk8⟩,hw.trans (hk8.toBelow hw.size (fun k hh=>by simp at hh;omega))⟩
theorem aR (s t:SN.Sc) (v:Value) (w:World) (hs:SN.Ad s) (ht:SN.GA s 10=t) (h:IsS w s v):Calls Tryz.prog 100 #[v,.int .u8 10] w (BF w t):=by
 obtain⟨x,rfl,hg⟩:=h
 obtain⟨A,cp,rfl⟩:=Af hg
 have HG:=hide hg
 have hgr:=hs.g.2.1
 have hgc:=hs.g.2.2.2.1
 have hR1:=hs.g.1
 have hK1:=hs.g.2.2.1
 have hrow:=hs.row
 have Bz:=hs.col
 have AT:=hide (fun w' v' h=>(show Calls Tryz.prog 64 #[v'] w' (BF w' t) from ht▸JH s v' w' hs h))
 clear ht hs hg
 go_enter Tryz.func100,Tryz.ntmps100
 go_upto_region 1 with (refine Bb HG _ rfl rfl rfl rfl rfl ?_;intro g gR w2 csR hsR HB2 HW2 HR2 HG2 hne hg1 Am)
 clear HG
 go_wp2_with (refine AY HB2.out rfl _ rfl rfl ?_)
 refine(AT.out _ _ ⟨_,rfl,HG2.out⟩).mono (Az HR2 HW2 fun A7 c7 w7 HR7 HW7 HG7=>?_)
 clear HB2 HR2 HW2 HG2
 go_wp2_with (refine AU HR7.out hsR rfl _ _ rfl rfl rfl rfl ?_;intro w8 hB8 hk8 hs8)
 exact Ba rfl rfl rfl hB8 HG7 HR7 HW7 hk8 Am
theorem aS (s t:SN.Sc) (v:Value) (w:World) (hs:SN.Ad s) (ht:SN.GA s 11=t) (h:IsS w s v):Calls Tryz.prog 100 #[v,.int .u8 11] w (BF w t):=by
 obtain⟨x,rfl,hg⟩:=h
 obtain⟨A,cp,rfl⟩:=Af hg
 have HG:=hide hg
 have hgr:=hs.g.2.1
 have hgc:=hs.g.2.2.2.1
 have hR1:=hs.g.1
 have hK1:=hs.g.2.2.1
 have hrow:=hs.row
 have Bz:=hs.col
 have AT:=hide (fun w' v' h=>(show Calls Tryz.prog 64 #[v'] w' (BF w' t) from ht▸JH s v' w' hs h))
 clear ht hs hg
 go_enter Tryz.func100,Tryz.ntmps100
 go_upto_region 1 with (refine Bb HG _ rfl rfl rfl rfl rfl ?_;intro g gR w2 csR hsR HB2 HW2 HR2 HG2 hne hg1 Am)
 clear HG
 go_wp2_with (refine AY HB2.out rfl _ rfl rfl ?_)
 refine(AT.out _ _ ⟨_,rfl,HG2.out⟩).mono (Az HR2 HW2 fun A7 c7 w7 HR7 HW7 HG7=>?_)
 clear HB2 HR2 HW2 HG2
 go_wp2_with (refine AU HR7.out hsR rfl _ _ rfl rfl rfl rfl ?_;intro w8 hB8 hk8 hs8)
 exact Ba rfl rfl rfl hB8 HG7 HR7 HW7 hk8 Am
theorem aT (s t:SN.Sc) (v:Value) (w:World) (hs:SN.Ad s) (ht:SN.GA s 12=t) (h:IsS w s v):Calls Tryz.prog 100 #[v,.int .u8 12] w (BF w t):=by
 obtain⟨x,rfl,hg⟩:=h
 obtain⟨A,cp,rfl⟩:=Af hg
 have HG:=hide hg
 have hgr:=hs.g.2.1
 have hgc:=hs.g.2.2.2.1
 have hR1:=hs.g.1
 have hK1:=hs.g.2.2.1
 have hrow:=hs.row
 have Bz:=hs.col
 have AT:=hide (fun w' v' h=>(show Calls Tryz.prog 64 #[v'] w' (BF w' t) from ht▸JH s v' w' hs h))
 clear ht hs hg
 go_enter Tryz.func100,Tryz.ntmps100
 go_upto_region 1 with (refine Bb HG _ rfl rfl rfl rfl rfl ?_;intro g gR w2 csR hsR HB2 HW2 HR2 HG2 hne hg1 Am)
 clear HG
 go_wp2_with (refine AY HB2.out rfl _ rfl rfl ?_)
 refine(AT.out _ _ ⟨_,rfl,HG2.out⟩).mono (Az HR2 HW2 fun A7 c7 w7 HR7 HW7 HG7=>?_)
 clear HB2 HR2 HW2 HG2
 go_wp2_with (refine AU HR7.out hsR rfl _ _ rfl rfl rfl rfl ?_;intro w8 hB8 hk8 hs8)
 exact Ba rfl rfl rfl hB8 HG7 HR7 HW7 hk8 Am
theorem aU (s t:SN.Sc) (v:Value) (w:World) (hs:SN.Ad s) (ht:SN.GA s 13=t) (h:IsS w s v):Calls Tryz.prog 100 #[v,.int .u8 13] w (BF w t):=by
 obtain⟨x,rfl,hg⟩:=h
 obtain⟨A,cp,rfl⟩:=Af hg
 have HG:=hide hg
 have hgr:=hs.g.2.1
 have hgc:=hs.g.2.2.2.1
 have hR1:=hs.g.1
 have hK1:=hs.g.2.2.1
 have hrow:=hs.row
 have Bz:=hs.col
 have AT:=hide (fun w' v' h=>(show Calls Tryz.prog 134 #[v'] w' (BF w' t) from ht▸Fw s _ v' w' hs rfl h))
 clear ht hs hg
 go_enter Tryz.func100,Tryz.ntmps100
 go_upto_region 1 with (refine Bb HG _ rfl rfl rfl rfl rfl ?_;intro g gR w2 csR hsR HB2 HW2 HR2 HG2 hne hg1 Am)
 clear HG
 go_wp2_with (refine AY HB2.out rfl _ rfl rfl ?_)
 refine(AT.out _ _ ⟨_,rfl,HG2.out⟩).mono (Az HR2 HW2 fun A7 c7 w7 HR7 HW7 HG7=>?_)
 clear HB2 HR2 HW2 HG2
 go_wp2_with (refine AU HR7.out hsR rfl _ _ rfl rfl rfl rfl ?_;intro w8 hB8 hk8 hs8)
 exact Ba rfl rfl rfl hB8 HG7 HR7 HW7 hk8 Am
theorem aV (s t:SN.Sc) (v:Value) (w:World) (hs:SN.Ad s) (ht:SN.GA s 14=t) (h:IsS w s v):Calls Tryz.prog 100 #[v,.int .u8 14] w (BF w t):=by
 obtain⟨x,rfl,hg⟩:=h
 obtain⟨A,cp,rfl⟩:=Af hg
 have HG:=hide hg
 have hgr:=hs.g.2.1
 have hgc:=hs.g.2.2.2.1
 have hR1:=hs.g.1
 have hK1:=hs.g.2.2.1
 have hrow:=hs.row
 have Bz:=hs.col
 obtain rfl:s.u14 1=t:=ht
 clear hs hg
 go_enter Tryz.func100,Tryz.ntmps100
 go_upto_region 1 with (refine Bb HG _ rfl rfl rfl rfl rfl ?_;intro g gR w2 csR hsR HB2 HW2 HR2 HG2 hne hg1 Am)
 clear HG
 have k14:=HB2.out.c14
 have z14:=HB2.out.fz 14
 go_upto_region 16 with fail
 have HB3:=hide (HB2.out.VB 1)
 obtain⟨HR3,HW3,HG3⟩:=DJ 14 (.int .i64 1) HB2 HR2 HW2 HG2 hne hg1
 generalize (w2.setCell ⟨g,14,none⟩ (.int .i64 1))=w3 at HB3 HR3 HW3 HG3⊢
 clear k14 z14
 clear HB2 HR2 HW2 HG2
 go_wp2_with (first | (refine AY HB3.out rfl _ rfl rfl ?_) | (refine AU HR3.out hsR rfl _ _ rfl rfl rfl rfl ?_;intro w8 hB8 hk8 hs8))
 exact Ba rfl rfl rfl hB8 HG3 HR3 HW3 hk8 Am
theorem aW (s t:SN.Sc) (v:Value) (w:World) (hs:SN.Ad s) (ht:SN.GA s 15=t) (h:IsS w s v):Calls Tryz.prog 100 #[v,.int .u8 15] w (BF w t):=by
 obtain⟨x,rfl,hg⟩:=h
 obtain⟨A,cp,rfl⟩:=Af hg
 have HG:=hide hg
 have hgr:=hs.g.2.1
 have hgc:=hs.g.2.2.2.1
 have hR1:=hs.g.1
 have hK1:=hs.g.2.2.1
 have hrow:=hs.row
 have Bz:=hs.col
 obtain rfl:s.u14 0=t:=ht
 clear hs hg
 go_enter Tryz.func100,Tryz.ntmps100
 go_upto_region 1 with (refine Bb HG _ rfl rfl rfl rfl rfl ?_;intro g gR w2 csR hsR HB2 HW2 HR2 HG2 hne hg1 Am)
 clear HG
 have k14:=HB2.out.c14
 have z14:=HB2.out.fz 14
 go_upto_region 16 with fail
 have HB3:=hide (HB2.out.VB 0)
 obtain⟨HR3,HW3,HG3⟩:=DJ 14 (.int .i64 0) HB2 HR2 HW2 HG2 hne hg1
 generalize (w2.setCell ⟨g,14,none⟩ (.int .i64 0))=w3 at HB3 HR3 HW3 HG3⊢
 clear k14 z14
 clear HB2 HR2 HW2 HG2
 go_wp2_with (first | (refine AY HB3.out rfl _ rfl rfl ?_) | (refine AU HR3.out hsR rfl _ _ rfl rfl rfl rfl ?_;intro w8 hB8 hk8 hs8))
 exact Ba rfl rfl rfl hB8 HG3 HR3 HW3 hk8 Am
theorem aX (s t:SN.Sc) (v:Value) (b:Int) (w:World) (hs:SN.Ad s) (hn:b≠8/\b≠9/\b≠10/\b≠11/\b≠12/\b≠13/\b≠14/\b≠15) (ht:SN.GA s b=t) (h:IsS w s v):Calls Tryz.prog 100 #[v,.int .u8 b] w (BF w t):=by
 obtain⟨x,rfl,hg⟩:=h
 obtain⟨A,cp,rfl⟩:=Af hg
 have HG:=hide hg
 have hgr:=hs.g.2.1
 have hgc:=hs.g.2.2.2.1
 have hR1:=hs.g.1
 have hK1:=hs.g.2.2.1
 have hrow:=hs.row
 have Bz:=hs.col
 obtain rfl:s=t:=by
  unfold SN.GA at ht
  rw [if_neg (by omega),if_neg (by omega),if_neg (by omega),if_neg (by omega),if_neg (by omega),if_neg (by omega)] at ht
  exact ht
 have e8:(b==8)=false:=by simp;omega
 have e9:(b==9)=false:=by simp;omega
 have e10:(b==10)=false:=by simp;omega
 have e11:(b==11)=false:=by simp;omega
 have e12:(b==12)=false:=by simp;omega
 have e13:(b==13)=false:=by simp;omega
 have e14:(b==14)=false:=by simp;omega
 have e15:(b==15)=false:=by simp;omega
 clear hs hg hn ht
 go_enter Tryz.func100,Tryz.ntmps100
 go_upto_region 1 with (refine Bb HG _ rfl rfl rfl rfl rfl ?_;intro g gR w2 csR hsR HB2 HW2 HR2 HG2 hne hg1 Am)
 clear HG
 go_wp2_with (first | (refine AY HB2.out rfl _ rfl rfl ?_) | (refine AU HR2.out hsR rfl _ _ rfl rfl rfl rfl ?_;intro w8 hB8 hk8 hs8))
 exact Ba rfl rfl rfl hB8 HG2 HR2 HW2 hk8 Am
theorem aY (s:SN.Sc) (v:Value) (b:Int) (w:World) (hs:SN.Ad s) (hT:Jt w) (h:IsS w s v):Calls Tryz.prog 100 #[v,.int .u8 b] w (BF w (SN.GA s b)):=by
 by_cases h8:b=8
 ·subst h8;exact je s _ v w hs rfl h
 by_cases h9:b=9
 ·subst h9;exact jf s _ v w hs hT rfl h
 by_cases h10:b=10
 ·subst h10;exact aR s _ v w hs rfl h
 by_cases h11:b=11
 ·subst h11;exact aS s _ v w hs rfl h
 by_cases h12:b=12
 ·subst h12;exact aT s _ v w hs rfl h
 by_cases h13:b=13
 ·subst h13;exact aU s _ v w hs rfl h
 by_cases h14:b=14
 ·subst h14;exact aV s _ v w hs rfl h
 by_cases h15:b=15
 ·subst h15;exact aW s _ v w hs rfl h
 exact aX s _ v b w hs ⟨h8,h9,h10,h11,h12,h13,h14,h15⟩ rfl h
theorem X5 (s t:SN.Sc) (v:Value) (w:World) (hs:SN.Ad s) (ht:s.u12 66=t) (h:IsS w s v):Calls Tryz.prog 136 #[v,.int .i64 0,.int .u8 66] w (BF w t):=by
 obtain⟨x,rfl,hg⟩:=h
 obtain⟨A,cp,rfl⟩:=Af hg
 have HG:=hide hg
 have hgr:=hs.g.2.1
 have hgc:=hs.g.2.2.2.1
 have hR1:=hs.g.1
 have hK1:=hs.g.2.2.1
 have hrow:=hs.row
 have Bz:=hs.col
 obtain rfl:s.u12 66=t:=ht
 clear hs hg
 go_enter Tryz.func136,Tryz.ntmps136
 go_upto_region 1 with (refine Bb HG _ rfl rfl rfl rfl rfl ?_;intro g gR w2 csR hsR HB2 HW2 HR2 HG2 hne hg1 Am)
 clear HG
 have k12:=HB2.out.c12
 have z12:=HB2.out.fz 12
 go_upto_region 3 with fail
 have HB3:=hide (HB2.out.VA 66)
 obtain⟨HR3,HW3,HG3⟩:=DJ 12 (.int .u8 66) HB2 HR2 HW2 HG2 hne hg1
 generalize (w2.setCell ⟨g,12,none⟩ (.int .u8 66))=w3 at HB3 HR3 HW3 HG3⊢
 clear k12 z12
 clear HB2 HR2 HW2 HG2
 go_wp2_with (first | (refine AY HB3.out rfl _ rfl rfl ?_) | (refine AU HR3.out hsR rfl _ _ rfl rfl rfl rfl ?_;intro w8 hB8 hk8 hs8))
 exact Ba rfl rfl rfl hB8 HG3 HR3 HW3 hk8 Am
theorem X6 (s t:SN.Sc) (v:Value) (w:World) (hs:SN.Ad s) (ht:s.u12 48=t) (h:IsS w s v):Calls Tryz.prog 136 #[v,.int .i64 0,.int .u8 48] w (BF w t):=by
 obtain⟨x,rfl,hg⟩:=h
 obtain⟨A,cp,rfl⟩:=Af hg
 have HG:=hide hg
 have hgr:=hs.g.2.1
 have hgc:=hs.g.2.2.2.1
 have hR1:=hs.g.1
 have hK1:=hs.g.2.2.1
 have hrow:=hs.row
 have Bz:=hs.col
 obtain rfl:s.u12 48=t:=ht
 clear hs hg
 go_enter Tryz.func136,Tryz.ntmps136
 go_upto_region 1 with (refine Bb HG _ rfl rfl rfl rfl rfl ?_;intro g gR w2 csR hsR HB2 HW2 HR2 HG2 hne hg1 Am)
 clear HG
 have k12:=HB2.out.c12
 have z12:=HB2.out.fz 12
 go_upto_region 3 with fail
 have HB3:=hide (HB2.out.VA 48)
 obtain⟨HR3,HW3,HG3⟩:=DJ 12 (.int .u8 48) HB2 HR2 HW2 HG2 hne hg1
 generalize (w2.setCell ⟨g,12,none⟩ (.int .u8 48))=w3 at HB3 HR3 HW3 HG3⊢
 clear k12 z12
 clear HB2 HR2 HW2 HG2
 go_wp2_with (first | (refine AY HB3.out rfl _ rfl rfl ?_) | (refine AU HR3.out hsR rfl _ _ rfl rfl rfl rfl ?_;intro w8 hB8 hk8 hs8))
 exact Ba rfl rfl rfl hB8 HG3 HR3 HW3 hk8 Am
theorem X7 (s t:SN.Sc) (v:Value) (w:World) (hs:SN.Ad s) (ht:s.u13 66=t) (h:IsS w s v):Calls Tryz.prog 136 #[v,.int .i64 1,.int .u8 66] w (BF w t):=by
 obtain⟨x,rfl,hg⟩:=h
 obtain⟨A,cp,rfl⟩:=Af hg
 have HG:=hide hg
 have hgr:=hs.g.2.1
 have hgc:=hs.g.2.2.2.1
 have hR1:=hs.g.1
 have hK1:=hs.g.2.2.1
 have hrow:=hs.row
 have Bz:=hs.col
 obtain rfl:s.u13 66=t:=ht
 clear hs hg
 go_enter Tryz.func136,Tryz.ntmps136
 go_upto_region 1 with (refine Bb HG _ rfl rfl rfl rfl rfl ?_;intro g gR w2 csR hsR HB2 HW2 HR2 HG2 hne hg1 Am)
 clear HG
 have k13:=HB2.out.c13
 have z13:=HB2.out.fz 13
 go_upto_region 3 with fail
 have HB3:=hide (HB2.out.ZF 66)
 obtain⟨HR3,HW3,HG3⟩:=DJ 13 (.int .u8 66) HB2 HR2 HW2 HG2 hne hg1
 generalize (w2.setCell ⟨g,13,none⟩ (.int .u8 66))=w3 at HB3 HR3 HW3 HG3⊢
 clear k13 z13
 clear HB2 HR2 HW2 HG2
 go_wp2_with (first | (refine AY HB3.out rfl _ rfl rfl ?_) | (refine AU HR3.out hsR rfl _ _ rfl rfl rfl rfl ?_;intro w8 hB8 hk8 hs8))
 exact Ba rfl rfl rfl hB8 HG3 HR3 HW3 hk8 Am
theorem X8 (s t:SN.Sc) (v:Value) (w:World) (hs:SN.Ad s) (ht:s.u13 48=t) (h:IsS w s v):Calls Tryz.prog 136 #[v,.int .i64 1,.int .u8 48] w (BF w t):=by
 obtain⟨x,rfl,hg⟩:=h
 obtain⟨A,cp,rfl⟩:=Af hg
 have HG:=hide hg
 have hgr:=hs.g.2.1
 have hgc:=hs.g.2.2.2.1
 have hR1:=hs.g.1
 have hK1:=hs.g.2.2.1
 have hrow:=hs.row
 have Bz:=hs.col
 obtain rfl:s.u13 48=t:=ht
 clear hs hg
 go_enter Tryz.func136,Tryz.ntmps136
 go_upto_region 1 with (refine Bb HG _ rfl rfl rfl rfl rfl ?_;intro g gR w2 csR hsR HB2 HW2 HR2 HG2 hne hg1 Am)
 clear HG
 have k13:=HB2.out.c13
 have z13:=HB2.out.fz 13
 go_upto_region 3 with fail
 have HB3:=hide (HB2.out.ZF 48)
 obtain⟨HR3,HW3,HG3⟩:=DJ 13 (.int .u8 48) HB2 HR2 HW2 HG2 hne hg1
 generalize (w2.setCell ⟨g,13,none⟩ (.int .u8 48))=w3 at HB3 HR3 HW3 HG3⊢
 clear k13 z13
 clear HB2 HR2 HW2 HG2
 go_wp2_with (first | (refine AY HB3.out rfl _ rfl rfl ?_) | (refine AU HR3.out hsR rfl _ _ rfl rfl rfl rfl ?_;intro w8 hB8 hk8 hs8))
 exact Ba rfl rfl rfl hB8 HG3 HR3 HW3 hk8 Am
theorem VU (s t:SN.Sc) (v:Value) (k f:Int) (w:World) (hs:SN.Ad s) (hn:f≠66/\f≠48) (ht:s=t) (h:IsS w s v):Calls Tryz.prog 136 #[v,.int .i64 k,.int .u8 f] w (BF w t):=by
 obtain⟨x,rfl,hg⟩:=h
 obtain⟨A,cp,rfl⟩:=Af hg
 have HG:=hide hg
 have hgr:=hs.g.2.1
 have hgc:=hs.g.2.2.2.1
 have hR1:=hs.g.1
 have hK1:=hs.g.2.2.1
 have hrow:=hs.row
 have Bz:=hs.col
 subst ht
 have e1:(f==66)=false:=by simp;omega
 have e2:(f==48)=false:=by simp;omega
 clear hs hg hn
 go_enter Tryz.func136,Tryz.ntmps136
 go_upto_region 1 with (refine Bb HG _ rfl rfl rfl rfl rfl ?_;intro g gR w2 csR hsR HB2 HW2 HR2 HG2 hne hg1 Am)
 clear HG
 go_wp2_with (first | (refine AY HB2.out rfl _ rfl rfl ?_) | (refine AU HR2.out hsR rfl _ _ rfl rfl rfl rfl ?_;intro w8 hB8 hk8 hs8))
 exact Ba rfl rfl rfl hB8 HG2 HR2 HW2 hk8 Am
theorem jg (s t:SN.Sc) (v:Value) (w:World) (hs:SN.Ad s) (ht:SN.Fj s 0 55=t) (h:IsS w s v):Calls Tryz.prog 135 #[v,.int .u8 55] w (BF w t):=by
 obtain⟨x,rfl,hg⟩:=h
 obtain⟨A,cp,rfl⟩:=Af hg
 have HG:=hide hg
 have hgr:=hs.g.2.1
 have hgc:=hs.g.2.2.2.1
 have hR1:=hs.g.1
 have hK1:=hs.g.2.2.1
 have hrow:=hs.row
 have Bz:=hs.col
 have AT:=hide (fun w' v' h=>(show Calls Tryz.prog 164 #[v'] w' (BF w' t) from ht▸Ro s v' w' hs h))
 clear ht hs hg
 go_enter Tryz.func135,Tryz.ntmps135
 go_upto_region 1 with (refine Bb HG _ rfl rfl rfl rfl rfl ?_;intro g gR w2 csR hsR HB2 HW2 HR2 HG2 hne hg1 Am)
 clear HG
 go_wp2_with (refine AY HB2.out rfl _ rfl rfl ?_)
 refine(AT.out _ _ ⟨_,rfl,HG2.out⟩).mono (Az HR2 HW2 fun A7 c7 w7 HR7 HW7 HG7=>?_)
 clear HB2 HR2 HW2 HG2
 go_wp2_with (refine AU HR7.out hsR rfl _ _ rfl rfl rfl rfl ?_;intro w8 hB8 hk8 hs8)
 exact Ba rfl rfl rfl hB8 HG7 HR7 HW7 hk8 Am
theorem jh (s t:SN.Sc) (v:Value) (w:World) (hs:SN.Ad s) (ht:SN.Fj s 0 56=t) (h:IsS w s v):Calls Tryz.prog 135 #[v,.int .u8 56] w (BF w t):=by
 obtain⟨x,rfl,hg⟩:=h
 obtain⟨A,cp,rfl⟩:=Af hg
 have HG:=hide hg
 have hgr:=hs.g.2.1
 have hgc:=hs.g.2.2.2.1
 have hR1:=hs.g.1
 have hK1:=hs.g.2.2.1
 have hrow:=hs.row
 have Bz:=hs.col
 have AT:=hide (fun w' v' h=>(show Calls Tryz.prog 165 #[v'] w' (BF w' t) from ht▸Rp s v' w' hs h))
 clear ht hs hg
 go_enter Tryz.func135,Tryz.ntmps135
 go_upto_region 1 with (refine Bb HG _ rfl rfl rfl rfl rfl ?_;intro g gR w2 csR hsR HB2 HW2 HR2 HG2 hne hg1 Am)
 clear HG
 go_wp2_with (refine AY HB2.out rfl _ rfl rfl ?_)
 refine(AT.out _ _ ⟨_,rfl,HG2.out⟩).mono (Az HR2 HW2 fun A7 c7 w7 HR7 HW7 HG7=>?_)
 clear HB2 HR2 HW2 HG2
 go_wp2_with (refine AU HR7.out hsR rfl _ _ rfl rfl rfl rfl ?_;intro w8 hB8 hk8 hs8)
 exact Ba rfl rfl rfl hB8 HG7 HR7 HW7 hk8 Am
theorem ji (s t:SN.Sc) (v:Value) (w:World) (hs:SN.Ad s) (ht:SN.Fj s 0 68=t) (h:IsS w s v):Calls Tryz.prog 135 #[v,.int .u8 68] w (BF w t):=by
 obtain⟨x,rfl,hg⟩:=h
 obtain⟨A,cp,rfl⟩:=Af hg
 have HG:=hide hg
 have hgr:=hs.g.2.1
 have hgc:=hs.g.2.2.2.1
 have hR1:=hs.g.1
 have hK1:=hs.g.2.2.1
 have hrow:=hs.row
 have Bz:=hs.col
 have AT:=hide (fun w' v' h=>(show Calls Tryz.prog 64 #[v'] w' (BF w' t) from ht▸JH s v' w' hs h))
 clear ht hs hg
 go_enter Tryz.func135,Tryz.ntmps135
 go_upto_region 1 with (refine Bb HG _ rfl rfl rfl rfl rfl ?_;intro g gR w2 csR hsR HB2 HW2 HR2 HG2 hne hg1 Am)
 clear HG
 go_wp2_with (refine AY HB2.out rfl _ rfl rfl ?_)
 refine(AT.out _ _ ⟨_,rfl,HG2.out⟩).mono (Az HR2 HW2 fun A7 c7 w7 HR7 HW7 HG7=>?_)
 clear HB2 HR2 HW2 HG2
 go_wp2_with (refine AU HR7.out hsR rfl _ _ rfl rfl rfl rfl ?_;intro w8 hB8 hk8 hs8)
 exact Ba rfl rfl rfl hB8 HG7 HR7 HW7 hk8 Am
theorem jk (s t:SN.Sc) (v:Value) (w:World) (hs:SN.Ad s) (ht:SN.Fj s 0 77=t) (h:IsS w s v):Calls Tryz.prog 135 #[v,.int .u8 77] w (BF w t):=by
 obtain⟨x,rfl,hg⟩:=h
 obtain⟨A,cp,rfl⟩:=Af hg
 have HG:=hide hg
 have hgr:=hs.g.2.1
 have hgc:=hs.g.2.2.2.1
 have hR1:=hs.g.1
 have hK1:=hs.g.2.2.1
 have hrow:=hs.row
 have Bz:=hs.col
 have AT:=hide (fun w' v' h=>(show Calls Tryz.prog 166 #[v'] w' (BF w' t) from ht▸aM s v' w' hs h))
 clear ht hs hg
 go_enter Tryz.func135,Tryz.ntmps135
 go_upto_region 1 with (refine Bb HG _ rfl rfl rfl rfl rfl ?_;intro g gR w2 csR hsR HB2 HW2 HR2 HG2 hne hg1 Am)
 clear HG
 go_wp2_with (refine AY HB2.out rfl _ rfl rfl ?_)
 refine(AT.out _ _ ⟨_,rfl,HG2.out⟩).mono (Az HR2 HW2 fun A7 c7 w7 HR7 HW7 HG7=>?_)
 clear HB2 HR2 HW2 HG2
 go_wp2_with (refine AU HR7.out hsR rfl _ _ rfl rfl rfl rfl ?_;intro w8 hB8 hk8 hs8)
 exact Ba rfl rfl rfl hB8 HG7 HR7 HW7 hk8 Am
theorem jl (s t:SN.Sc) (v:Value) (w:World) (hs:SN.Ad s) (ht:SN.Fj s 0 69=t) (h:IsS w s v):Calls Tryz.prog 135 #[v,.int .u8 69] w (BF w t):=by
 obtain⟨x,rfl,hg⟩:=h
 obtain⟨A,cp,rfl⟩:=Af hg
 have HG:=hide hg
 have hgr:=hs.g.2.1
 have hgc:=hs.g.2.2.2.1
 have hR1:=hs.g.1
 have hK1:=hs.g.2.2.1
 have hrow:=hs.row
 have Bz:=hs.col
 have A1:=hide (fun w' v' h=>Fw s _ v' w' hs rfl h)
 have AT:=hide (fun w' v' h=>(show Calls Tryz.prog 64 #[v'] w' (BF w' t) from(show SN.Ci (SN.atS s s.row 0)=t from(SN.UO hs).trans ht)▸JH (SN.atS s s.row 0) v' w' (SN.Dj hs _ _) h))
 generalize SN.atS s s.row 0=T at A1 AT
 clear ht hs hg
 go_enter Tryz.func135,Tryz.ntmps135
 go_upto_region 1 with (refine Bb HG _ rfl rfl rfl rfl rfl ?_;intro g gR w2 csR hsR HB2 HW2 HR2 HG2 hne hg1 Am)
 clear HG
 go_wp2_with (refine AY HB2.out rfl _ rfl rfl ?_)
 refine(A1.out _ _ ⟨_,rfl,HG2.out⟩).mono ?_
 rintro e w3 ⟨v3,rfl,hi3,hb3⟩
 have HR3:=hide (HR2.out.below hb3 HR2.out.lt)
 have HW3:=hide (HW2.out.trans (hb3.mono HW2.out.size))
 have HI3:=hide hi3
 clear hi3 hb3 HB2 HR2 HW2 HG2 A1
 go_wp2_with fail
 refine(AT.out _ _ HI3.out).mono (Az HR3 HW3 fun A7 c7 w7 HR7 HW7 HG7=>?_)
 clear HR3 HW3 HI3
 go_wp2_with (refine AU HR7.out hsR rfl _ _ rfl rfl rfl rfl ?_;intro w8 hB8 hk8 hs8)
 exact Ba rfl rfl rfl hB8 HG7 HR7 HW7 hk8 Am
theorem jm (s t:SN.Sc) (v:Value) (w:World) (hs:SN.Ad s) (ht:SN.Fj s 0 72=t) (h:IsS w s v):Calls Tryz.prog 135 #[v,.int .u8 72] w (BF w t):=by
 obtain⟨x,rfl,hg⟩:=h
 obtain⟨A,cp,rfl⟩:=Af hg
 have HG:=hide hg
 have hgr:=hs.g.2.1
 have hgc:=hs.g.2.2.2.1
 have hR1:=hs.g.1
 have hK1:=hs.g.2.2.1
 have hrow:=hs.row
 have Bz:=hs.col
 obtain⟨z,hz⟩: ∃z,TB.Jc s.tabs s.col=z:=⟨_,rfl⟩
 have hz':TB.puts s.tabs [(s.col:Int)] =z:=by
  show(if TB.col (s.col:Int) then TB.Jc s.tabs (s.col:Int).toNat else s.tabs)=z
  rw [if_pos (by unfold TB.col;omega)]
  exact hz
 obtain rfl:s.u11 z=t:=by rw [<- hz];exact ht
 have PT:=hide (fun w' (B:Nat) (A:Option Addr) (hA:Seen w' B A 1 [.int .i64 (s.col:Nat)])=>mG s.tabs A 1 1 B [(s.col:Int)] z hz' w' hs.tabs hA (by omega) (fun x hx=>by simp at hx;omega))
 clear hs hg hz hz'
 go_enter Tryz.func135,Tryz.ntmps135
 go_upto_region 1 with (refine Bb HG _ rfl rfl rfl rfl rfl ?_;intro g gR w2 csR hsR HB2 HW2 HR2 HG2 hne hg1 Am)
 clear HG
 have k4:=HB2.out.c4
 have k11:=HB2.out.c11
 have z11:=HB2.out.fz 11
 go_wp2_with fail
 refine(PT.out _ (w2.heap.size+1) _ (Seen.fresh (w:=w2) (t:=3) (cs:= #[.int .i64 (s.col:Nat)]) rfl rfl rfl rfl)).mono ?_
 rintro e w3 ⟨rfl,hw3⟩
 have hbx:Below w2.heap.size w2 w3:=hw3▸(Below.refl w2.heap.size w2).alloc (Nat.le_refl _) (.cells #[.int .i64 (s.col:Nat)] 3)
 obtain⟨HB3,HR3,HW3,HG3⟩:=KV hbx HB2 HR2 HW2 HG2
 clear hw3 k4 k11 z11 hbx HB2 HR2 HW2 HG2 PT
 have k11:=HB3.out.c11
 have z11:=HB3.out.fz 11
 go_upto_region 20 with fail
 have HB4:=hide (HB3.out.ZE z)
 obtain⟨HR4,HW4,HG4⟩:=DJ 11 (.int .u64 (z:Nat)) HB3 HR3 HW3 HG3 hne hg1
 generalize (w3.setCell ⟨g,11,none⟩ (.int .u64 (z:Nat)))=w4 at HB4 HR4 HW4 HG4⊢
 clear k11 z11 HB3 HR3 HW3 HG3
 go_wp2_with (first | (refine AY HB4.out rfl _ rfl rfl ?_) | (refine AU HR4.out hsR rfl _ _ rfl rfl rfl rfl ?_;intro w8 hB8 hk8 hs8))
 exact Ba rfl rfl rfl hB8 HG4 HR4 HW4 hk8 Am
theorem jo (s t:SN.Sc) (v:Value) (w:World) (hs:SN.Ad s) (ht:SN.Fj s 0 99=t) (h:IsS w s v):Calls Tryz.prog 135 #[v,.int .u8 99] w (BF w t):=by
 obtain⟨x,rfl,hg⟩:=h
 obtain⟨A,cp,rfl⟩:=Af hg
 have HG:=hide hg
 have hgr:=hs.g.2.1
 have hgc:=hs.g.2.2.2.1
 have hR1:=hs.g.1
 have hK1:=hs.g.2.2.1
 have hrow:=hs.row
 have Bz:=hs.col
 have NW:=hide (fun w'=>(show Calls Tryz.prog 21 #[.int .i64 (s.g.rows:Nat),.int .i64 (s.g.AB:Nat)] w' (BF w' t) from(show SN.full s.g.rows s.g.AB=t from ht)▸MO s.g.rows s.g.AB s.g.rows s.g.AB (by unfold SN.cut;omega) (by unfold SN.cut;omega) (by omega) (by omega) w'))
 clear ht hs hg
 go_enter Tryz.func135,Tryz.ntmps135
 go_upto_region 1 with (refine Bb HG _ rfl rfl rfl rfl rfl ?_;intro g gR w2 csR hsR HB2 HW2 HR2 HG2 hne hg1 Am)
 clear HG
 have k0:=HB2.out.c0
 have k1:=HB2.out.c1
 go_wp2_with fail
 refine(NW.out _).mono (Az HR2 HW2 fun A7 c7 w7 HR7 HW7 HG7=>?_)
 clear k0 k1 HB2 HR2 HW2 HG2
 go_wp2_with (refine AU HR7.out hsR rfl _ _ rfl rfl rfl rfl ?_;intro w8 hB8 hk8 hs8)
 exact Ba rfl rfl rfl hB8 HG7 HR7 HW7 hk8 Am
theorem jr (s t:SN.Sc) (v:Value) (w:World) (hs:SN.Ad s) (ht:SN.Fj s 0 61=t) (h:IsS w s v):Calls Tryz.prog 135 #[v,.int .u8 61] w (BF w t):=by
 obtain⟨x,rfl,hg⟩:=h
 obtain⟨A,cp,rfl⟩:=Af hg
 have HG:=hide hg
 have hgr:=hs.g.2.1
 have hgc:=hs.g.2.2.2.1
 have hR1:=hs.g.1
 have hK1:=hs.g.2.2.1
 have hrow:=hs.row
 have Bz:=hs.col
 obtain rfl:s.u19 true=t:=ht
 clear hs hg
 go_enter Tryz.func135,Tryz.ntmps135
 go_upto_region 1 with (refine Bb HG _ rfl rfl rfl rfl rfl ?_;intro g gR w2 csR hsR HB2 HW2 HR2 HG2 hne hg1 Am)
 clear HG
 have k19:=HB2.out.c19
 have z19:=HB2.out.fz 19
 go_upto_region 20 with fail
 have HB3:=hide (HB2.out.ZH true)
 obtain⟨HR3,HW3,HG3⟩:=DJ 19 (.bool true) HB2 HR2 HW2 HG2 hne hg1
 generalize (w2.setCell ⟨g,19,none⟩ (.bool true))=w3 at HB3 HR3 HW3 HG3⊢
 clear k19 z19
 clear HB2 HR2 HW2 HG2
 go_wp2_with (first | (refine AY HB3.out rfl _ rfl rfl ?_) | (refine AU HR3.out hsR rfl _ _ rfl rfl rfl rfl ?_;intro w8 hB8 hk8 hs8))
 exact Ba rfl rfl rfl hB8 HG3 HR3 HW3 hk8 Am
theorem jv (s t:SN.Sc) (v:Value) (w:World) (hs:SN.Ad s) (ht:SN.Fj s 0 62=t) (h:IsS w s v):Calls Tryz.prog 135 #[v,.int .u8 62] w (BF w t):=by
 obtain⟨x,rfl,hg⟩:=h
 obtain⟨A,cp,rfl⟩:=Af hg
 have HG:=hide hg
 have hgr:=hs.g.2.1
 have hgc:=hs.g.2.2.2.1
 have hR1:=hs.g.1
 have hK1:=hs.g.2.2.1
 have hrow:=hs.row
 have Bz:=hs.col
 obtain rfl:s.u19 false=t:=ht
 clear hs hg
 go_enter Tryz.func135,Tryz.ntmps135
 go_upto_region 1 with (refine Bb HG _ rfl rfl rfl rfl rfl ?_;intro g gR w2 csR hsR HB2 HW2 HR2 HG2 hne hg1 Am)
 clear HG
 have k19:=HB2.out.c19
 have z19:=HB2.out.fz 19
 go_upto_region 20 with fail
 have HB3:=hide (HB2.out.ZH false)
 obtain⟨HR3,HW3,HG3⟩:=DJ 19 (.bool false) HB2 HR2 HW2 HG2 hne hg1
 generalize (w2.setCell ⟨g,19,none⟩ (.bool false))=w3 at HB3 HR3 HW3 HG3⊢
 clear k19 z19
 clear HB2 HR2 HW2 HG2
 go_wp2_with (first | (refine AY HB3.out rfl _ rfl rfl ?_) | (refine AU HR3.out hsR rfl _ _ rfl rfl rfl rfl ?_;intro w8 hB8 hk8 hs8))
 exact Ba rfl rfl rfl hB8 HG3 HR3 HW3 hk8 Am
theorem jw (s t:SN.Sc) (v:Value) (f:Int) (w:World) (hs:SN.Ad s) (hn:f≠55/\f≠56/\f≠68/\f≠69/\f≠77/\f≠72/\f≠99/\f≠61/\f≠62) (ht:SN.Fj s 0 f=t) (h:IsS w s v):Calls Tryz.prog 135 #[v,.int .u8 f] w (BF w t):=by
 obtain⟨x,rfl,hg⟩:=h
 obtain⟨A,cp,rfl⟩:=Af hg
 have HG:=hide hg
 have hgr:=hs.g.2.1
 have hgc:=hs.g.2.2.2.1
 have hR1:=hs.g.1
 have hK1:=hs.g.2.2.1
 have hrow:=hs.row
 have Bz:=hs.col
 obtain rfl:s=t:=by
  unfold SN.Fj at ht
  rw [if_neg (by omega),if_neg (by omega),if_neg (by omega),if_neg (by omega),if_neg (by omega),if_neg (by omega),if_neg (by omega),if_neg (by omega),if_neg (by omega),if_neg (by omega),if_neg (by omega)] at ht
  exact ht
 have e55:(f==55)=false:=by simp;omega
 have e56:(f==56)=false:=by simp;omega
 have e68:(f==68)=false:=by simp;omega
 have e69:(f==69)=false:=by simp;omega
 have e77:(f==77)=false:=by simp;omega
 have e72:(f==72)=false:=by simp;omega
 have e99:(f==99)=false:=by simp;omega
 have e61:(f==61)=false:=by simp;omega
 have e62:(f==62)=false:=by simp;omega
 clear hs hg hn ht
 go_enter Tryz.func135,Tryz.ntmps135
 go_upto_region 1 with (refine Bb HG _ rfl rfl rfl rfl rfl ?_;intro g gR w2 csR hsR HB2 HW2 HR2 HG2 hne hg1 Am)
 clear HG
 go_wp2_with (first | (refine AY HB2.out rfl _ rfl rfl ?_) | (refine AU HR2.out hsR rfl _ _ rfl rfl rfl rfl ?_;intro w8 hB8 hk8 hs8))
 exact Ba rfl rfl rfl hB8 HG2 HR2 HW2 hk8 Am
theorem X9 (s:SN.Sc) (v:Value) (f:Int) (w:World) (hs:SN.Ad s) (h:IsS w s v):Calls Tryz.prog 135 #[v,.int .u8 f] w (BF w (SN.Fj s 0 f)):=by
 by_cases h55:f=55
 ·subst h55;exact jg s _ v w hs rfl h
 by_cases h56:f=56
 ·subst h56;exact jh s _ v w hs rfl h
 by_cases h68:f=68
 ·subst h68;exact ji s _ v w hs rfl h
 by_cases h69:f=69
 ·subst h69;exact jl s _ v w hs rfl h
 by_cases h77:f=77
 ·subst h77;exact jk s _ v w hs rfl h
 by_cases h72:f=72
 ·subst h72;exact jm s _ v w hs rfl h
 by_cases h99:f=99
 ·subst h99;exact jo s _ v w hs rfl h
 by_cases h61:f=61
 ·subst h61;exact jr s _ v w hs rfl h
 by_cases h62:f=62
 ·subst h62;exact jv s _ v w hs rfl h
 exact jw s _ v f w hs ⟨h55,h56,h68,h69,h77,h72,h99,h61,h62⟩ rfl h
theorem VW (s:SN.Sc) (v:Value) (it fn:Int) (k:Int) (hk:(it=40/\k=0)\/(it=41/\k=1)) (w:World) (hs:SN.Ad s) (h:IsS w s v):Calls Tryz.prog 136 #[v,.int .i64 k,.int .u8 fn] w (BF w (SN.Fj s it fn)):=by
 unfold SN.Fj
 rcases hk with ⟨rfl,rfl⟩ | ⟨rfl,rfl⟩
 ·rw [if_pos (by omega)]
  by_cases h1:fn=48
  ·subst h1
   rw [if_pos (.inl rfl),if_pos rfl]
   exact X6 s _ v w hs rfl h
  by_cases h2:fn=66
  ·subst h2
   rw [if_pos (.inr rfl),if_pos rfl]
   exact X5 s _ v w hs rfl h
  rw [if_neg (by omega)]
  exact VU s _ v _ fn w hs ⟨h2,h1⟩ rfl h
 ·rw [if_pos (by omega)]
  by_cases h1:fn=48
  ·subst h1
   rw [if_pos (.inl rfl),if_neg (by omega)]
   exact X8 s _ v w hs rfl h
  by_cases h2:fn=66
  ·subst h2
   rw [if_pos (.inr rfl),if_neg (by omega)]
   exact X7 s _ v w hs rfl h
  rw [if_neg (by omega)]
  exact VU s _ v _ fn w hs ⟨h2,h1⟩ rfl h
theorem jy (s t:SN.Sc) (v:Value) (kd rn pv fn:Int) (Ae:Option Addr) (n c:Nat) (tx:ByteArray) (w:World) (hs:SN.Ad s) (ht:SN.Fj s 0 fn=t) (h:IsS w s v):Calls Tryz.prog 101 #[v,.agg #[.int .i64 kd,.int .i32 rn,.int .u8 pv,.int .u8 0,.int .u8 fn,.slice Ae n c,.string tx]] w (BF w t):=by
 obtain⟨x,rfl,hg⟩:=h
 obtain⟨A,cp,rfl⟩:=Af hg
 have HG:=hide hg
 have hgr:=hs.g.2.1
 have hgc:=hs.g.2.2.2.1
 have hR1:=hs.g.1
 have hK1:=hs.g.2.2.1
 have hrow:=hs.row
 have Bz:=hs.col
 have AT:=hide (fun w' v' h=>(show Calls Tryz.prog 135 #[v',.int .u8 fn] w' (BF w' t) from ht▸X9 s v' fn w' hs h))
 clear ht hs hg
 go_enter Tryz.func101,Tryz.ntmps101
 go_upto_region 1 with (refine Dp HG _ rfl rfl rfl _ rfl rfl (fun _=>rfl) rfl rfl ?_;intro g gE gR w2 csR hsR HB2 HE2 HW2 HR2 HG2 hne Fb Fe hg1 Am)
 clear HG
 obtain⟨e0,e1,e2,e3,e4,e5,e6⟩:=HE2.out.Bo
 go_wp2_with (refine AY HB2.out rfl _ rfl rfl ?_)
 refine(AT.out _ _ ⟨_,rfl,HG2.out⟩).mono (Az HR2 HW2 fun A7 c7 w7 HR7 HW7 HG7=>?_)
 clear e0 e1 e2 e3 e4 e5 e6
 clear HB2 HR2 HW2 HG2 HE2
 go_wp2_with (refine AU HR7.out hsR rfl _ _ rfl rfl rfl rfl ?_;intro w8 hB8 hk8 hs8)
 exact Ba rfl rfl rfl hB8 HG7 HR7 HW7 hk8 Am
theorem aZ (s t:SN.Sc) (v:Value) (kd rn pv fn:Int) (Ae:Option Addr) (n c:Nat) (tx:ByteArray) (w:World) (hs:SN.Ad s) (ht:SN.Fj s 40 fn=t) (h:IsS w s v):Calls Tryz.prog 101 #[v,.agg #[.int .i64 kd,.int .i32 rn,.int .u8 pv,.int .u8 40,.int .u8 fn,.slice Ae n c,.string tx]] w (BF w t):=by
 obtain⟨x,rfl,hg⟩:=h
 obtain⟨A,cp,rfl⟩:=Af hg
 have HG:=hide hg
 have hgr:=hs.g.2.1
 have hgc:=hs.g.2.2.2.1
 have hR1:=hs.g.1
 have hK1:=hs.g.2.2.1
 have hrow:=hs.row
 have Bz:=hs.col
 have AT:=hide (fun w' v' h=>(show Calls Tryz.prog 136 #[v',.int .i64 0,.int .u8 fn] w' (BF w' t) from ht▸VW s v' 40 fn 0 (.inl ⟨rfl,rfl⟩) w' hs h))
 clear ht hs hg
 go_enter Tryz.func101,Tryz.ntmps101
 go_upto_region 1 with (refine Dp HG _ rfl rfl rfl _ rfl rfl (fun _=>rfl) rfl rfl ?_;intro g gE gR w2 csR hsR HB2 HE2 HW2 HR2 HG2 hne Fb Fe hg1 Am)
 clear HG
 obtain⟨e0,e1,e2,e3,e4,e5,e6⟩:=HE2.out.Bo
 go_wp2_with (refine AY HB2.out rfl _ rfl rfl ?_)
 refine(AT.out _ _ ⟨_,rfl,HG2.out⟩).mono (Az HR2 HW2 fun A7 c7 w7 HR7 HW7 HG7=>?_)
 clear e0 e1 e2 e3 e4 e5 e6
 clear HB2 HR2 HW2 HG2 HE2
 go_wp2_with (refine AU HR7.out hsR rfl _ _ rfl rfl rfl rfl ?_;intro w8 hB8 hk8 hs8)
 exact Ba rfl rfl rfl hB8 HG7 HR7 HW7 hk8 Am
theorem ah (s t:SN.Sc) (v:Value) (kd rn pv fn:Int) (Ae:Option Addr) (n c:Nat) (tx:ByteArray) (w:World) (hs:SN.Ad s) (ht:SN.Fj s 41 fn=t) (h:IsS w s v):Calls Tryz.prog 101 #[v,.agg #[.int .i64 kd,.int .i32 rn,.int .u8 pv,.int .u8 41,.int .u8 fn,.slice Ae n c,.string tx]] w (BF w t):=by
 obtain⟨x,rfl,hg⟩:=h
 obtain⟨A,cp,rfl⟩:=Af hg
 have HG:=hide hg
 have hgr:=hs.g.2.1
 have hgc:=hs.g.2.2.2.1
 have hR1:=hs.g.1
 have hK1:=hs.g.2.2.1
 have hrow:=hs.row
 have Bz:=hs.col
 have AT:=hide (fun w' v' h=>(show Calls Tryz.prog 136 #[v',.int .i64 1,.int .u8 fn] w' (BF w' t) from ht▸VW s v' 41 fn 1 (.inr ⟨rfl,rfl⟩) w' hs h))
 clear ht hs hg
 go_enter Tryz.func101,Tryz.ntmps101
 go_upto_region 1 with (refine Dp HG _ rfl rfl rfl _ rfl rfl (fun _=>rfl) rfl rfl ?_;intro g gE gR w2 csR hsR HB2 HE2 HW2 HR2 HG2 hne Fb Fe hg1 Am)
 clear HG
 obtain⟨e0,e1,e2,e3,e4,e5,e6⟩:=HE2.out.Bo
 go_wp2_with (refine AY HB2.out rfl _ rfl rfl ?_)
 refine(AT.out _ _ ⟨_,rfl,HG2.out⟩).mono (Az HR2 HW2 fun A7 c7 w7 HR7 HW7 HG7=>?_)
 clear e0 e1 e2 e3 e4 e5 e6
 clear HB2 HR2 HW2 HG2 HE2
 go_wp2_with (refine AU HR7.out hsR rfl _ _ rfl rfl rfl rfl ?_;intro w8 hB8 hk8 hs8)
 exact Ba rfl rfl rfl hB8 HG7 HR7 HW7 hk8 Am
theorem aj (s t:SN.Sc) (v:Value) (kd rn pv it fn:Int) (Ae:Option Addr) (n c:Nat) (tx:ByteArray) (w:World) (hs:SN.Ad s) (hn:it≠0/\it≠40/\it≠41) (ht:SN.Fj s it fn=t) (h:IsS w s v):Calls Tryz.prog 101 #[v,.agg #[.int .i64 kd,.int .i32 rn,.int .u8 pv,.int .u8 it,.int .u8 fn,.slice Ae n c,.string tx]] w (BF w t):=by
 obtain⟨x,rfl,hg⟩:=h
 obtain⟨A,cp,rfl⟩:=Af hg
 have HG:=hide hg
 have hgr:=hs.g.2.1
 have hgc:=hs.g.2.2.2.1
 have hR1:=hs.g.1
 have hK1:=hs.g.2.2.1
 have hrow:=hs.row
 have Bz:=hs.col
 obtain rfl:s=t:=by
  unfold SN.Fj at ht
  rw [if_neg (by omega),if_pos (by omega)] at ht
  exact ht
 have q0:(it==0)=false:=by simp;omega
 have q40:(it==40)=false:=by simp;omega
 have q41:(it==41)=false:=by simp;omega
 clear hs hg hn ht
 go_enter Tryz.func101,Tryz.ntmps101
 go_upto_region 1 with (refine Dp HG _ rfl rfl rfl _ rfl rfl (fun _=>rfl) rfl rfl ?_;intro g gE gR w2 csR hsR HB2 HE2 HW2 HR2 HG2 hne Fb Fe hg1 Am)
 clear HG
 obtain⟨e0,e1,e2,e3,e4,e5,e6⟩:=HE2.out.Bo
 go_wp2_with (first | (refine AY HB2.out rfl _ rfl rfl ?_) | (refine AU HR2.out hsR rfl _ _ rfl rfl rfl rfl ?_;intro w8 hB8 hk8 hs8))
 exact Ba rfl rfl rfl hB8 HG2 HR2 HW2 hk8 Am
theorem kC (s:SN.Sc) (v:Value) (kd rn pv it fn:Int) (Ae:Option Addr) (n c:Nat) (tx:ByteArray) (w:World) (hs:SN.Ad s) (h:IsS w s v):Calls Tryz.prog 101 #[v,.agg #[.int .i64 kd,.int .i32 rn,.int .u8 pv,.int .u8 it,.int .u8 fn,.slice Ae n c,.string tx]] w (BF w (SN.Fj s it fn)):=by
 by_cases h0:it=0
 ·subst h0;exact jy s _ v kd rn pv fn Ae n c tx w hs rfl h
 by_cases h1:it=40
 ·subst h1;exact aZ s _ v kd rn pv fn Ae n c tx w hs rfl h
 by_cases h2:it=41
 ·subst h2;exact ah s _ v kd rn pv fn Ae n c tx w hs rfl h
 exact aj s _ v kd rn pv it fn Ae n c tx w hs ⟨h0,h1,h2⟩ rfl h
end Go.Proofs.YtoaabebgmdbjeaaGreatDoor
namespace Go.Proofs.YtoaabebgmdbjeaaGreatDoor
open Go Go.RowKit
section
variable {P:Program} {ops:Array Oper} {Q:Exit->Act->World->Prop}
def Rx (ops:Array Oper):Nat->Nat->Nat->Bool
 | 0,i,j=>Dr ops i j
 | k+1,i,j=>Dr ops i j||(List.range ops.size).any fun m=>Dr ops i m&&Rx ops k m j
def IU (ops:Array Oper) (n0:Nat):Bool:=decide (n0<ops.size)&&(List.range ops.size).all fun i=>decide (i<n0)||(List.range i).all fun j=>Dr ops i j||(decide (j<n0)&&Rx ops 5 i j)
theorem Ry {n0:Nat} (h:IU ops n0=true) {i j:Nat} (hi:i<ops.size) (h0:n0<=i) (hj:j<i):Dr ops i j=true\/(j<n0/\Rx ops 5 i j=true):=by
 unfold IU at h
 simp only [Bool.and_eq_true,decide_eq_true_eq] at h
 have:=List.all_eq_true.1 h.2 i (by simpa using hi)
 simp only [Bool.or_eq_true,decide_eq_true_eq] at this
 rcases this with this | this
 ·omega
 ·have h3:=List.all_eq_true.1 this j (by simpa using hj)
  simp only [Bool.or_eq_true,Bool.and_eq_true,decide_eq_true_eq] at h3
  exact h3
theorem YA {n0:Nat} (h:IU ops n0=true) {i j:Nat} (hi:i<ops.size) (h1:n0<=j) (h0:n0<=i) (hj:j<i):Dr ops i j=true:=by
 rcases Ry h hi h0 hj with h | ⟨h,_⟩
 ·exact h
 ·omega
theorem LD {L:Nat->Bool} {i j:Nat} {o:Oper} (ho:ops[i]? =some o) (hall: ∀e∈o.after,Region.binds .any e=true->L e.on=true) (hd:Dr ops i j=true):L j=true:=by
 unfold Dr at hd
 rw [ho] at hd
 simp only [Option.map_some,Option.getD_some,Array.any_eq_true'] at hd
 obtain⟨e,he,hb⟩:=hd
 simp only [Bool.and_eq_true,beq_iff_eq] at hb
 rw [<- hb.2]
 exact hall e he hb.1
theorem Nt {L:Nat->Bool} (hc:Closed ops L): ∀(k:Nat) {i j:Nat} {o:Oper},ops[i]? =some o->(∀e∈o.after,Region.binds .any e=true->L e.on=true)->Rx ops k i j=true->L j=true
 | 0,_,_,_,ho,hall,hd=>LD ho hall hd
 | k+1,i,j,o,ho,hall,hd=>by
  unfold Rx at hd
  rw [Bool.or_eq_true] at hd
  rcases hd with hd | hd
  ·exact LD ho hall hd
  ·obtain⟨m,hm,hd⟩:=List.any_eq_true.1 hd
   rw [Bool.and_eq_true] at hd
   have hms:m<ops.size:=by simpa using hm
   exact Nt hc k (Array.getElem?_eq_getElem hms) (hc m (LD ho hall hd.1) _ (Array.getElem?_eq_getElem hms)) hd.2
theorem UY {listed:Array Bool} {n0 i j:Nat} (ht:IU ops n0=true) (hc:Closed ops (fun k=>listed.getD k false)) (AJ: ∃o,ops[i]? =some o/\ ∀e∈o.after,Region.binds .any e=true->listed.getD e.on false=true) (hi:i<ops.size) (h0:n0<=i) (hj:j<i):listed.getD j false=true:=by
 rcases Ry ht hi h0 hj with h | ⟨_,h⟩
 ·exact KH AJ h
 ·obtain⟨o,ho,hall⟩:=AJ
  exact Nt (L:=fun k=>listed.getD k false) hc 5 ho hall h
theorem Ls {id n n0:Nat} {a0:Act} {w0:World} (J:(Nat->Bool)->(Nat->Value)->World->Prop)
  (hm:P.follows .mixedOrders=true) (hd:Jj ops=true) (hs:FE ops n=true) (hn:a0.tmps.size=n) (ht:IU ops n0=true)
  (hJ: ∀L u u' w,(∀j,j<ops.size->u j=u' j)->J L u w->J L u' w)
  (hstep: ∀i,i<n0-> ∀L a w,L i=false->DU ops a0 a->a.tmps.size=n->J L (fun j=>valOf ops j a) w->(∀o,ops[i]? =some o-> ∀e∈o.after,Region.binds .any e=true->L e.on=true)->Closed ops L->
   Step P ops Q J L a w i)
  (hmid: ∀L a w,DU ops a0 a->a.tmps.size=n->J L (fun j=>valOf ops j a) w->(∀j,j<n0->L j=true)->wpList P ops Q (ops.toList.drop n0) a w)
  (h0:J (fun _=>false) (fun j=>valOf ops j a0) {w0 with drawn:=w0.drawn+1}):(Code.region id ops true).wp P Q a0 w0:=by
 have hn0:n0<ops.size:=by
  unfold IU at ht
  simp only [Bool.and_eq_true,decide_eq_true_eq] at ht
  exact ht.1
 have hset: ∀(listed:Array Bool) i,listed.size=ops.size->i<ops.size->(fun k=>(listed.setIfInBounds i true).getD k false)=mark (fun k=>listed.getD k false) i:=by
  intro listed i hsz hil
  funext k
  unfold mark
  by_cases hk:k=i
  ·subst hk
   have:k<listed.size:=by omega
   simp [Array.getD_eq_getD_getElem?,this]
  ·simp [Array.getD_eq_getD_getElem?,hk,Array.getElem?_setIfInBounds_ne (Ne.symm hk)]
 have hnext: ∀k a w,k<ops.size->wpList P ops Q (ops.toList.drop k) a w->wpOp P ops Q k (wpList P ops Q (ops.toList.drop (k+1))) a w:=by
  intro k a w hk h
  have ho:ops[k]? =some ops[k] :=Array.getElem?_eq_getElem hk
  have hl:ops.toList.drop k=ops[k] ::ops.toList.drop (k+1):=by
   rw [List.drop_eq_getElem_cons (by simpa using hk)]
   simp
  rw [hl] at h
  unfold wpOp
  simp only [ho]
  exact h
 refine wp_region_any hm (Kr (J:=fun listed a w=>((∀j,n0<=j->listed.getD j false=false)/\DU ops a0 a/\Closed ops (fun k=>listed.getD k false)/\J (fun k=>listed.getD k false) (fun j=>valOf ops j a) w)\/(∃k,n0<k/\k<=ops.size/\(∀j,j<ops.size->listed.getD j false=decide (j<k))/\wpList P ops Q (ops.toList.drop k) a w)) ?_ ?_ _ _ _ _ (by simp) ?_ ?_)
 ·intro listed a w hsz hr h
  have hall:=ready_nil hd hsz hr
  rcases h with ⟨h1,_⟩ | ⟨k,h1,h2,h3,h4⟩
  ·have:=h1 n0 (Nat.le_refl _)
   rw [hall n0 hn0] at this
   cases this
  ·have hk:k=ops.size:=by
    rcases Nat.lt_or_ge k ops.size with h | h
    ·have:=h3 k h
     rw [hall k h,decide_eq_false (Nat.lt_irrefl k)] at this
     cases this
    ·omega
   subst hk
   rw [List.drop_of_length_le (by simp)] at h4
   exact h4
 ·intro listed a w i hsz hi h
  obtain⟨hli,o,ho,AJ⟩:=Gz hi
  have hil:i<ops.size:=(Array.getElem?_eq_some_iff.1 ho).1
  have hL:listed.getD i false=false:=by rw [Array.getD_eq_getD_getElem?,hli];rfl
  rcases h with ⟨hT,h1,hc,h2⟩ | ⟨k,k1,k2,k3,k4⟩
  ·rcases Nat.lt_or_ge i n0 with hin | hin
   ·refine wpOp_mono (fun a' w' h'=>.inl ?_) (hstep i hin (fun k=>listed.getD k false) a w hL h1 (h1.1.trans hn) h2 (fun o' ho'=>by rw [ho] at ho';cases ho';exact AJ) hc)
    obtain⟨o',v,ho',hv,rfl,hj⟩:=h'
    rw [ho] at ho'
    cases ho'
    have hmk:=hset listed i hsz hil
    refine⟨fun j hj=>?_,h1.put ho v,by rw [hmk];exact hc.mark (fun o' ho'=>by rw [ho] at ho';cases ho';exact AJ),?_⟩
    ·have e1:(listed.setIfInBounds i true).getD j false=mark (fun k=>listed.getD k false) i j:=congrFun hmk j
     rw [e1]
     unfold mark
     rw [if_neg (by omega)]
     exact hT j hj
    rw [hmk]
    refine hJ _ _ _ _ (fun j hjl=>?_) hj
    unfold upd
    by_cases hji:j=i
    ·subst hji
     rw [if_pos rfl,Hz hs ho (h1.1.trans hn) v hv]
    ·rw [if_neg hji,Hy hs ho (Ne.symm hji)]
   ·have hall: ∀j,j<i->listed.getD j false=true:=fun j hj=>UY ht hc ⟨o,ho,AJ⟩ hil hin hj
    have hi0:i=n0:=by
     rcases Nat.lt_or_ge n0 i with h | h
     ·have:=hT n0 (Nat.le_refl _)
      rw [hall n0 h] at this
      cases this
     ·omega
    subst hi0
    have hml:=hmid (fun k=>listed.getD k false) a w h1 (h1.1.trans hn) h2 hall
    refine wpOp_mono (fun a' w' h'=>.inr ⟨i+1,by omega,by omega,fun j hj=>?_,h'⟩) (hnext i a w hil hml)
    have e1:(listed.setIfInBounds i true).getD j false=mark (fun k=>listed.getD k false) i j:=congrFun (hset listed i hsz hil) j
    rw [e1]
    unfold mark
    by_cases e:j=i
    ·rw [if_pos e,decide_eq_true (by omega)]
    ·rw [if_neg e]
     show listed.getD j false=_
     rcases Nat.lt_or_ge j i with h | h
     ·rw [hall j h,decide_eq_true (by omega)]
     ·rw [hT j (by omega),decide_eq_false (by omega)]
  ·have hik:i=k:=by
    have hki:k<=i:=by
     rcases Nat.lt_or_ge i k with h | h
     ·have:=k3 i hil
      rw [hL,decide_eq_true h] at this
      cases this
     ·exact h
    rcases Nat.lt_or_ge k i with h | h
    ·have h1:=KH ⟨o,ho,AJ⟩ (YA ht hil (show n0<=k by omega) (by omega) h)
     have h2:=k3 k (by omega)
     rw [h1,decide_eq_false (Nat.lt_irrefl k)] at h2
     cases h2
    ·omega
   subst hik
   refine wpOp_mono (fun a' w' h'=>.inr ⟨i+1,by omega,by omega,fun j hj=>?_,h'⟩) (hnext i a w hil k4)
   have e1:(listed.setIfInBounds i true).getD j false=mark (fun k=>listed.getD k false) i j:=congrFun (hset listed i hsz hil) j
   rw [e1]
   unfold mark
   by_cases e:j=i
   ·rw [if_pos e,decide_eq_true (by omega)]
   ·rw [if_neg e]
    show listed.getD j false=_
    rw [k3 j hj]
    rcases Nat.lt_or_ge j i with h | h
    ·rw [decide_eq_true h,decide_eq_true (by omega)]
    ·rw [decide_eq_false (by omega),decide_eq_false (by omega)]
 ·unfold FN
  rw [Array.toList_replicate,List.count_replicate]
  simp
 ·have hnone:(fun k=>(Array.replicate ops.size false).getD k false)=fun _=>false:=by
   funext k
   simp only [Array.getD_eq_getD_getElem?,Array.getElem?_replicate]
   split<;>rfl
  refine .inl ⟨fun j _=>congrFun hnone j,⟨rfl,rfl,fun _ _=>rfl⟩,?_,?_⟩
  ·intro j hj
   have e1:(Array.replicate ops.size false).getD j false=false:=congrFun hnone j
   have e2:(Array.replicate ops.size false).getD j false=true:=hj
   rw [e1] at e2
   cases e2
  rw [hnone]
  exact h0
end
theorem OL {P:Program} {Q:Exit->Act->World->Prop} {ops:Array Oper} {id n:Nat} {a0:Act} {w0:World} (n0:Nat) (S:List (Option Nat)) (olds:Nat->Array Value) (sh:C8) (vals:Nat->Value) (sp:Spec) (gs:Nat->Nat)
  (hm:P.follows .mixedOrders=true) (hd:Jj ops=true) (hs:FE ops n=true) (hn:a0.tmps.size=n) (hsh:Fy sh ops=true) (ht:IU ops n0=true)
  (hin: ∀j,Bu sh j=4->some (gs j)∈S/\(olds j).size=gsz sh j/\Box w0 (gs j) (Ih sh j) (olds j)) (hne: ∀i j,Bu sh i=4->Bu sh j=4->i≠j->gs i≠gs j) (hsp:Ao (tys sh) sp)
  (hstep:GS ops S w0 olds sh (Fg sp) gs-> ∀i,i<n0-> ∀L a w,L i=false->DU ops a0 a->a.tmps.size=n->GJ ops S w0 olds sh vals (Fg sp) gs L (fun j=>valOf ops j a) w->(∀o,ops[i]? =some o-> ∀e∈o.after,Region.binds .any e=true->L e.on=true)->Closed ops L->
   Step P ops Q (GJ ops S w0 olds sh vals (Fg sp) gs) L a w i)
  (hdone: ∀(L:Nat->Bool) (u:Nat->Value) w,GJ ops S w0 olds sh vals (Fg sp) gs L u w->(∀j,j<n0->L j=true)->wpList P ops Q (ops.toList.drop n0) (BD ops u ops.size a0) w):(Code.region id ops true).wp P Q a0 w0:=by
 have hGS:GS ops S w0 olds sh (Fg sp) gs:=by
  refine⟨hsh,fun j hk=>⟨(hin j hk).1,(hin j hk).2.2.lt,(hin j hk).2.1⟩,fun j _ v w w' h b=>?_,fun j _ v w w' g T cs h hb hT hk=>?_,hne⟩
  ·unfold Fg at h⊢
   cases hsj:sp.getD j none with
   | none=>trivial
   | some p=>rw [hsj] at h;exact(hsp j p hsj).1 v w w' h b
  ·unfold Fg at h⊢
   cases hsj:sp.getD j none with
   | none=>trivial
   | some p=>rw [hsj] at h;exact(hsp j p hsj).2 v w w' g T cs h hb (Jl hT) hk
 refine Ls (GJ ops S w0 olds sh vals (Fg sp) gs) hm hd hs hn ht (fun L u u' w h hj=>hj.same hGS h) (hstep hGS) ?_ (GJ.start (fun j hk=>(hin j hk).2.2) _)
 intro L a w hsame _ hJ hall
 obtain⟨u,hu,ha⟩:=EY hsame
 rw [ha]
 exact hdone L u w (hJ.same hGS (fun j _=>(hu j).symm)) hall
theorem Dy {a:Act} {d k:Nat} {v:Value} (h:d≠k):(a.put (some d) v).eval (.tmp k)=a.eval (.tmp k):=Act.eval_put (fun x hx=>by
 cases hx
 intro e
 cases e
 exact h rfl)
theorem Dz {a:Act} {v:Value} {x:Operand}:(a.put none v).eval x=a.eval x:=rfl
theorem IV {a:Act} {d:Nat} {v:Value} (h:d<a.tmps.size):(a.put (some d) v).eval (.tmp d)=v:=by
 show(a.tmps.setIfInBounds d v).getD d undef=v
 simp [Array.getD_eq_getD_getElem?,h]
theorem Cb {a:Act} {d:Option Nat} {v:Value}:(a.put d v).tmps.size=a.tmps.size:=by
 cases d with
 | none=>rfl
 | some d=>show(a.tmps.setIfInBounds d v).size=_;simp
end Go.Proofs.YtoaabebgmdbjeaaGreatDoor
namespace Go.Proofs.YtoaabebgmdbjeaaGreatDoor
open Go.RowKit
namespace PG
theorem VX {g:Gr} {y a b:Nat} {p:Pn} (hy:y<g.rows) (i j:Nat):(DW g y a b p).f i j=if i=y then mend (FP (g.f y) a b p) g.AB j else g.f i j:=by
 unfold DW
 rw [if_pos hy]
end PG
theorem IsG.alike {w:World} {G H:PG.Gr} {v:Value} (h:IsG w G v) (e:PG.Alike G H):IsG w H v:=by
 obtain⟨s,rfl,ho⟩:=h
 exact⟨s,by rw [e.1,e.2.1],by rw [<- e.1, <- e.2.1, <- PG.DL e];exact ho⟩
namespace PG
def ZR (all:Bool) (r k y:Nat):Prop:=2<k\/(all=false/\y≠r)\/(k=0/\y<r)\/(k=1/\r<y)
instance (all:Bool) (r k y:Nat):Decidable (ZR all r k y):=inferInstanceAs (Decidable (_\/_))
end PG
end Go.Proofs.YtoaabebgmdbjeaaGreatDoor
